/-
  The Jun dialect's reader: what leaves blanks out; walks: blanks, took, must, number, begins, counts.
-/
import Derived.Test.YtjjlkjfhhpogaaaGreatDoorRd
import Derived.Test.YtjjlkjfhhpogaaaGreatDoorJb
namespace Go.Proofs.YtjjlkjfhhpogaaaGreatDoor
open Go.RowKit

/-- Where the blanks end. -/
def blI (s : ByteArray) (i : Nat) : Nat := i + ((s.data.toList.drop i).length - (dropBl (s.data.toList.drop i)).length)
theorem dropBl_suf : ∀ r : Bs, r.drop (r.length - (dropBl r).length) = dropBl r
  | [] => rfl
  | c :: r => by
    by_cases h : c = 32
    · subst h
      rw [dropBl_32]
      have h1 := dropBl_le r
      have h2 := dropBl_suf r
      have e : (32 :: r : Bs).length - (dropBl r).length = (r.length - (dropBl r).length) + 1 := by simp; omega
      rw [e, List.drop_succ_cons, h2]
    · rw [dropBl_no h, Nat.sub_self]; rfl
theorem blI_drop (s : ByteArray) (i : Nat) : s.data.toList.drop (blI s i) = dropBl (s.data.toList.drop i) := by
  unfold blI
  rw [← List.drop_drop, dropBl_suf]
theorem blI_ge (s : ByteArray) (i : Nat) : i ≤ blI s i := Nat.le_add_right _ _
theorem blI_le {s : ByteArray} {i : Nat} (h : i ≤ s.size) : blI s i ≤ s.size := by
  unfold blI
  rw [drop_len]
  omega
theorem blI_same {s : ByteArray} {i j : Nat} (h1 : i ≤ s.size) (h2 : j ≤ s.size) (h : dropBl (s.data.toList.drop i) = s.data.toList.drop j) : j = blI s i := by
  have e := blI_drop s i
  rw [h] at e
  have e1 := congrArg List.length e
  rw [drop_len, drop_len] at e1
  have := blI_le h1
  omega
theorem blI_idem {s : ByteArray} {i : Nat} (h : i ≤ s.size) : blI s (blI s i) = blI s i :=
  (blI_same (blI_le h) (blI_le h) (by rw [blI_drop, dropBl_idem])).symm
theorem blI_not {s : ByteArray} {i : Nat} (h1 : i ≤ s.size) (h : headIs 32 (s.data.toList.drop i) = false) : blI s i = i := by
  refine (blI_same h1 h1 ?_).symm
  cases e : s.data.toList.drop i with
  | nil => rfl
  | cons c r =>
    rw [e, headIs_cons] at h
    exact dropBl_no (by simpa using h) r
theorem blI_step {s : ByteArray} {i : Nat} (h : headIs 32 (s.data.toList.drop i) = true) : blI s i = blI s (i + 1) := by
  have h1 := headIs_drop h
  refine (blI_same (by omega) (blI_le (by omega)) ?_).symm
  rw [blI_drop, h1.1, dropBl_32]

set_option maxRecDepth 100000 in
set_option maxHeartbeats 4000000 in
theorem blanks_any {s : ByteArray} {b i : Nat} {wr ou fu : Bool} {w : World} (hi : i ≤ s.size) (hs : s.size ≤ 3000) (hb : BlkR w b s i wr ou fu) :
    Calls Tryz.prog 80 #[.pointer (some ⟨b, 0, none⟩)] w fun e w' => (∃ v, e = .returned v) ∧ Ex b w w' ∧ BlkR w' b s (blI s i) wr ou fu := by
  have HS : Hid (s.size ≤ 3000) := hs
  have HT0 : Hid (blI s i = blI s i ∧ i ≤ s.size) := ⟨rfl, hi⟩
  have EX : Hid (Ex b w w) := Ex.refl b w
  have BB : Hid (BlkR w b s i wr ou fu) := hb
  clear hb hs hi
  go_enter Tryz.func80, Tryz.ntmps80
  go_wp2_with fail
  refine wp_scope_jumps 0 (fun a' w' => ∃ (j : Nat) (u2 u3 u4 u5 : Value), a' = { tmps := #[.pointer (some ⟨b, 0, none⟩), undef, u2, u3, u4, u5], defers := [] } ∧ Hid (blI s j = blI s i ∧ j ≤ s.size) ∧ Hid (Ex b w w') ∧ Hid (BlkR w' b s j wr ou fu)) (fun _ w' => s.size - posOf b w') rfl ?first ?pass
  case first =>
    go_wp2_with fail
    go_step3
    cases hc : headIs 32 (s.data.toList.drop i) with
    | true =>
      have kt := took_yes (c := 32) HS.out BB.out hc
      go_wp2_with (go_at_call 46; refine kt.mono ?_; rintro _ w2 ⟨rfl, ex2, b2⟩; have E2 : Hid (Ex b w w2) := ex2; have B2 : Hid (BlkR w2 b s (i + 1) wr ou fu) := b2; clear ex2 b2)
      all_goals go_step3
      all_goals refine ⟨rfl, ?_⟩
      all_goals exact ⟨i + 1, _, _, _, _, rfl, ⟨(blI_step hc).symm, (headIs_drop hc).2⟩, E2, B2⟩
    | false =>
      have kt := took_no (c := 32) HT0.out.2 BB.out hc
      have HB : Hid (blI s i = i) := blI_not HT0.out.2 hc
      go_wp2_with (go_at_call 46; refine kt.mono ?_; rintro _ w2 ⟨rfl, g2⟩; have G2 : Hid (Gr w w2) := g2; clear g2)
      simp only [Exit.jump]
      exact bodyPost_end (results_none rfl _ _ _) rfl ⟨⟨_, rfl⟩, Ex.of_gr G2.out, by rw [HB.out]; exact BB.out.gr G2.out⟩
  case pass =>
    rintro a' wr0 ⟨j, u2, u3, u4, u5, rfl, HT, EX, BB⟩
    have HP : Hid (posOf b wr0 = j) := posOf_blk BB.out
    cases hc : headIs 32 (s.data.toList.drop j) with
    | true =>
      have kt := took_yes (c := 32) HS.out BB.out hc
      go_wp2_with (go_at_call 46; refine kt.mono ?_; rintro _ w2 ⟨rfl, ex2, b2⟩; have E2 : Hid (Ex b w w2) := EX.out.trans ex2; have B2 : Hid (BlkR w2 b s (j + 1) wr ou fu) := b2; clear ex2 b2)
      all_goals go_step3
      all_goals refine ⟨rfl, ?_⟩
      all_goals exact ⟨⟨j + 1, _, _, _, _, rfl, ⟨(blI_step hc).symm.trans HT.out.1, (headIs_drop hc).2⟩, E2, B2⟩, by rw [posOf_blk B2.out, HP.out]; have := (headIs_drop hc).2; omega⟩
    | false =>
      have kt := took_no (c := 32) HT.out.2 BB.out hc
      have HB : Hid (blI s i = j) := HT.out.1.symm.trans (blI_not HT.out.2 hc)
      go_wp2_with (go_at_call 46; refine kt.mono ?_; rintro _ w2 ⟨rfl, g2⟩; have G2 : Hid (Gr wr0 w2) := g2; clear g2)
      simp only [Exit.jump]
      exact bodyPost_end (results_none rfl _ _ _) rfl ⟨⟨_, rfl⟩, EX.out.trans (Ex.of_gr G2.out), by rw [HB.out]; exact BB.out.gr G2.out⟩

/-- Where a sign that is taken, if it stands there, leaves the reader. -/
def tkI (s : ByteArray) (c : UInt8) (p : Nat) : Nat := if headIs c (s.data.toList.drop p) = true then p + 1 else p
theorem tkI_le {s : ByteArray} {c : UInt8} {p : Nat} (hp : p ≤ s.size) : p ≤ tkI s c p ∧ tkI s c p ≤ s.size := by
  unfold tkI
  split
  · rename_i h; have := (headIs_drop h).2; omega
  · omega

set_option maxRecDepth 100000 in
theorem jtook_any {s : ByteArray} {b i p : Nat} {wr ou fu : Bool} {c : UInt8} {w : World} (hs : s.size ≤ 3000) (hi : i ≤ s.size) (hp : blI s i = p) (hb : BlkR w b s i wr ou fu) :
    Calls Tryz.prog 63 #[.pointer (some ⟨b, 0, none⟩), .int .u8 c.toNat] w fun e w' => e = .returned (.bool (headIs c (s.data.toList.drop p))) ∧ Ex b w w' ∧ BlkR w' b s (tkI s c p) wr ou fu := by
  have kb := blanks_any hi hs hb
  rw [hp] at kb
  have hps : p ≤ s.size := by rw [← hp]; exact blI_le hi
  have kt : ∀ W, BlkR W b s p wr ou fu → Calls Tryz.prog 46 #[.pointer (some ⟨b, 0, none⟩), .int .u8 c.toNat] W fun e w' => e = .returned (.bool (headIs c (s.data.toList.drop p))) ∧ Ex b W w' ∧ BlkR w' b s (tkI s c p) wr ou fu := by
    intro W h
    unfold tkI
    cases hc : headIs c (s.data.toList.drop p) with
    | true => exact (took_yes hs h hc).mono fun _ _ h' => ⟨h'.1, h'.2.1, h'.2.2⟩
    | false => exact (took_no hps h hc).mono fun _ _ h' => ⟨h'.1, .of_gr h'.2, h.gr h'.2⟩
  generalize headIs c (s.data.toList.drop p) = q at *
  clear hb hi hs hp hps
  go_enter Tryz.func63, Tryz.ntmps63
  go_wp2_with (first
    | (go_at_call 80; refine kb.mono ?_; rintro _ w2 ⟨⟨v2, rfl⟩, ex2, b2⟩; have E2 : Hid (Ex b w w2) := ex2; have B2 : Hid (BlkR w2 b s p wr ou fu) := b2; clear ex2 b2)
    | (go_at_call 46; refine (kt _ B2.out).mono ?_; rintro _ w3 ⟨rfl, ex3, b3⟩; have E3 : Hid (Ex b w w3) := E2.out.trans ex3; have B3 : Hid (BlkR w3 b s (tkI s c p) wr ou fu) := b3; clear ex3 b3))
  go_ret
  exact ⟨rfl, E3.out, B3.out⟩

set_option maxRecDepth 100000 in
theorem jmust_any {s : ByteArray} {b i p : Nat} {wr ou fu : Bool} {c : UInt8} {w : World} (hs : s.size ≤ 3000) (hi : i ≤ s.size) (hp : blI s i = p) (hb : BlkR w b s i wr ou fu) :
    Calls Tryz.prog 114 #[.pointer (some ⟨b, 0, none⟩), .int .u8 c.toNat] w fun e w' => (∃ v, e = .returned v) ∧ Ex b w w' ∧ BlkR w' b s (mustI s c p) (mustW s c p wr) ou fu := by
  have kb := blanks_any hi hs hb
  rw [hp] at kb
  have hps : p ≤ s.size := by rw [← hp]; exact blI_le hi
  have kt := fun (W : World) (h : BlkR W b s p wr ou fu) => must_any (c := c) hs hps h
  clear hb hi hs hp hps
  go_enter Tryz.func114, Tryz.ntmps114
  go_wp2_with (first
    | (go_at_call 80; refine kb.mono ?_; rintro _ w2 ⟨⟨v2, rfl⟩, ex2, b2⟩; have E2 : Hid (Ex b w w2) := ex2; have B2 : Hid (BlkR w2 b s p wr ou fu) := b2; clear ex2 b2)
    | (go_at_call 119; refine (kt _ B2.out).mono ?_; rintro _ w3 ⟨⟨v3, rfl⟩, ex3, b3⟩; have E3 : Hid (Ex b w w3) := E2.out.trans ex3; have B3 : Hid (BlkR w3 b s (mustI s c p) (mustW s c p wr) ou fu) := b3; clear ex3 b3))
  exact bodyPost_end (results_none rfl _ _ _) rfl ⟨⟨_, rfl⟩, E3.out, B3.out⟩

set_option maxRecDepth 100000 in
theorem jnumber_any {s : ByteArray} {b i p : Nat} {wr ou fu : Bool} {w : World} (hs : s.size ≤ 3000) (hi : i ≤ s.size) (hp : blI s i = p) (hb : BlkR w b s i wr ou fu) :
    Calls Tryz.prog 115 #[.pointer (some ⟨b, 0, none⟩)] w fun e w' => NumP s b p wr ou fu w e w' := by
  have kb := blanks_any hi hs hb
  rw [hp] at kb
  have hps : p ≤ s.size := by rw [← hp]; exact blI_le hi
  have kt := fun (W : World) (h : BlkR W b s p wr ou fu) => number_any hps hs h
  clear hb hi hs hp hps
  go_enter Tryz.func115, Tryz.ntmps115
  go_wp2_with (first
    | (go_at_call 80; refine kb.mono ?_; rintro _ w2 ⟨⟨v2, rfl⟩, ex2, b2⟩; have E2 : Hid (Ex b w w2) := ex2; have B2 : Hid (BlkR w2 b s p wr ou fu) := b2; clear ex2 b2)
    | (go_at_call 120; refine (kt _ B2.out).mono ?_; rintro _ w3 ⟨n3, i3, wr3, rfl, ex3, h3⟩; have E3 : Hid (Ex b w w3) := E2.out.trans ex3; have H3 : Hid (BlkR w3 b s i3 wr3 (ou || decide (4294967295 < n3)) fu ∧ i3 ≤ s.size ∧ p ≤ i3 ∧ (p < s.size → p < i3) ∧ NumQ s p wr n3 i3 wr3) := h3; clear ex3 h3))
  go_ret
  exact ⟨n3, i3, wr3, rfl, E3.out, H3.out⟩

theorem begins_nx (s : ByteArray) (p : Nat) : beginsM (s.data.toList.drop p) = (decide (48 ≤ nx s p) && decide (nx s p ≤ 57) || decide (nx s p = 46) || decide (nx s p = 33) || decide (nx s p = 40)) := by
  unfold nx
  cases s.data.toList.drop p with
  | nil => rfl
  | cons z r =>
    have k : ∀ (n : Nat), n < 256 → decide (z = UInt8.ofNat n) = decide (z.toNat = n) := by
      intro n hn
      apply Bool.eq_iff_iff.2
      simp only [decide_eq_true_eq]
      constructor
      · rintro rfl; simp; omega
      · intro h; rw [← h]; simp
    have k1 := k 46 (by decide)
    have k2 := k 33 (by decide)
    have k3 := k 40 (by decide)
    show (isDig z || decide (z = 46) || decide (z = 33) || decide (z = 40)) = _
    rw [show (46 : UInt8) = UInt8.ofNat 46 from rfl, show (33 : UInt8) = UInt8.ofNat 33 from rfl, show (40 : UInt8) = UInt8.ofNat 40 from rfl, k1, k2, k3]
    rfl

set_option maxRecDepth 100000 in
set_option maxHeartbeats 2000000 in
theorem begins_any {s : ByteArray} {b i p : Nat} {wr ou fu : Bool} {w : World} (hs : s.size ≤ 3000) (hi : i ≤ s.size) (hp : blI s i = p) (hb : BlkR w b s i wr ou fu) :
    Calls Tryz.prog 78 #[.pointer (some ⟨b, 0, none⟩)] w fun e w' => e = .returned (.bool (beginsM (s.data.toList.drop p))) ∧ Ex b w w' ∧ BlkR w' b s p wr ou fu := by
  have kb := blanks_any hi hs hb
  rw [hp] at kb
  have hps : p ≤ s.size := by rw [← hp]; exact blI_le hi
  have kt := fun (W : World) (h : BlkR W b s p wr ou fu) => next_any hps h
  rw [begins_nx]
  generalize nx s p = x at *
  generalize decide (p < s.size) = q at *
  have z1 : decide ((48 : Int) ≤ (x : Int)) = decide (48 ≤ x) := by apply Bool.eq_iff_iff.2; simp <;> omega
  have z2 : decide ((x : Int) ≤ 57) = decide (x ≤ 57) := by apply Bool.eq_iff_iff.2; simp <;> omega
  have z3 : ((x : Int) == 46) = decide (x = 46) := by apply Bool.eq_iff_iff.2; simp <;> omega
  have z4 : ((x : Int) == 33) = decide (x = 33) := by apply Bool.eq_iff_iff.2; simp <;> omega
  have z5 : ((x : Int) == 40) = decide (x = 40) := by apply Bool.eq_iff_iff.2; simp <;> omega
  generalize decide (48 ≤ x) = p1 at *
  generalize decide (x ≤ 57) = p2 at *
  generalize decide (x = 46) = p3 at *
  generalize decide (x = 33) = p4 at *
  generalize decide (x = 40) = p5 at *
  clear hb hi hs hp hps
  cases p1 <;> cases p2 <;> cases p3 <;> cases p4 <;> cases p5 <;> (
    go_enter Tryz.func78, Tryz.ntmps78
    go_wp2_with (first
      | (go_at_call 80; refine kb.mono ?_; rintro _ w2 ⟨⟨v2, rfl⟩, ex2, b2⟩; have E2 : Hid (Ex b w w2) := ex2; have B2 : Hid (BlkR w2 b s p wr ou fu) := b2; clear ex2 b2)
      | (go_at_call 65; refine (kt _ B2.out).mono ?_; rintro _ w3 ⟨rfl, g3⟩; have E3 : Hid (Ex b w w3) := E2.out.trans (Ex.of_gr g3); have B3 : Hid (BlkR w3 b s p wr ou fu) := B2.out.gr g3; clear g3))
    go_ret
    exact ⟨rfl, E3.out, B3.out⟩)

/-- What counts comes to. -/
def CntD (s : ByteArray) (i : Nat) (wr ou : Bool) (m n : Int) (i' : Nat) (wr' ou' : Bool) : Prop :=
  (wr = true → wr' = true) ∧ (wr = false → (countsM (s.data.toList.drop i) = none ∧ wr' = true) ∨ ∃ o r, countsM (s.data.toList.drop i) = some (m, n, o, r) ∧ wr' = false ∧ s.data.toList.drop i' = r ∧ ou' = (ou || o))
def CntP (s : ByteArray) (b i : Nat) (wr ou fu : Bool) (w : World) (e : Ending) (w' : World) : Prop :=
  ∃ (m n : Int) (i' : Nat) (wr' ou' : Bool), e = .returned (.tuple #[.int .i64 m, .int .i64 n]) ∧ Ex b w w' ∧ BlkR w' b s i' wr' ou' fu ∧ i ≤ i' ∧ i' ≤ s.size ∧ (0 ≤ m ∧ m ≤ 4294967295) ∧ (-1 ≤ n ∧ n ≤ 4294967295) ∧ CntD s i wr ou m n i' wr' ou'

theorem counts_num {s : ByteArray} {i p i1 m : Nat} {wr wr1 : Bool} (hp : blI s i = p) (h : NumQ s p wr m i1 wr1) (hw : wr = false) : (countsM (s.data.toList.drop i) = none ∧ wr1 = true) ∨ (wr1 = false ∧ countsM (s.data.toList.drop i) =
    match s.data.toList.drop (blI s i1) with
    | [] => none
    | c :: r2 =>
      if c = 44 then
        match dropBl r2 with
        | [] => none
        | d :: r3 => if d = 125 then some (YtjjlkjfhhpogaaaGreatDoor.wr m, -1, decide (4294967295 < m), r3) else mostM m (d :: r3)
      else if c = 125 then some (YtjjlkjfhhpogaaaGreatDoor.wr m, YtjjlkjfhhpogaaaGreatDoor.wr m, decide (4294967295 < m), r2) else none) := by
  subst hp
  unfold NumQ at h
  rw [blI_drop] at h
  unfold countsM
  rcases h with ⟨h1, h2⟩ | ⟨r, h1, h2, h3⟩
  · left; rw [h1]; exact ⟨rfl, h2⟩
  · right
    rw [h1, blI_drop, h3]
    exact ⟨h2.trans hw, rfl⟩
theorem headIs_cases {s : ByteArray} {c : UInt8} {p : Nat} (h : headIs c (s.data.toList.drop p) = false) : s.data.toList.drop p = [] ∨ ∃ d r, s.data.toList.drop p = d :: r ∧ d ≠ c := by
  cases e : s.data.toList.drop p with
  | nil => exact Or.inl rfl
  | cons d r =>
    rw [e, headIs_cons] at h
    exact Or.inr ⟨d, r, rfl, by simpa using h⟩
theorem most_num {s : ByteArray} {p i1 m n : Nat} {wr1 : Bool} (h : NumQ s p false n i1 wr1) : (mostM m (s.data.toList.drop p) = none ∧ mustW s 125 (blI s i1) wr1 = true) ∨ (mustW s 125 (blI s i1) wr1 = false ∧ mostM m (s.data.toList.drop p) = some (YtjjlkjfhhpogaaaGreatDoor.wr m, YtjjlkjfhhpogaaaGreatDoor.wr n, decide (4294967295 < m) || decide (4294967295 < n) || decide (YtjjlkjfhhpogaaaGreatDoor.wr n < YtjjlkjfhhpogaaaGreatDoor.wr m), s.data.toList.drop (mustI s 125 (blI s i1)))) := by
  unfold mostM
  rcases h with ⟨h1, h2⟩ | ⟨r, h1, h2, h3⟩
  · left; rw [h1]; exact ⟨rfl, by unfold mustW; rw [h2]; rfl⟩
  · subst h2
    rw [h1]
    simp only
    rw [← h3, ← blI_drop]
    rcases must_some (s := s) (c := 125) (i := blI s i1) rfl with ⟨q, a1, a2, a3⟩ | ⟨a1, a2⟩
    · right
      rw [a1, a3]
      exact ⟨a2, rfl⟩
    · left
      refine ⟨?_, a2 _⟩
      cases e : s.data.toList.drop (blI s i1) with
      | nil => rfl
      | cons d r =>
        simp only
        rw [if_neg]
        rintro rfl
        exact a1 r e
theorem must_stop {s : ByteArray} {p : Nat} (h : headIs 44 (s.data.toList.drop p) = false) (m : Int) (o : Bool) (F : Bs → Option (Int × Int × Bool × Bs)) : ((match s.data.toList.drop p with | [] => none | c :: r2 => if c = 44 then F r2 else if c = 125 then some (m, m, o, r2) else none) = none ∧ ∀ w, mustW s 125 p w = true) ∨ ((match s.data.toList.drop p with | [] => none | c :: r2 => if c = 44 then F r2 else if c = 125 then some (m, m, o, r2) else none) = some (m, m, o, s.data.toList.drop (mustI s 125 p)) ∧ mustW s 125 p false = false) := by
  rcases must_some (s := s) (c := 125) (i := p) rfl with ⟨q, a1, a2, a3⟩ | ⟨a1, a2⟩
  · right
    rw [a1, a3]
    exact ⟨rfl, a2⟩
  · left
    refine ⟨?_, a2⟩
    rcases headIs_cases h with e | ⟨d, r, e, hd⟩
    · rw [e]
    · rw [e]
      simp only
      rw [if_neg hd, if_neg]
      rintro rfl
      exact a1 r e

theorem cnt_A {s : ByteArray} {i p i6 p6 p7 m6 : Nat} {wr wr6 ou : Bool} (hp : blI s i = p) (h6 : NumQ s p wr m6 i6 wr6) (hp6 : blI s i6 = p6) (h44 : headIs 44 (s.data.toList.drop p6) = true) (hp7 : blI s (p6 + 1) = p7) (h125 : headIs 125 (s.data.toList.drop p7) = true) : CntD s i wr ou (YtjjlkjfhhpogaaaGreatDoor.wr m6) (-1) (p7 + 1) wr6 (ou || decide (4294967295 < m6)) := by
  refine ⟨h6.wrong, fun hw => ?_⟩
  rcases counts_num hp h6 hw with h | ⟨h1, h2⟩
  · exact Or.inl h
  · right
    refine ⟨decide (4294967295 < m6), s.data.toList.drop (p7 + 1), ?_, h1, rfl, rfl⟩
    rw [h2, hp6, (headIs_drop h44).1]
    simp only [if_true]
    rw [← blI_drop, hp7, (headIs_drop h125).1]
    simp only [if_true]
theorem cnt_B {s : ByteArray} {i p i6 p6 p7 i8 p8 m6 n8 : Nat} {wr wr6 wr8 ou : Bool} (hp : blI s i = p) (h6 : NumQ s p wr m6 i6 wr6) (hp6 : blI s i6 = p6) (h44 : headIs 44 (s.data.toList.drop p6) = true) (hp7 : blI s (p6 + 1) = p7) (h125 : headIs 125 (s.data.toList.drop p7) = false) (h8 : NumQ s p7 wr6 n8 i8 wr8) (hp8 : blI s i8 = p8) : CntD s i wr ou (YtjjlkjfhhpogaaaGreatDoor.wr m6) (YtjjlkjfhhpogaaaGreatDoor.wr n8) (mustI s 125 p8) (mustW s 125 p8 wr8) (((ou || decide (4294967295 < m6)) || decide (4294967295 < n8)) || decide (YtjjlkjfhhpogaaaGreatDoor.wr n8 < YtjjlkjfhhpogaaaGreatDoor.wr m6)) := by
  refine ⟨fun hw => by unfold mustW; rw [h8.wrong (h6.wrong hw)]; rfl, fun hw => ?_⟩
  rcases counts_num hp h6 hw with ⟨h1, h2⟩ | ⟨h1, h2⟩
  · exact Or.inl ⟨h1, by unfold mustW; rw [h8.wrong h2]; rfl⟩
  · subst h1
    have hm := most_num (m := m6) h8
    rw [hp8] at hm
    have e : countsM (s.data.toList.drop i) = mostM m6 (s.data.toList.drop p7) := by
      rw [h2, hp6, (headIs_drop h44).1]
      simp only [if_true]
      rw [← blI_drop, hp7]
      rcases headIs_cases h125 with e | ⟨d, r, e, hd⟩
      · rw [e]; rfl
      · rw [e]; simp only; rw [if_neg hd]
    rw [e]
    rcases hm with hm | ⟨m1, m2⟩
    · exact Or.inl hm
    · exact Or.inr ⟨_, _, m2, m1, rfl, by simp [Bool.or_assoc]⟩
theorem cnt_C {s : ByteArray} {i p i6 p6 m6 : Nat} {wr wr6 ou : Bool} (hp : blI s i = p) (h6 : NumQ s p wr m6 i6 wr6) (hp6 : blI s i6 = p6) (h44 : headIs 44 (s.data.toList.drop p6) = false) : CntD s i wr ou (YtjjlkjfhhpogaaaGreatDoor.wr m6) (YtjjlkjfhhpogaaaGreatDoor.wr m6) (mustI s 125 p6) (mustW s 125 p6 wr6) ((ou || decide (4294967295 < m6)) || decide (YtjjlkjfhhpogaaaGreatDoor.wr m6 < YtjjlkjfhhpogaaaGreatDoor.wr m6)) := by
  refine ⟨fun hw => by unfold mustW; rw [h6.wrong hw]; rfl, fun hw => ?_⟩
  rcases counts_num hp h6 hw with ⟨h1, h2⟩ | ⟨h1, h2⟩
  · exact Or.inl ⟨h1, by unfold mustW; rw [h2]; rfl⟩
  · subst h1
    rw [h2, hp6]
    rcases must_stop h44 (YtjjlkjfhhpogaaaGreatDoor.wr m6) (decide (4294967295 < m6)) (fun r2 => match dropBl r2 with
        | [] => none
        | d :: r3 => if d = 125 then some (YtjjlkjfhhpogaaaGreatDoor.wr m6, -1, decide (4294967295 < m6), r3) else mostM m6 (d :: r3)) with ⟨m1, m2⟩ | ⟨m1, m2⟩
    · exact Or.inl ⟨m1, m2 _⟩
    · exact Or.inr ⟨_, _, m1, m2, rfl, by simp⟩

set_option maxRecDepth 100000 in
set_option maxHeartbeats 4000000 in
theorem counts_any {s : ByteArray} {b i : Nat} {wr ou fu : Bool} {w : World} (hs : s.size ≤ 3000) (hi : i ≤ s.size) (hb : BlkR w b s i wr ou fu) :
    Calls Tryz.prog 97 #[.pointer (some ⟨b, 0, none⟩)] w fun e w' => CntP s b i wr ou fu w e w' := by
  obtain ⟨p, hp⟩ : ∃ p, blI s i = p := ⟨_, rfl⟩
  have HP : Hid (blI s i = p) := hp
  have HPi : Hid (i ≤ p) := by rw [← hp]; exact blI_ge _ _
  have HS : Hid (s.size ≤ 3000) := hs
  have k1 := jnumber_any hs hi hp hb
  have kT : ∀ (c : UInt8) (j q : Nat) (wr' ou' : Bool) (W : World), j ≤ s.size → blI s j = q → BlkR W b s j wr' ou' fu → Calls Tryz.prog 63 #[.pointer (some ⟨b, 0, none⟩), .int .u8 c.toNat] W fun e w' => e = .returned (.bool (headIs c (s.data.toList.drop q))) ∧ Ex b W w' ∧ BlkR w' b s (tkI s c q) wr' ou' fu := fun c j q wr' ou' W h1 h2 h3 => jtook_any hs h1 h2 h3
  have kM : ∀ (c : UInt8) (j q : Nat) (wr' ou' : Bool) (W : World), j ≤ s.size → blI s j = q → BlkR W b s j wr' ou' fu → Calls Tryz.prog 114 #[.pointer (some ⟨b, 0, none⟩), .int .u8 c.toNat] W fun e w' => (∃ v, e = .returned v) ∧ Ex b W w' ∧ BlkR w' b s (mustI s c q) (mustW s c q wr') ou' fu := fun c j q wr' ou' W h1 h2 h3 => jmust_any hs h1 h2 h3
  have kr : ∀ (j : Nat) (l h : Int) (wr' ou' : Bool) (W : World), BlkR W b s j wr' ou' fu → Calls Tryz.prog 118 #[.pointer (some ⟨b, 0, none⟩), .int .u32 l, .int .u32 h] W fun e w' => (∃ v, e = .returned v) ∧ Ex b W w' ∧ BlkR w' b s j wr' (ou' || decide (h < l)) fu := fun j l h wr' ou' W h1 => rise_any h1
  clear hb hi hs hp
  go_enter Tryz.func97, Tryz.ntmps97
  go_upto_region 3 with (go_at_call 115; refine k1.mono ?_; rintro _ w6 ⟨m6, i6, wr6, rfl, ex6, b6, l6, l6', _, q6⟩; have E6 : Hid (Ex b w w6) := ex6; have B6 : Hid (BlkR w6 b s i6 wr6 (ou || decide (4294967295 < m6)) fu) := b6; have L6 : Hid (i6 ≤ s.size ∧ p ≤ i6) := ⟨l6, l6'⟩; have Q6 : Hid (NumQ s p wr m6 i6 wr6) := q6; clear ex6 b6 l6 l6' q6)
  clear k1
  obtain ⟨M, hM⟩ : ∃ M, M = YtjjlkjfhhpogaaaGreatDoor.wr m6 := ⟨_, rfl⟩
  have HM : Hid (M = YtjjlkjfhhpogaaaGreatDoor.wr m6) := hM
  have bM : 0 ≤ M ∧ M ≤ 4294967295 := by rw [hM]; exact wr_bound _
  have wM : IntKind.i64.wrap M = M := by rw [IntKind.wrap_i64]; omega
  rw [← hM]
  clear hM
  obtain ⟨p6, hp6⟩ : ∃ p, blI s i6 = p := ⟨_, rfl⟩
  have HP6 : Hid (blI s i6 = p6) := hp6
  have HL6 : Hid (i6 ≤ p6 ∧ p6 ≤ s.size) := by rw [← hp6]; exact ⟨blI_ge _ _, blI_le L6.out.1⟩
  clear hp6
  have BM : Hid (0 ≤ M ∧ M ≤ 4294967295) := bM
  cases h44 : headIs 44 (s.data.toList.drop p6) with
  | true =>
    have kT44 : ∀ W, BlkR W b s i6 wr6 (ou || decide (4294967295 < m6)) fu → Calls Tryz.prog 63 #[.pointer (some ⟨b, 0, none⟩), .int .u8 44] W fun e w' => e = .returned (.bool true) ∧ Ex b W w' ∧ BlkR w' b s (p6 + 1) wr6 (ou || decide (4294967295 < m6)) fu := fun W h => by
      have := kT 44 i6 p6 wr6 _ W L6.out.1 HP6.out h
      unfold tkI at this
      rw [h44] at this
      exact this
    have hl7 := (headIs_drop h44).2
    obtain ⟨p7, hp7⟩ : ∃ p, blI s (p6 + 1) = p := ⟨_, rfl⟩
    have HP7 : Hid (blI s (p6 + 1) = p7) := hp7
    have HL7 : Hid (p6 + 1 ≤ p7 ∧ p7 ≤ s.size) := by rw [← hp7]; exact ⟨blI_ge _ _, blI_le hl7⟩
    have HI7 : Hid (blI s p7 = p7) := by show _ = _; rw [← hp7]; exact blI_idem hl7
    cases h125 : headIs 125 (s.data.toList.drop p7) with
    | true =>
      have kT125 : ∀ W, BlkR W b s (p6 + 1) wr6 (ou || decide (4294967295 < m6)) fu → Calls Tryz.prog 63 #[.pointer (some ⟨b, 0, none⟩), .int .u8 125] W fun e w' => e = .returned (.bool true) ∧ Ex b W w' ∧ BlkR w' b s (p7 + 1) wr6 (ou || decide (4294967295 < m6)) fu := fun W h => by
        have := kT 125 (p6 + 1) p7 wr6 _ W hl7 hp7 h
        unfold tkI at this
        rw [h125] at this
        exact this
      have hl8 := (headIs_drop h125).2
      clear hp7 kT kM kr bM
      go_wp2_with (first
        | (go_at_call 63; (with_reducible refine (kT44 _ B6.out).mono ?_); rintro _ w7 ⟨rfl, ex7, b7⟩; have E7 : Hid (Ex b w w7) := E6.out.trans ex7; have B7 : Hid (BlkR w7 b s (p6 + 1) wr6 (ou || decide (4294967295 < m6)) fu) := b7; clear ex7 b7)
        | (go_at_call 63; (with_reducible refine (kT125 _ B7.out).mono ?_); rintro _ w8 ⟨rfl, ex8, b8⟩; have E8 : Hid (Ex b w w8) := E7.out.trans ex8; have B8 : Hid (BlkR w8 b s (p7 + 1) wr6 (ou || decide (4294967295 < m6)) fu) := b8; clear ex8 b8))
      refine bodyPost_ret (v := .tuple #[.int .i64 M, .int .i64 (-1)]) (by simp [results, Tryz.results97, go_sem]) rfl ⟨M, -1, p7 + 1, wr6, _, rfl, E8.out, B8.out, ?_, by omega, BM.out, by omega, by rw [HM.out]; exact cnt_A HP.out Q6.out HP6.out h44 HP7.out h125⟩
      have h1 := HPi.out; have h2 := L6.out.2; have h3 := HL6.out.1; have h4 := HL7.out.1
      omega
    | false =>
      have kT125 : ∀ W, BlkR W b s (p6 + 1) wr6 (ou || decide (4294967295 < m6)) fu → Calls Tryz.prog 63 #[.pointer (some ⟨b, 0, none⟩), .int .u8 125] W fun e w' => e = .returned (.bool false) ∧ Ex b W w' ∧ BlkR w' b s p7 wr6 (ou || decide (4294967295 < m6)) fu := fun W h => by
        have := kT 125 (p6 + 1) p7 wr6 _ W hl7 hp7 h
        unfold tkI at this
        rw [h125] at this
        exact this
      have k8 := fun (W : World) (h : BlkR W b s p7 wr6 (ou || decide (4294967295 < m6)) fu) => jnumber_any HS.out HL7.out.2 HI7.out h
      clear hp7 bM
      go_upto_region 7 with (first
        | (go_at_call 63; (with_reducible refine (kT44 _ B6.out).mono ?_); rintro _ w7 ⟨rfl, ex7, b7⟩; have E7 : Hid (Ex b w w7) := E6.out.trans ex7; have B7 : Hid (BlkR w7 b s (p6 + 1) wr6 (ou || decide (4294967295 < m6)) fu) := b7; clear ex7 b7)
        | (go_at_call 63; (with_reducible refine (kT125 _ B7.out).mono ?_); rintro _ w8 ⟨rfl, ex8, b8⟩; have E8 : Hid (Ex b w w8) := E7.out.trans ex8; have B8 : Hid (BlkR w8 b s p7 wr6 (ou || decide (4294967295 < m6)) fu) := b8; clear ex8 b8)
        | (go_at_call 115; refine (k8 _ B8.out).mono ?_; rintro _ w9 ⟨n9, i9, wr9, rfl, ex9, b9, l9, l9', _, q9⟩; have E9 : Hid (Ex b w w9) := E8.out.trans ex9; have B9 : Hid (BlkR w9 b s i9 wr9 ((ou || decide (4294967295 < m6)) || decide (4294967295 < n9)) fu) := b9; have L9 : Hid (i9 ≤ s.size ∧ p7 ≤ i9) := ⟨l9, l9'⟩; have Q9 : Hid (NumQ s p7 wr6 n9 i9 wr9) := q9; clear ex9 b9 l9 l9' q9))
      obtain ⟨N, hN⟩ : ∃ N, N = YtjjlkjfhhpogaaaGreatDoor.wr n9 := ⟨_, rfl⟩
      have HN : Hid (N = YtjjlkjfhhpogaaaGreatDoor.wr n9) := hN
      have bN : 0 ≤ N ∧ N ≤ 4294967295 := by rw [hN]; exact wr_bound _
      have wN : IntKind.i64.wrap N = N := by rw [IntKind.wrap_i64]; omega
      rw [← hN]
      clear hN kT44 kT125 kT k8 E7 E8 B7 B8 E6 B6
      obtain ⟨p9, hp9⟩ : ∃ p, blI s i9 = p := ⟨_, rfl⟩
      have HP9 : Hid (blI s i9 = p9) := hp9
      have HL9 : Hid (i9 ≤ p9 ∧ p9 ≤ s.size) := by rw [← hp9]; exact ⟨blI_ge _ _, blI_le L9.out.1⟩
      have kM2 : ∀ W, BlkR W b s i9 wr9 ((ou || decide (4294967295 < m6)) || decide (4294967295 < n9)) fu → Calls Tryz.prog 114 #[.pointer (some ⟨b, 0, none⟩), .int .u8 125] W fun e w' => (∃ v, e = .returned v) ∧ Ex b W w' ∧ BlkR w' b s (mustI s 125 p9) (mustW s 125 p9 wr9) ((ou || decide (4294967295 < m6)) || decide (4294967295 < n9)) fu := fun W h => kM 125 i9 p9 _ _ W L9.out.1 hp9 h
      have BN : Hid (0 ≤ N ∧ N ≤ 4294967295) := bN
      clear hp9 kM bN
      go_wp2_with (first
        | (go_at_call 114; refine (kM2 _ B9.out).mono ?_; rintro _ w10 ⟨⟨v10, rfl⟩, ex10, b10⟩; have E10 : Hid (Ex b w w10) := E9.out.trans ex10; have B10 : Hid (BlkR w10 b s (mustI s 125 p9) (mustW s 125 p9 wr9) ((ou || decide (4294967295 < m6)) || decide (4294967295 < n9)) fu) := b10; clear ex10 b10)
        | (go_at_call 118; refine (kr _ M N _ _ _ B10.out).mono ?_; rintro _ w11 ⟨⟨v11, rfl⟩, ex11, b11⟩; have E11 : Hid (Ex b w w11) := E10.out.trans ex11; have B11 : Hid (BlkR w11 b s (mustI s 125 p9) (mustW s 125 p9 wr9) (((ou || decide (4294967295 < m6)) || decide (4294967295 < n9)) || decide (N < M)) fu) := b11; clear ex11 b11))
      refine bodyPost_ret (v := .tuple #[.int .i64 M, .int .i64 N]) (by simp [results, Tryz.results97, go_sem]) rfl ⟨M, N, mustI s 125 p9, mustW s 125 p9 wr9, _, rfl, E11.out, B11.out, ?_, (mustI_le HL9.out.2).2, BM.out, ⟨by have := BN.out; omega, BN.out.2⟩, by rw [HM.out, HN.out]; exact cnt_B HP.out Q6.out HP6.out h44 HP7.out h125 Q9.out HP9.out⟩
      have h1 := HPi.out; have h2 := L6.out.2; have h3 := HL6.out.1; have h4 := HL7.out.1; have h5 := L9.out.2; have h6 := HL9.out.1; have h7 := (mustI_le (c := 125) HL9.out.2).1
      omega
  | false =>
    have kT44 : ∀ W, BlkR W b s i6 wr6 (ou || decide (4294967295 < m6)) fu → Calls Tryz.prog 63 #[.pointer (some ⟨b, 0, none⟩), .int .u8 44] W fun e w' => e = .returned (.bool false) ∧ Ex b W w' ∧ BlkR w' b s p6 wr6 (ou || decide (4294967295 < m6)) fu := fun W h => by
      have := kT 44 i6 p6 wr6 _ W L6.out.1 HP6.out h
      unfold tkI at this
      rw [h44] at this
      exact this
    have HI6 : Hid (blI s p6 = p6) := by show _ = _; rw [← HP6.out]; exact blI_idem L6.out.1
    have kM2 : ∀ W, BlkR W b s p6 wr6 (ou || decide (4294967295 < m6)) fu → Calls Tryz.prog 114 #[.pointer (some ⟨b, 0, none⟩), .int .u8 125] W fun e w' => (∃ v, e = .returned v) ∧ Ex b W w' ∧ BlkR w' b s (mustI s 125 p6) (mustW s 125 p6 wr6) (ou || decide (4294967295 < m6)) fu := fun W h => kM 125 p6 p6 _ _ W HL6.out.2 HI6.out h
    clear kM kT bM
    go_wp2_with (first
      | (go_at_call 63; (with_reducible refine (kT44 _ B6.out).mono ?_); rintro _ w7 ⟨rfl, ex7, b7⟩; have E7 : Hid (Ex b w w7) := E6.out.trans ex7; have B7 : Hid (BlkR w7 b s p6 wr6 (ou || decide (4294967295 < m6)) fu) := b7; clear ex7 b7)
      | (go_at_call 114; refine (kM2 _ B7.out).mono ?_; rintro _ w10 ⟨⟨v10, rfl⟩, ex10, b10⟩; have E10 : Hid (Ex b w w10) := E7.out.trans ex10; have B10 : Hid (BlkR w10 b s (mustI s 125 p6) (mustW s 125 p6 wr6) (ou || decide (4294967295 < m6)) fu) := b10; clear ex10 b10)
      | (go_at_call 118; refine (kr _ M M _ _ _ B10.out).mono ?_; rintro _ w11 ⟨⟨v11, rfl⟩, ex11, b11⟩; have E11 : Hid (Ex b w w11) := E10.out.trans ex11; have B11 : Hid (BlkR w11 b s (mustI s 125 p6) (mustW s 125 p6 wr6) ((ou || decide (4294967295 < m6)) || decide (M < M)) fu) := b11; clear ex11 b11))
    refine bodyPost_ret (v := .tuple #[.int .i64 M, .int .i64 M]) (by simp [results, Tryz.results97, go_sem]) rfl ⟨M, M, mustI s 125 p6, mustW s 125 p6 wr6, _, rfl, E11.out, B11.out, ?_, (mustI_le HL6.out.2).2, BM.out, ⟨by have := BM.out; omega, BM.out.2⟩, by rw [HM.out]; exact cnt_C HP.out Q6.out HP6.out h44⟩
    have h1 := HPi.out; have h2 := L6.out.2; have h3 := HL6.out.1; have h7 := (mustI_le (c := 125) HL6.out.2).1
    omega

end Go.Proofs.YtjjlkjfhhpogaaaGreatDoor
