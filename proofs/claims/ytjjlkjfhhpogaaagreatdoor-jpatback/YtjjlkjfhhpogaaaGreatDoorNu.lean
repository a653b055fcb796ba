/-
  The walk of Number: the digits that stand next.
-/
import Derived.Test.YtjjlkjfhhpogaaaGreatDoorRa1
import Derived.Test.YtjjlkjfhhpogaaaGreatDoorTx
import Derived.WalkMore
import Derived.ScopeJumps
import Derived.Deep.DeepCutAuto
namespace Go.Proofs.YtjjlkjfhhpogaaaGreatDoor
open Go.RowKit

/-- Between the rounds: the digits ds stand from i to j, n is what they come to. -/
def NumI (s : ByteArray) (i j : Nat) (ds : Bs) (n : Nat) : Prop :=
  i ≤ j ∧ j ≤ s.size ∧ ds.length = j - i ∧ s.data.toList.drop i = ds ++ s.data.toList.drop j ∧ (∀ c ∈ ds, isDig c = true) ∧ n = min (val ds) 4294967296

theorem NumI.start {s : ByteArray} {i : Nat} (hi : i ≤ s.size) : NumI s i i [] 0 := ⟨Nat.le_refl _, hi, by simp, by simp, by simp, by simp [val]⟩
theorem NumI.step {s : ByteArray} {i j : Nat} {ds : Bs} {n : Nat} {z : UInt8} {r : Bs} (h : NumI s i j ds n) (hz : s.data.toList.drop j = z :: r) (hd : isDig z = true) : NumI s i (j + 1) (ds ++ [z]) (min (10 * n + (z.toNat - 48)) 4294967296) := by
  obtain ⟨h1, h2, h3, h4, h5, h6⟩ := h
  have := drop_lt hz
  refine ⟨by omega, by omega, by simp <;> omega, by rw [h4, hz, drop_step hz]; simp, ?_, ?_⟩
  · intro c hc
    rcases List.mem_append.1 hc with hc | hc
    · exact h5 c hc
    · simp at hc; subst hc; exact hd
  · rw [val_snoc, h6]
    omega
theorem num_end {s : ByteArray} {i j : Nat} {ds : Bs} {n : Nat} (h : NumI s i j ds n) (hn : nd (s.data.toList.drop j)) : numM (s.data.toList.drop i) = if ds = [] ∨ (ds.head? = some 48 ∧ 1 < ds.length) then none else some (val ds, s.data.toList.drop j) := by
  obtain ⟨h1, h2, h3, h4, h5, h6⟩ := h
  obtain ⟨a, b⟩ := takeWhile_append_all h5 hn
  unfold numM
  rw [h4, a, b]
theorem head_ds {s : ByteArray} {i j : Nat} {ds : Bs} {n : Nat} {z : UInt8} {r : Bs} (h : NumI s i j ds n) (hz : s.data.toList.drop i = z :: r) (hj : j ≠ i) : ds.head? = some z := by
  obtain ⟨h1, h2, h3, h4, h5, h6⟩ := h
  cases ds with
  | nil => simp at h3; omega
  | cons a l => rw [hz] at h4; simp at h4; simp [h4.1]

/-- Where the reader stands. -/
def posOf (b : Nat) (w : World) : Nat := match w.cell? ⟨b, 1, none⟩ with | some (.int _ k) => k.toNat | _ => 0
theorem posOf_blk {b i : Nat} {s : ByteArray} {wr ou fu : Bool} {w : World} (h : BlkR w b s i wr ou fu) : posOf b w = i := by
  have := h.c 1
  simp at this
  unfold posOf
  rw [this]
  simp


theorem NumI.wrap {s : ByteArray} {i j : Nat} {ds : Bs} {n : Nat} (h : NumI s i j ds n) : (n : Int) % 4294967296 = YtjjlkjfhhpogaaaGreatDoor.wr (val ds) := by
  have := h.2.2.2.2.2
  unfold YtjjlkjfhhpogaaaGreatDoor.wr
  split <;> omega
theorem NumI.outN {s : ByteArray} {i j : Nat} {ds : Bs} {n : Nat} (h : NumI s i j ds n) : decide (4294967295 < n) = decide (4294967295 < val ds) := by
  have := h.2.2.2.2.2
  apply Bool.eq_iff_iff.2
  simp
  omega
theorem NumI.outI {s : ByteArray} {i j : Nat} {ds : Bs} {n : Nat} (h : NumI s i j ds n) : decide ((4294967295 : Int) < (n : Int)) = decide (4294967295 < val ds) := by
  have := h.2.2.2.2.2
  apply Bool.eq_iff_iff.2
  simp
  omega
theorem nx_dig {s : ByteArray} {j : Nat} (h1 : 48 ≤ nx s j) (h2 : nx s j ≤ 57) : ∃ z r, s.data.toList.drop j = z :: r ∧ z.toNat = nx s j ∧ isDig z = true := by
  unfold nx at h1 h2 ⊢
  cases e : s.data.toList.drop j with
  | nil => rw [e] at h1; simp at h1
  | cons z r =>
    rw [e] at h1 h2
    exact ⟨z, r, rfl, rfl, by simp only at h1 h2; simp [isDig, h1, h2]⟩
theorem nx_nd {s : ByteArray} {j : Nat} (h : ¬ (48 ≤ nx s j ∧ nx s j ≤ 57)) : nd (s.data.toList.drop j) := by
  unfold nx at h
  intro c hc
  cases e : s.data.toList.drop j with
  | nil => rw [e] at hc; cases hc
  | cons z r =>
    rw [e] at h hc
    simp at hc
    subst hc
    simp only at h
    apply Bool.eq_false_iff.2
    intro hd
    simp [isDig] at hd
    exact h hd

/-- What a number comes to, as a fact of its own. -/
def NumQ (s : ByteArray) (i : Nat) (wr : Bool) (n at' : Nat) (wr' : Bool) : Prop :=
  (numM (s.data.toList.drop i) = none ∧ wr' = true) ∨ ∃ r, numM (s.data.toList.drop i) = some (n, r) ∧ wr' = wr ∧ s.data.toList.drop at' = r
/-- What Number comes to. -/
def NumP (s : ByteArray) (b i : Nat) (wr ou fu : Bool) (w : World) (e : Ending) (w' : World) : Prop :=
  ∃ (n at' : Nat) (wr' : Bool), e = .returned (.int .u32 (YtjjlkjfhhpogaaaGreatDoor.wr n)) ∧ Ex b w w' ∧ BlkR w' b s at' wr' (ou || decide (4294967295 < n)) fu ∧ at' ≤ s.size ∧ i ≤ at' ∧ (i < s.size → i < at') ∧ NumQ s i wr n at' wr'

set_option maxRecDepth 100000 in
set_option maxHeartbeats 8000000 in
theorem number_any {s : ByteArray} {b i : Nat} {wr ou fu : Bool} {w : World} (hi : i ≤ s.size) (hs : s.size ≤ 3000) (hb : BlkR w b s i wr ou fu) :
    Calls Tryz.prog 120 #[.pointer (some ⟨b, 0, none⟩)] w fun e w' => NumP s b i wr ou fu w e w' := by
  have g1 := hb.c 1
  simp at g1
  have BB : Hid (BlkR w b s i wr ou fu) := hb
  have EX : Hid (Ex b w w) := Ex.refl b w
  clear hb
  go_enter Tryz.func120, Tryz.ntmps120
  go_wp2_with fail
  refine wp_scope_jumps 0 (fun a' w' => ∃ (j n : Nat) (ds : Bs) (u5 u6 u7 u8 u9 u10 u11 u12 u13 u14 u15 u16 u17 u18 u19 u20 u21 u22 u23 u24 u25 u26 u27 u28 u29 u30 u31 u32 u33 u34 u35 : Value), a' = { tmps := #[.pointer (some ⟨b, 0, none⟩), undef, .int .u32 0, .int .i64 i, .int .u64 (n : Nat), u5, u6, u7, u8, u9, u10, u11, u12, u13, u14, u15, u16, u17, u18, u19, u20, u21, u22, u23, u24, u25, u26, u27, u28, u29, u30, u31, u32, u33, u34, u35, undef, undef, undef, undef, undef, undef, undef, undef, undef, undef, undef, undef, undef, undef, undef, undef, undef, undef, undef, undef, undef, undef, undef, undef, undef, undef, undef, undef, undef, undef, undef, undef, undef, undef, undef, undef, undef, undef, undef], defers := [] } ∧ Hid (NumI s i j ds n) ∧ Hid (Ex b w w') ∧ Hid (BlkR w' b s j wr ou fu)) (fun _ w' => s.size - posOf b w') rfl ?first ?pass
  case first =>
    go_wp2_with fail
    go_step3
    go_wp2_with fail
    have ID : Hid (NumI s i i [] 0) := NumI.start hi
    generalize hds : ([] : Bs) = ds at ID
    clear hds g1
    have kn := next_any ID.out.2.1 BB.out
    have HXN : Hid (nx s i = nx s i) := rfl
    obtain ⟨x, hx⟩ : ∃ x, x = nx s i := ⟨_, rfl⟩
    rw [← hx] at kn
    have HXH : Hid (x = nx s i) := hx
    clear hx
    go_upto_region 3 with (go_at_call 65; refine kn.mono ?_; rintro _ w6 ⟨rfl, g6⟩; have EX2 : Hid (Ex b w w6) := EX.out.trans (Ex.of_gr g6); have BB2 : Hid (BlkR w6 b s i wr ou fu) := BB.out.gr g6; clear g6)
    clear kn HXN EX BB
    by_cases h48 : 48 ≤ x
    case neg =>
      have NDJ : nd (s.data.toList.drop i) := nx_nd (by rw [← HXH.out]; intro h; exact h48 h.1)
      have e2 : decide ((48 : Int) ≤ (x : Int)) = false := by simp <;> omega
      clear h48
      have HE : Hid (numM (s.data.toList.drop i) = if ds = [] ∨ (ds.head? = some 48 ∧ 1 < ds.length) then none else some (val ds, s.data.toList.drop i)) := num_end ID.out NDJ
      have HWR : Hid ((0 : Int) % 4294967296 = YtjjlkjfhhpogaaaGreatDoor.wr (val ds)) := ID.out.wrap
      obtain ⟨qo, hqo⟩ : ∃ q, q = decide (4294967295 < val ds) := ⟨_, rfl⟩
      have HOQ : Hid (qo = decide (4294967295 < val ds)) := hqo
      have hq1 : decide ((4294967295 : Int) < (0 : Int)) = qo := by rw [hqo]; exact ID.out.outI
      have hq2 : decide (4294967295 < (0 : Nat)) = qo := by rw [hqo]; exact ID.out.outN
      clear hqo
      obtain rfl : qo = false := hq2.symm
      have kr : ∀ W, BlkR W b s i wr ou fu → Calls Tryz.prog 132 #[.pointer (some ⟨b, 0, none⟩)] W fun e w' => (∃ v, e = .returned v) ∧ Ex b W w' ∧ BlkR w' b s s.size true ou fu := fun W h => refuse_any h
      have g0 := BB2.out.c 0
      have g1 := BB2.out.c 1
      simp at g0 g1
      have bl2 := BB2.out.lt
      by_cases hji : i = i
      case pos =>
        have e5 : ((i : Int) == (i : Int)) = true := by simp <;> omega
        have HN : Hid (numM (s.data.toList.drop i) = none) := by show _ = _; rw [HE.out, if_pos (Or.inl (List.length_eq_zero_iff.1 (by have := ID.out.2.2.1; omega)))]
        have LQ : s.size ≤ s.size := Nat.le_refl _
        have MQ : i ≤ s.size := by have := ID.out.1; have := ID.out.2.1; omega
        have SQ : i < s.size → i < s.size := id
        have DQ : NumQ s i wr (val ds) s.size true := Or.inl ⟨HN.out, rfl⟩
        cases ou with
        | true =>
          go_wp2_with (go_at_call 132; refine (kr _ BB2.out).mono ?_; rintro _ w9 ⟨⟨v9, rfl⟩, ex9, b9⟩; have EQ_ : Hid (Ex b w w9) := EX2.out.trans ex9; have BQ : Hid (BlkR w9 b s s.size true true fu) := b9; have g3 := b9.c 3; simp at g3; have f3 := b9.frozen 3; clear ex9 b9)
          refine id (?_ : bodyPost Tryz.prog Tryz.f120 _ Exit.ret _ _)
          go_ret
          exact ⟨val ds, _, _, by rw [← HWR.out]; rfl, EQ_.out.setB 3 _, by rw [Bool.true_or]; exact BQ.out.set3o true, LQ, MQ, SQ, DQ⟩
        | false =>
          go_wp2_with (go_at_call 132; refine (kr _ BB2.out).mono ?_; rintro _ w9 ⟨⟨v9, rfl⟩, ex9, b9⟩; have EQ_ : Hid (Ex b w w9) := EX2.out.trans ex9; have BQ : Hid (BlkR w9 b s s.size true false fu) := b9; have g3 := b9.c 3; simp at g3; have f3 := b9.frozen 3; clear ex9 b9)
          refine id (?_ : bodyPost Tryz.prog Tryz.f120 _ Exit.ret _ _)
          go_ret
          exact ⟨val ds, _, _, by rw [← HWR.out]; rfl, EQ_.out.setB 3 _, by rw [Bool.false_or, ← HOQ.out]; exact BQ.out.set3o _, LQ, MQ, SQ, DQ⟩
      case neg =>
        exact absurd rfl hji
    case pos =>
      have e2 : decide ((48 : Int) ≤ (x : Int)) = true := by simp <;> omega
      by_cases h57 : x ≤ 57
      case neg =>
        have NDJ : nd (s.data.toList.drop i) := nx_nd (by rw [← HXH.out]; intro h; exact h57 h.2)
        have e3 : decide ((x : Int) ≤ 57) = false := by simp <;> omega
        clear h48 h57
        have HE : Hid (numM (s.data.toList.drop i) = if ds = [] ∨ (ds.head? = some 48 ∧ 1 < ds.length) then none else some (val ds, s.data.toList.drop i)) := num_end ID.out NDJ
        have HWR : Hid ((0 : Int) % 4294967296 = YtjjlkjfhhpogaaaGreatDoor.wr (val ds)) := ID.out.wrap
        obtain ⟨qo, hqo⟩ : ∃ q, q = decide (4294967295 < val ds) := ⟨_, rfl⟩
        have HOQ : Hid (qo = decide (4294967295 < val ds)) := hqo
        have hq1 : decide ((4294967295 : Int) < (0 : Int)) = qo := by rw [hqo]; exact ID.out.outI
        have hq2 : decide (4294967295 < (0 : Nat)) = qo := by rw [hqo]; exact ID.out.outN
        clear hqo
        obtain rfl : qo = false := hq2.symm
        have kr : ∀ W, BlkR W b s i wr ou fu → Calls Tryz.prog 132 #[.pointer (some ⟨b, 0, none⟩)] W fun e w' => (∃ v, e = .returned v) ∧ Ex b W w' ∧ BlkR w' b s s.size true ou fu := fun W h => refuse_any h
        have g0 := BB2.out.c 0
        have g1 := BB2.out.c 1
        simp at g0 g1
        have bl2 := BB2.out.lt
        by_cases hji : i = i
        case pos =>
          have e5 : ((i : Int) == (i : Int)) = true := by simp <;> omega
          have HN : Hid (numM (s.data.toList.drop i) = none) := by show _ = _; rw [HE.out, if_pos (Or.inl (List.length_eq_zero_iff.1 (by have := ID.out.2.2.1; omega)))]
          have LQ : s.size ≤ s.size := Nat.le_refl _
          have MQ : i ≤ s.size := by have := ID.out.1; have := ID.out.2.1; omega
          have SQ : i < s.size → i < s.size := id
          have DQ : NumQ s i wr (val ds) s.size true := Or.inl ⟨HN.out, rfl⟩
          cases ou with
          | true =>
            go_wp2_with (go_at_call 132; refine (kr _ BB2.out).mono ?_; rintro _ w9 ⟨⟨v9, rfl⟩, ex9, b9⟩; have EQ_ : Hid (Ex b w w9) := EX2.out.trans ex9; have BQ : Hid (BlkR w9 b s s.size true true fu) := b9; have g3 := b9.c 3; simp at g3; have f3 := b9.frozen 3; clear ex9 b9)
            refine id (?_ : bodyPost Tryz.prog Tryz.f120 _ Exit.ret _ _)
            go_ret
            exact ⟨val ds, _, _, by rw [← HWR.out]; rfl, EQ_.out.setB 3 _, by rw [Bool.true_or]; exact BQ.out.set3o true, LQ, MQ, SQ, DQ⟩
          | false =>
            go_wp2_with (go_at_call 132; refine (kr _ BB2.out).mono ?_; rintro _ w9 ⟨⟨v9, rfl⟩, ex9, b9⟩; have EQ_ : Hid (Ex b w w9) := EX2.out.trans ex9; have BQ : Hid (BlkR w9 b s s.size true false fu) := b9; have g3 := b9.c 3; simp at g3; have f3 := b9.frozen 3; clear ex9 b9)
            refine id (?_ : bodyPost Tryz.prog Tryz.f120 _ Exit.ret _ _)
            go_ret
            exact ⟨val ds, _, _, by rw [← HWR.out]; rfl, EQ_.out.setB 3 _, by rw [Bool.false_or, ← HOQ.out]; exact BQ.out.set3o _, LQ, MQ, SQ, DQ⟩
        case neg =>
          exact absurd rfl hji
      case pos =>
        have e3 : decide ((x : Int) ≤ 57) = true := by simp <;> omega
        obtain ⟨z, r, hz, hzx, hd⟩ := nx_dig (by rw [← HXH.out]; exact h48) (by rw [← HXH.out]; exact h57)
        rw [← HXH.out] at hzx
        obtain ⟨y, hy⟩ : ∃ y, y = x - 48 := ⟨_, rfl⟩
        have hy9 : y ≤ 9 := by omega
        have ID2 : Hid (NumI s i (i + 1) (ds ++ [z]) (min (10 * 0 + y) 4294967296)) := by rw [hy, ← hzx]; exact NumI.step ID.out hz hd
        have v1 : IntKind.u8.wrap ((x : Int) - 48) = (y : Int) := by rw [IntKind.wrap_u8]; omega
        have v2 : IntKind.u64.wrap (y : Int) = (y : Int) := by rw [IntKind.wrap_u64]; omega
        have v3 : IntKind.u64.wrap 0 = 0 := by rw [IntKind.wrap_u64]; rfl
        have v4 : IntKind.u64.wrap (10 * (0 : Int) + (y : Int)) = 10 * (0 : Int) + (y : Int) := by rw [IntKind.wrap_u64]; have := ID.out.2.2.2.2.2; omega
        have hlt := drop_lt hz
        have g1 := BB2.out.c 1
        simp at g1
        have gf := BB2.out.frozen 1
        clear hd hz hzx hy h48 h57
        go_wp2_with fail
        all_goals go_step3
        all_goals refine ⟨rfl, ?_⟩
        all_goals first
          | (have e9 : min (10 * 0 + y) 4294967296 = 4294967296 := (by omega); rw [e9] at ID2; exact ⟨i + 1, _, _, _, _, _, _, _, _, _, _, _, _, _, _, _, _, _, _, _, _, _, _, _, _, _, _, _, _, _, _, _, _, _, rfl, ID2, EX2.out.setB 1 _, BB2.out.set1 (i + 1)⟩)
          | (have e9 : min (10 * 0 + y) 4294967296 = y := (by omega); rw [e9] at ID2; exact ⟨i + 1, _, _, _, _, _, _, _, _, _, _, _, _, _, _, _, _, _, _, _, _, _, _, _, _, _, _, _, _, _, _, _, _, _, rfl, ID2, EX2.out.setB 1 _, BB2.out.set1 (i + 1)⟩)
  case pass =>
    rintro a' wr0 ⟨j, n, ds, u5, u6, u7, u8, u9, u10, u11, u12, u13, u14, u15, u16, u17, u18, u19, u20, u21, u22, u23, u24, u25, u26, u27, u28, u29, u30, u31, u32, u33, u34, u35, rfl, ID, EX, BB⟩
    have HP : Hid (posOf b wr0 = j) := posOf_blk BB.out
    clear g1
    have kn := next_any ID.out.2.1 BB.out
    have HXN : Hid (nx s j = nx s j) := rfl
    obtain ⟨x, hx⟩ : ∃ x, x = nx s j := ⟨_, rfl⟩
    rw [← hx] at kn
    have HXH : Hid (x = nx s j) := hx
    clear hx
    go_upto_region 3 with (go_at_call 65; refine kn.mono ?_; rintro _ w6 ⟨rfl, g6⟩; have EX2 : Hid (Ex b w w6) := EX.out.trans (Ex.of_gr g6); have BB2 : Hid (BlkR w6 b s j wr ou fu) := BB.out.gr g6; clear g6)
    clear kn HXN EX BB
    by_cases h48 : 48 ≤ x
    case neg =>
      have NDJ : nd (s.data.toList.drop j) := nx_nd (by rw [← HXH.out]; intro h; exact h48 h.1)
      have e2 : decide ((48 : Int) ≤ (x : Int)) = false := by simp <;> omega
      clear h48
      have HE : Hid (numM (s.data.toList.drop i) = if ds = [] ∨ (ds.head? = some 48 ∧ 1 < ds.length) then none else some (val ds, s.data.toList.drop j)) := num_end ID.out NDJ
      have HWR : Hid (((n : Nat) : Int) % 4294967296 = YtjjlkjfhhpogaaaGreatDoor.wr (val ds)) := ID.out.wrap
      obtain ⟨qo, hqo⟩ : ∃ q, q = decide (4294967295 < val ds) := ⟨_, rfl⟩
      have HOQ : Hid (qo = decide (4294967295 < val ds)) := hqo
      have hq1 : decide ((4294967295 : Int) < ((n : Nat) : Int)) = qo := by rw [hqo]; exact ID.out.outI
      have hq2 : decide (4294967295 < (n : Nat)) = qo := by rw [hqo]; exact ID.out.outN
      clear hqo
      have kr : ∀ W, BlkR W b s j wr ou fu → Calls Tryz.prog 132 #[.pointer (some ⟨b, 0, none⟩)] W fun e w' => (∃ v, e = .returned v) ∧ Ex b W w' ∧ BlkR w' b s s.size true ou fu := fun W h => refuse_any h
      have g0 := BB2.out.c 0
      have g1 := BB2.out.c 1
      simp at g0 g1
      have bl2 := BB2.out.lt
      by_cases hji : j = i
      case pos =>
        have e5 : ((j : Int) == (i : Int)) = true := by simp <;> omega
        have HN : Hid (numM (s.data.toList.drop i) = none) := by show _ = _; rw [HE.out, if_pos (Or.inl (List.length_eq_zero_iff.1 (by have := ID.out.2.2.1; omega)))]
        have LQ : s.size ≤ s.size := Nat.le_refl _
        have MQ : i ≤ s.size := by have := ID.out.1; have := ID.out.2.1; omega
        have SQ : i < s.size → i < s.size := id
        have DQ : NumQ s i wr (val ds) s.size true := Or.inl ⟨HN.out, rfl⟩
        cases ou with
        | true =>
          go_wp2_with (go_at_call 132; refine (kr _ BB2.out).mono ?_; rintro _ w9 ⟨⟨v9, rfl⟩, ex9, b9⟩; have EQ_ : Hid (Ex b w w9) := EX2.out.trans ex9; have BQ : Hid (BlkR w9 b s s.size true true fu) := b9; have g3 := b9.c 3; simp at g3; have f3 := b9.frozen 3; clear ex9 b9)
          refine id (?_ : bodyPost Tryz.prog Tryz.f120 _ Exit.ret _ _)
          go_ret
          exact ⟨val ds, _, _, by rw [← HWR.out]; rfl, EQ_.out.setB 3 _, by rw [Bool.true_or]; exact BQ.out.set3o true, LQ, MQ, SQ, DQ⟩
        | false =>
          go_wp2_with (go_at_call 132; refine (kr _ BB2.out).mono ?_; rintro _ w9 ⟨⟨v9, rfl⟩, ex9, b9⟩; have EQ_ : Hid (Ex b w w9) := EX2.out.trans ex9; have BQ : Hid (BlkR w9 b s s.size true false fu) := b9; have g3 := b9.c 3; simp at g3; have f3 := b9.frozen 3; clear ex9 b9)
          refine id (?_ : bodyPost Tryz.prog Tryz.f120 _ Exit.ret _ _)
          go_ret
          exact ⟨val ds, _, _, by rw [← HWR.out]; rfl, EQ_.out.setB 3 _, by rw [Bool.false_or, ← HOQ.out]; exact BQ.out.set3o _, LQ, MQ, SQ, DQ⟩
      case neg =>
        have e5 : ((j : Int) == (i : Int)) = false := by have := hji; simp <;> omega
        obtain ⟨z0, r0, hz0⟩ : ∃ z0 r0, s.data.toList.drop i = z0 :: r0 := by
          cases h : s.data.toList.drop i with
          | nil => exact absurd (drop_nil (by have := ID.out.1; have := ID.out.2.1; omega) h) (by have := ID.out.1; have := ID.out.2.1; omega)
          | cons a l => exact ⟨a, l, rfl⟩
        have hidx0 := str_at hz0
        have hil := drop_lt hz0
        have HD : Hid (ds.head? = some z0) := head_ds ID.out hz0 hji
        have k48 : ((z0.toNat : Int) == 48) = decide (z0 = 48) := u8_eq (c := 48)
        by_cases hq : z0 = 48 ∧ i + 1 < j
        case pos =>
          have e6 : ((z0.toNat : Int) == 48) = true := by rw [k48]; simp [hq.1]
          have e7 : decide ((i : Int) + 1 < (j : Int)) = true := by simp <;> omega
          have HN : Hid (numM (s.data.toList.drop i) = none) := by show _ = _; rw [HE.out, if_pos (Or.inr ⟨by rw [HD.out, hq.1], by have := ID.out.2.2.1; omega⟩)]
          clear k48
          have LQ : s.size ≤ s.size := Nat.le_refl _
          have MQ : i ≤ s.size := by have := ID.out.1; have := ID.out.2.1; omega
          have SQ : i < s.size → i < s.size := id
          have DQ : NumQ s i wr (val ds) s.size true := Or.inl ⟨HN.out, rfl⟩
          cases ou with
          | true =>
            go_wp2_with (go_at_call 132; refine (kr _ BB2.out).mono ?_; rintro _ w9 ⟨⟨v9, rfl⟩, ex9, b9⟩; have EQ_ : Hid (Ex b w w9) := EX2.out.trans ex9; have BQ : Hid (BlkR w9 b s s.size true true fu) := b9; have g3 := b9.c 3; simp at g3; have f3 := b9.frozen 3; clear ex9 b9)
            refine id (?_ : bodyPost Tryz.prog Tryz.f120 _ Exit.ret _ _)
            go_ret
            exact ⟨val ds, _, _, by rw [← HWR.out]; rfl, EQ_.out.setB 3 _, by rw [Bool.true_or]; exact BQ.out.set3o true, LQ, MQ, SQ, DQ⟩
          | false =>
            go_wp2_with (go_at_call 132; refine (kr _ BB2.out).mono ?_; rintro _ w9 ⟨⟨v9, rfl⟩, ex9, b9⟩; have EQ_ : Hid (Ex b w w9) := EX2.out.trans ex9; have BQ : Hid (BlkR w9 b s s.size true false fu) := b9; have g3 := b9.c 3; simp at g3; have f3 := b9.frozen 3; clear ex9 b9)
            refine id (?_ : bodyPost Tryz.prog Tryz.f120 _ Exit.ret _ _)
            go_ret
            exact ⟨val ds, _, _, by rw [← HWR.out]; rfl, EQ_.out.setB 3 _, by rw [Bool.false_or, ← HOQ.out]; exact BQ.out.set3o _, LQ, MQ, SQ, DQ⟩
        case neg =>
          have HN : Hid (numM (s.data.toList.drop i) = some (val ds, s.data.toList.drop j)) := by
            show _ = _
            rw [HE.out, if_neg]
            rintro (h | ⟨h, h'⟩)
            · rw [h] at HD; cases HD.out
            · rw [HD.out] at h; simp at h; exact hq ⟨h, by have := ID.out.2.2.1; omega⟩
          have EQ_ := EX2
          have BQ := BB2
          have LQ : j ≤ s.size := ID.out.2.1
          have MQ : i ≤ j := ID.out.1
          have SQ : i < s.size → i < j := fun _ => Nat.lt_of_le_of_ne ID.out.1 (fun e => hji e.symm)
          have DQ : NumQ s i wr (val ds) j wr := Or.inr ⟨_, HN.out, rfl, rfl⟩
          by_cases hq1 : z0 = 48
          case pos =>
            have e6 : ((z0.toNat : Int) == 48) = true := by rw [k48]; simp [hq1]
            have hq2 : ¬ (i + 1 < j) := fun h => hq ⟨hq1, h⟩
            have e7 : decide ((i : Int) + 1 < (j : Int)) = false := by simp <;> omega
            clear k48 hq hq1
            cases ou with
            | true =>
              have g3 := BB2.out.c 3
              simp at g3
              have f3 := BB2.out.frozen 3
              go_wp2_with fail
              refine id (?_ : bodyPost Tryz.prog Tryz.f120 _ Exit.ret _ _)
              go_ret
              exact ⟨val ds, _, _, by rw [← HWR.out]; rfl, EQ_.out.setB 3 _, by rw [Bool.true_or]; exact BQ.out.set3o true, LQ, MQ, SQ, DQ⟩
            | false =>
              have g3 := BB2.out.c 3
              simp at g3
              have f3 := BB2.out.frozen 3
              go_wp2_with fail
              refine id (?_ : bodyPost Tryz.prog Tryz.f120 _ Exit.ret _ _)
              go_ret
              exact ⟨val ds, _, _, by rw [← HWR.out]; rfl, EQ_.out.setB 3 _, by rw [Bool.false_or, ← HOQ.out]; exact BQ.out.set3o _, LQ, MQ, SQ, DQ⟩
          case neg =>
            have e6 : ((z0.toNat : Int) == 48) = false := by rw [k48]; simp [hq1]
            clear k48 hq hq1
            cases ou with
            | true =>
              have g3 := BB2.out.c 3
              simp at g3
              have f3 := BB2.out.frozen 3
              go_wp2_with fail
              refine id (?_ : bodyPost Tryz.prog Tryz.f120 _ Exit.ret _ _)
              go_ret
              exact ⟨val ds, _, _, by rw [← HWR.out]; rfl, EQ_.out.setB 3 _, by rw [Bool.true_or]; exact BQ.out.set3o true, LQ, MQ, SQ, DQ⟩
            | false =>
              have g3 := BB2.out.c 3
              simp at g3
              have f3 := BB2.out.frozen 3
              go_wp2_with fail
              refine id (?_ : bodyPost Tryz.prog Tryz.f120 _ Exit.ret _ _)
              go_ret
              exact ⟨val ds, _, _, by rw [← HWR.out]; rfl, EQ_.out.setB 3 _, by rw [Bool.false_or, ← HOQ.out]; exact BQ.out.set3o _, LQ, MQ, SQ, DQ⟩
    case pos =>
      have e2 : decide ((48 : Int) ≤ (x : Int)) = true := by simp <;> omega
      by_cases h57 : x ≤ 57
      case neg =>
        have NDJ : nd (s.data.toList.drop j) := nx_nd (by rw [← HXH.out]; intro h; exact h57 h.2)
        have e3 : decide ((x : Int) ≤ 57) = false := by simp <;> omega
        clear h48 h57
        have HE : Hid (numM (s.data.toList.drop i) = if ds = [] ∨ (ds.head? = some 48 ∧ 1 < ds.length) then none else some (val ds, s.data.toList.drop j)) := num_end ID.out NDJ
        have HWR : Hid (((n : Nat) : Int) % 4294967296 = YtjjlkjfhhpogaaaGreatDoor.wr (val ds)) := ID.out.wrap
        obtain ⟨qo, hqo⟩ : ∃ q, q = decide (4294967295 < val ds) := ⟨_, rfl⟩
        have HOQ : Hid (qo = decide (4294967295 < val ds)) := hqo
        have hq1 : decide ((4294967295 : Int) < ((n : Nat) : Int)) = qo := by rw [hqo]; exact ID.out.outI
        have hq2 : decide (4294967295 < (n : Nat)) = qo := by rw [hqo]; exact ID.out.outN
        clear hqo
        have kr : ∀ W, BlkR W b s j wr ou fu → Calls Tryz.prog 132 #[.pointer (some ⟨b, 0, none⟩)] W fun e w' => (∃ v, e = .returned v) ∧ Ex b W w' ∧ BlkR w' b s s.size true ou fu := fun W h => refuse_any h
        have g0 := BB2.out.c 0
        have g1 := BB2.out.c 1
        simp at g0 g1
        have bl2 := BB2.out.lt
        by_cases hji : j = i
        case pos =>
          have e5 : ((j : Int) == (i : Int)) = true := by simp <;> omega
          have HN : Hid (numM (s.data.toList.drop i) = none) := by show _ = _; rw [HE.out, if_pos (Or.inl (List.length_eq_zero_iff.1 (by have := ID.out.2.2.1; omega)))]
          have LQ : s.size ≤ s.size := Nat.le_refl _
          have MQ : i ≤ s.size := by have := ID.out.1; have := ID.out.2.1; omega
          have SQ : i < s.size → i < s.size := id
          have DQ : NumQ s i wr (val ds) s.size true := Or.inl ⟨HN.out, rfl⟩
          cases ou with
          | true =>
            go_wp2_with (go_at_call 132; refine (kr _ BB2.out).mono ?_; rintro _ w9 ⟨⟨v9, rfl⟩, ex9, b9⟩; have EQ_ : Hid (Ex b w w9) := EX2.out.trans ex9; have BQ : Hid (BlkR w9 b s s.size true true fu) := b9; have g3 := b9.c 3; simp at g3; have f3 := b9.frozen 3; clear ex9 b9)
            refine id (?_ : bodyPost Tryz.prog Tryz.f120 _ Exit.ret _ _)
            go_ret
            exact ⟨val ds, _, _, by rw [← HWR.out]; rfl, EQ_.out.setB 3 _, by rw [Bool.true_or]; exact BQ.out.set3o true, LQ, MQ, SQ, DQ⟩
          | false =>
            go_wp2_with (go_at_call 132; refine (kr _ BB2.out).mono ?_; rintro _ w9 ⟨⟨v9, rfl⟩, ex9, b9⟩; have EQ_ : Hid (Ex b w w9) := EX2.out.trans ex9; have BQ : Hid (BlkR w9 b s s.size true false fu) := b9; have g3 := b9.c 3; simp at g3; have f3 := b9.frozen 3; clear ex9 b9)
            refine id (?_ : bodyPost Tryz.prog Tryz.f120 _ Exit.ret _ _)
            go_ret
            exact ⟨val ds, _, _, by rw [← HWR.out]; rfl, EQ_.out.setB 3 _, by rw [Bool.false_or, ← HOQ.out]; exact BQ.out.set3o _, LQ, MQ, SQ, DQ⟩
        case neg =>
          have e5 : ((j : Int) == (i : Int)) = false := by have := hji; simp <;> omega
          obtain ⟨z0, r0, hz0⟩ : ∃ z0 r0, s.data.toList.drop i = z0 :: r0 := by
            cases h : s.data.toList.drop i with
            | nil => exact absurd (drop_nil (by have := ID.out.1; have := ID.out.2.1; omega) h) (by have := ID.out.1; have := ID.out.2.1; omega)
            | cons a l => exact ⟨a, l, rfl⟩
          have hidx0 := str_at hz0
          have hil := drop_lt hz0
          have HD : Hid (ds.head? = some z0) := head_ds ID.out hz0 hji
          have k48 : ((z0.toNat : Int) == 48) = decide (z0 = 48) := u8_eq (c := 48)
          by_cases hq : z0 = 48 ∧ i + 1 < j
          case pos =>
            have e6 : ((z0.toNat : Int) == 48) = true := by rw [k48]; simp [hq.1]
            have e7 : decide ((i : Int) + 1 < (j : Int)) = true := by simp <;> omega
            have HN : Hid (numM (s.data.toList.drop i) = none) := by show _ = _; rw [HE.out, if_pos (Or.inr ⟨by rw [HD.out, hq.1], by have := ID.out.2.2.1; omega⟩)]
            clear k48
            have LQ : s.size ≤ s.size := Nat.le_refl _
            have MQ : i ≤ s.size := by have := ID.out.1; have := ID.out.2.1; omega
            have SQ : i < s.size → i < s.size := id
            have DQ : NumQ s i wr (val ds) s.size true := Or.inl ⟨HN.out, rfl⟩
            cases ou with
            | true =>
              go_wp2_with (go_at_call 132; refine (kr _ BB2.out).mono ?_; rintro _ w9 ⟨⟨v9, rfl⟩, ex9, b9⟩; have EQ_ : Hid (Ex b w w9) := EX2.out.trans ex9; have BQ : Hid (BlkR w9 b s s.size true true fu) := b9; have g3 := b9.c 3; simp at g3; have f3 := b9.frozen 3; clear ex9 b9)
              refine id (?_ : bodyPost Tryz.prog Tryz.f120 _ Exit.ret _ _)
              go_ret
              exact ⟨val ds, _, _, by rw [← HWR.out]; rfl, EQ_.out.setB 3 _, by rw [Bool.true_or]; exact BQ.out.set3o true, LQ, MQ, SQ, DQ⟩
            | false =>
              go_wp2_with (go_at_call 132; refine (kr _ BB2.out).mono ?_; rintro _ w9 ⟨⟨v9, rfl⟩, ex9, b9⟩; have EQ_ : Hid (Ex b w w9) := EX2.out.trans ex9; have BQ : Hid (BlkR w9 b s s.size true false fu) := b9; have g3 := b9.c 3; simp at g3; have f3 := b9.frozen 3; clear ex9 b9)
              refine id (?_ : bodyPost Tryz.prog Tryz.f120 _ Exit.ret _ _)
              go_ret
              exact ⟨val ds, _, _, by rw [← HWR.out]; rfl, EQ_.out.setB 3 _, by rw [Bool.false_or, ← HOQ.out]; exact BQ.out.set3o _, LQ, MQ, SQ, DQ⟩
          case neg =>
            have HN : Hid (numM (s.data.toList.drop i) = some (val ds, s.data.toList.drop j)) := by
              show _ = _
              rw [HE.out, if_neg]
              rintro (h | ⟨h, h'⟩)
              · rw [h] at HD; cases HD.out
              · rw [HD.out] at h; simp at h; exact hq ⟨h, by have := ID.out.2.2.1; omega⟩
            have EQ_ := EX2
            have BQ := BB2
            have LQ : j ≤ s.size := ID.out.2.1
            have MQ : i ≤ j := ID.out.1
            have SQ : i < s.size → i < j := fun _ => Nat.lt_of_le_of_ne ID.out.1 (fun e => hji e.symm)
            have DQ : NumQ s i wr (val ds) j wr := Or.inr ⟨_, HN.out, rfl, rfl⟩
            by_cases hq1 : z0 = 48
            case pos =>
              have e6 : ((z0.toNat : Int) == 48) = true := by rw [k48]; simp [hq1]
              have hq2 : ¬ (i + 1 < j) := fun h => hq ⟨hq1, h⟩
              have e7 : decide ((i : Int) + 1 < (j : Int)) = false := by simp <;> omega
              clear k48 hq hq1
              cases ou with
              | true =>
                have g3 := BB2.out.c 3
                simp at g3
                have f3 := BB2.out.frozen 3
                go_wp2_with fail
                refine id (?_ : bodyPost Tryz.prog Tryz.f120 _ Exit.ret _ _)
                go_ret
                exact ⟨val ds, _, _, by rw [← HWR.out]; rfl, EQ_.out.setB 3 _, by rw [Bool.true_or]; exact BQ.out.set3o true, LQ, MQ, SQ, DQ⟩
              | false =>
                have g3 := BB2.out.c 3
                simp at g3
                have f3 := BB2.out.frozen 3
                go_wp2_with fail
                refine id (?_ : bodyPost Tryz.prog Tryz.f120 _ Exit.ret _ _)
                go_ret
                exact ⟨val ds, _, _, by rw [← HWR.out]; rfl, EQ_.out.setB 3 _, by rw [Bool.false_or, ← HOQ.out]; exact BQ.out.set3o _, LQ, MQ, SQ, DQ⟩
            case neg =>
              have e6 : ((z0.toNat : Int) == 48) = false := by rw [k48]; simp [hq1]
              clear k48 hq hq1
              cases ou with
              | true =>
                have g3 := BB2.out.c 3
                simp at g3
                have f3 := BB2.out.frozen 3
                go_wp2_with fail
                refine id (?_ : bodyPost Tryz.prog Tryz.f120 _ Exit.ret _ _)
                go_ret
                exact ⟨val ds, _, _, by rw [← HWR.out]; rfl, EQ_.out.setB 3 _, by rw [Bool.true_or]; exact BQ.out.set3o true, LQ, MQ, SQ, DQ⟩
              | false =>
                have g3 := BB2.out.c 3
                simp at g3
                have f3 := BB2.out.frozen 3
                go_wp2_with fail
                refine id (?_ : bodyPost Tryz.prog Tryz.f120 _ Exit.ret _ _)
                go_ret
                exact ⟨val ds, _, _, by rw [← HWR.out]; rfl, EQ_.out.setB 3 _, by rw [Bool.false_or, ← HOQ.out]; exact BQ.out.set3o _, LQ, MQ, SQ, DQ⟩
      case pos =>
        have e3 : decide ((x : Int) ≤ 57) = true := by simp <;> omega
        obtain ⟨z, r, hz, hzx, hd⟩ := nx_dig (by rw [← HXH.out]; exact h48) (by rw [← HXH.out]; exact h57)
        rw [← HXH.out] at hzx
        obtain ⟨y, hy⟩ : ∃ y, y = x - 48 := ⟨_, rfl⟩
        have hy9 : y ≤ 9 := by omega
        have ID2 : Hid (NumI s i (j + 1) (ds ++ [z]) (min (10 * n + y) 4294967296)) := by rw [hy, ← hzx]; exact NumI.step ID.out hz hd
        have v1 : IntKind.u8.wrap ((x : Int) - 48) = (y : Int) := by rw [IntKind.wrap_u8]; omega
        have v2 : IntKind.u64.wrap (y : Int) = (y : Int) := by rw [IntKind.wrap_u64]; omega
        have v3 : IntKind.u64.wrap (10 * (n : Int)) = 10 * (n : Int) := by rw [IntKind.wrap_u64]; have := ID.out.2.2.2.2.2; omega
        have v4 : IntKind.u64.wrap (10 * (n : Int) + (y : Int)) = 10 * (n : Int) + (y : Int) := by rw [IntKind.wrap_u64]; have := ID.out.2.2.2.2.2; omega
        have hlt := drop_lt hz
        have g1 := BB2.out.c 1
        simp at g1
        have gf := BB2.out.frozen 1
        clear hd hz hzx hy h48 h57
        go_wp2_with fail
        all_goals go_step3
        all_goals refine ⟨rfl, ?_⟩
        all_goals first
          | (have e9 : min (10 * n + y) 4294967296 = 4294967296 := (by omega); rw [e9] at ID2; exact ⟨⟨j + 1, _, _, _, _, _, _, _, _, _, _, _, _, _, _, _, _, _, _, _, _, _, _, _, _, _, _, _, _, _, _, _, _, _, rfl, ID2, EX2.out.setB 1 _, BB2.out.set1 (j + 1)⟩, by have h := posOf_blk (BB2.out.set1 (j + 1)); have h2 : posOf b (w6.setCell ⟨b, 1, none⟩ (.int .i64 ((j : Int) + 1))) = j + 1 := h; rw [h2, HP.out]; omega⟩)
          | (have e9 : min (10 * n + y) 4294967296 = 10 * n + y := (by omega); rw [e9] at ID2; exact ⟨⟨j + 1, _, _, _, _, _, _, _, _, _, _, _, _, _, _, _, _, _, _, _, _, _, _, _, _, _, _, _, _, _, _, _, _, _, rfl, ID2, EX2.out.setB 1 _, BB2.out.set1 (j + 1)⟩, by have h := posOf_blk (BB2.out.set1 (j + 1)); have h2 : posOf b (w6.setCell ⟨b, 1, none⟩ (.int .i64 ((j : Int) + 1))) = j + 1 := h; rw [h2, HP.out]; omega⟩)

end Go.Proofs.YtjjlkjfhhpogaaaGreatDoor
