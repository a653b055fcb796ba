/-
  The Ios dialect's reader, walks: ended, atom, item.
-/
import Derived.Test.YtjjlkjfhhpogaaaGreatDoorRd
import Derived.Test.YtjjlkjfhhpogaaaGreatDoorBl
namespace Go.Proofs.YtjjlkjfhhpogaaaGreatDoor
open Go.RowKit

theorem ends_nx {s : ByteArray} {i : Nat} (_hi : i ≤ s.size) : endsM (s.data.toList.drop i) = (!decide (i < s.size) || decide (nx s i = 124) || decide (nx s i = 41) || decide (nx s i = 36)) := by
  have hl := drop_len (s := s) i
  unfold nx
  cases e : s.data.toList.drop i with
  | nil =>
    rw [e] at hl
    have : decide (i < s.size) = false := by simp at hl ⊢; omega
    rw [this]; rfl
  | cons z r =>
    have h2 : decide (i < s.size) = true := by have := drop_lt e; simp; omega
    have k : ∀ (n : Nat), n < 256 → decide (z = UInt8.ofNat n) = decide (z.toNat = n) := by
      intro n hn
      apply Bool.eq_iff_iff.2
      simp only [decide_eq_true_eq]
      constructor
      · rintro rfl; simp; omega
      · intro h; rw [← h]; simp
    rw [h2]
    show (decide (z = 124) || decide (z = 41) || decide (z = 36)) = _
    rw [show (124 : UInt8) = UInt8.ofNat 124 from rfl, show (41 : UInt8) = UInt8.ofNat 41 from rfl, show (36 : UInt8) = UInt8.ofNat 36 from rfl, k 124 (by decide), k 41 (by decide), k 36 (by decide)]
    rfl

set_option maxRecDepth 100000 in
set_option maxHeartbeats 2000000 in
theorem ended_any {s : ByteArray} {b i : Nat} {wr ou fu : Bool} {w : World} {q : Bool} (hi : i ≤ s.size) (hb : BlkR w b s i wr ou fu) (h : endsM (s.data.toList.drop i) = q) :
    Calls Tryz.prog 82 #[.pointer (some ⟨b, 0, none⟩)] w fun e w' => e = .returned (.bool q) ∧ Gr w w' := by
  have kt := next_any hi hb
  subst h
  rw [ends_nx hi]
  generalize nx s i = x at *
  generalize decide (i < s.size) = p0 at *
  have z3 : ((x : Int) == 124) = decide (x = 124) := by apply Bool.eq_iff_iff.2; simp <;> omega
  have z4 : ((x : Int) == 41) = decide (x = 41) := by apply Bool.eq_iff_iff.2; simp <;> omega
  have z5 : ((x : Int) == 36) = decide (x = 36) := by apply Bool.eq_iff_iff.2; simp <;> omega
  generalize decide (x = 124) = p3 at *
  generalize decide (x = 41) = p4 at *
  generalize decide (x = 36) = p5 at *
  clear hb hi
  cases p0 <;> cases p3 <;> cases p4 <;> cases p5 <;> (
    go_enter Tryz.func82, Tryz.ntmps82
    go_wp2_with (go_at_call 65; refine kt.mono ?_; rintro _ w3 ⟨rfl, g3⟩; have G3 : Hid (Gr w w3) := g3; clear g3)
    go_ret
    exact ⟨rfl, G3.out⟩)

/-! ### The cases of atom -/

theorem atom_46 {alt : Bs → Option Rd} {s : ByteArray} {i : Nat} (h : headIs 46 (s.data.toList.drop i) = true) (wr ou fu : Bool) : Does s wr ou fu (atomM alt (s.data.toList.drop i)) allT (i + 1) wr ou fu := by
  refine ⟨id, fun hw => Or.inr ⟨⟨allT, false, false, s.data.toList.drop (i + 1)⟩, ?_, hw, rfl, rfl, by simp, by simp⟩⟩
  rw [(headIs_drop h).1, atomM]; simp
theorem atom_33 {alt : Bs → Option Rd} {s : ByteArray} {i : Nat} (h : headIs 33 (s.data.toList.drop i) = true) (wr ou fu : Bool) : Does s wr ou fu (atomM alt (s.data.toList.drop i)) noT (i + 1) wr ou fu := by
  refine ⟨id, fun hw => Or.inr ⟨⟨noT, false, false, s.data.toList.drop (i + 1)⟩, ?_, hw, rfl, rfl, by simp, by simp⟩⟩
  rw [(headIs_drop h).1, atomM]; simp
theorem atom_40 {alt : Bs → Option Rd} {s : ByteArray} {i i1 : Nat} {wr ou fu wr1 ou1 fu1 : Bool} {t : Tree} (h : headIs 40 (s.data.toList.drop i) = true) (hd : Does s wr ou fu (alt (s.data.toList.drop (i + 1))) t i1 wr1 ou1 fu1) :
    Does s wr ou fu (atomM alt (s.data.toList.drop i)) t (mustI s 41 i1) (mustW s 41 i1 wr1) ou1 fu1 := by
  have e : atomM alt (s.data.toList.drop i) = parM (alt (s.data.toList.drop (i + 1))) := by rw [(headIs_drop h).1, atomM]; simp
  rw [e]
  refine ⟨fun hw => by unfold mustW; rw [hd.1 hw]; rfl, fun hw => ?_⟩
  rcases hd.2 hw with ⟨h1, h2⟩ | ⟨x, h1, h2, h3, h4, h5, h6⟩
  · left; rw [h1]; exact ⟨rfl, by unfold mustW; rw [h2]; rfl⟩
  · rw [h1]
    cases h7 : headIs 41 (s.data.toList.drop i1) with
    | true =>
      right
      have h8 := (headIs_drop h7).1
      rw [h4] at h8
      refine ⟨⟨x.t, x.o, x.f, s.data.toList.drop (i1 + 1)⟩, ?_, by simp [mustW, h2, h7], h3, by simp [mustI, h7], h5, h6⟩
      obtain ⟨xt, xo, xf, xr⟩ := x
      simp only at h8
      subst h8
      rfl
    | false =>
      left
      refine ⟨?_, by simp [mustW, h7]⟩
      have h8 := headIs_false h7
      rw [h4] at h8
      obtain ⟨xt, xo, xf, xr⟩ := x
      simp only at h8
      unfold parM
      split
      · rename_i e9
        simp at e9
        obtain ⟨_, _, _, rfl⟩ := e9
        simp at h8
      · rfl

theorem atom_91 {alt : Bs → Option Rd} {s : ByteArray} {i i1 i3 n1 n2 : Nat} {wr ou fu wr1 wr3 : Bool} (h : headIs 91 (s.data.toList.drop i) = true) (h1 : NumQ s (i + 1) wr n1 i1 wr1) (h3 : NumQ s (mustI s 45 i1) (mustW s 45 i1 wr1) n2 i3 wr3) :
    Does s wr ou fu (atomM alt (s.data.toList.drop i)) (numT n1 n2) (mustI s 93 i3) (mustW s 93 i3 wr3) (ou || oneO n1 n2) fu := by
  have e : atomM alt (s.data.toList.drop i) = spanM (s.data.toList.drop (i + 1)) := by rw [(headIs_drop h).1, atomM]; simp
  rw [e]
  refine ⟨fun hw => ?_, fun hw => ?_⟩
  · have h4 : wr3 = true := h3.wrong (by unfold mustW; rw [h1.wrong hw]; rfl)
    unfold mustW; rw [h4]; rfl
  subst hw
  unfold spanM
  rcases h1 with ⟨a1, a2⟩ | ⟨r1, a1, a2, a3⟩
  · left
    have h4 : wr3 = true := h3.wrong (by unfold mustW; rw [a2]; rfl)
    rw [a1]
    exact ⟨rfl, by unfold mustW; rw [h4]; rfl⟩
  · subst a2
    rw [a1]
    rcases must_some (c := 45) a3 with ⟨q, b1, b2, b3⟩ | ⟨b1, b2⟩
    · subst b1
      simp only
      rw [b2] at h3
      rcases h3 with ⟨c1, c2⟩ | ⟨r3, c1, c2, c3⟩
      · left
        rw [b3] at c1
        rw [c1]
        exact ⟨rfl, by unfold mustW; rw [c2]; rfl⟩
      · rw [b3] at c1
        rw [c1]
        subst c2
        rcases must_some (c := 93) c3 with ⟨q2, d1, d2, d3⟩ | ⟨d1, d2⟩
        · subst d1
          right
          exact ⟨⟨numT n1 n2, oneO n1 n2, false, q2⟩, rfl, d2, rfl, d3, rfl, by simp⟩
        · left
          refine ⟨?_, d2 _⟩
          split
          · rename_i heq
            injection heq with heq
            injection heq with _ heq
            exact absurd heq (d1 _)
          · rfl
    · left
      have h4 : wr3 = true := h3.wrong (b2 _)
      refine ⟨?_, by unfold mustW; rw [h4]; rfl⟩
      split
      · rename_i heq
        injection heq with heq
        injection heq with _ heq
        exact absurd heq (b1 _)
      · rfl

theorem atom_num {alt : Bs → Option Rd} {s : ByteArray} {i i1 n1 : Nat} {wr ou fu wr1 : Bool} (h46 : headIs 46 (s.data.toList.drop i) = false) (h33 : headIs 33 (s.data.toList.drop i) = false) (h40 : headIs 40 (s.data.toList.drop i) = false) (h91 : headIs 91 (s.data.toList.drop i) = false) (h1 : NumQ s i wr n1 i1 wr1) :
    Does s wr ou fu (atomM alt (s.data.toList.drop i)) (numT n1 n1) i1 wr1 (ou || oneO n1 n1) fu := by
  refine ⟨fun hw => h1.wrong hw, fun hw => ?_⟩
  subst hw
  unfold NumQ at h1
  have e : ∀ r, headIs 46 r = false → headIs 33 r = false → headIs 40 r = false → headIs 91 r = false → atomM alt r = match numM r with | some (n, r') => some ⟨numT n n, oneO n n, false, r'⟩ | none => none := by
    intro r k1 k2 k3 k4
    cases r with
    | nil => rfl
    | cons c r =>
      simp [headIs_cons] at k1 k2 k3 k4
      rw [atomM, if_neg k1, if_neg k2, if_neg k3, if_neg k4]
      rfl
  rw [e _ h46 h33 h40 h91]
  rcases h1 with ⟨a1, a2⟩ | ⟨r1, a1, a2, a3⟩
  · left; rw [a1]; exact ⟨rfl, a2⟩
  · right; rw [a1]; exact ⟨⟨numT n1 n1, oneO n1 n1, false, r1⟩, rfl, a2, rfl, a3, rfl, by simp⟩


set_option maxRecDepth 100000 in
set_option maxHeartbeats 8000000 in
theorem atom_any {s : ByteArray} {b n : Nat} {alt : Bs → Option Rd} (hs : s.size ≤ 3000) (ka : CA s b 49 alt n) : CA s b 98 (atomM alt) (n + 1) := by
  intro i wr ou fu w hi hlim hb
  have HA := AX.start hb
  have HS : Hid (s.size ≤ 3000) := hs
  have HIi : Hid (i ≤ s.size) := hi
  have HKA : Hid (CA s b 49 alt n) := ka
  have HLm : Hid (s.size - i < n + 1) := hlim
  have kN : ∀ (c : UInt8) (W : World), headIs c (s.data.toList.drop i) = false → AX s b w i wr ou fu W → Calls Tryz.prog 46 #[.pointer (some ⟨b, 0, none⟩), .int .u8 c.toNat] W fun e w' => e = .returned (.bool false) ∧ AX s b w i wr ou fu w' := fun c W h a => (took_no hi a.rd h).mono fun _ _ h => ⟨h.1, a.bel h.2.below⟩
  have kY : ∀ (c : UInt8) (W : World), headIs c (s.data.toList.drop i) = true → AX s b w i wr ou fu W → Calls Tryz.prog 46 #[.pointer (some ⟨b, 0, none⟩), .int .u8 c.toNat] W fun e w' => e = .returned (.bool true) ∧ AX s b w (i + 1) wr ou fu w' := fun c W h a => (took_yes hs a.rd h).mono fun _ _ h => ⟨h.1, a.go h.2.1 h.2.2⟩
  have kn := fun W => any_any W
  generalize hW : w.alloc (.cells #[.int .i64 0, .slice none 0 0, .slice none 0 0] 26) = W0 at HA
  have HI : Hid (AX s b w i wr ou fu W0) := HA
  clear hb HA hi hs ka hlim
  cases h46 : headIs 46 (s.data.toList.drop i) with
  | true =>
    have kY46 : ∀ W, AX s b w i wr ou fu W → Calls Tryz.prog 46 #[.pointer (some ⟨b, 0, none⟩), .int .u8 46] W fun e w' => e = .returned (.bool true) ∧ AX s b w (i + 1) wr ou fu w' := fun W a => kY 46 W h46 a
    clear kN kY
    go_enter Tryz.func98, Tryz.ntmps98
    go_upto_region 1 with fail
    clear hW
    go_wp2_with (first
      | (go_at_call 46; (with_reducible refine (kY46 _ HI.out).mono ?_); rintro _ w2 ⟨rfl, a2⟩; have I2 : Hid (AX s b w (i + 1) wr ou fu w2) := a2; clear a2)
      | (go_at_call 48; refine (kn _).mono ?_; rintro _ w3 ⟨⟨r0, ⟨r1, r2, r3⟩, r4, r5, r6⟩, rfl, ho3, bb3⟩; have I3 : Hid (AX s b w (i + 1) wr ou fu w3) := I2.out.bel bb3; have H3 : Hid (HO (fun g => w.heap.size + 1 ≤ g ∧ g < w3.heap.size) w3 allT ⟨r0, ⟨r1, r2, r3⟩, r4, r5, r6⟩) := ho3.low (by have := I2.out.res.lt; omega); obtain ⟨y0, y1, y2⟩ := BlkT.cs I3.out.res; have z0 := I3.out.res.frozen; clear ho3 bb3))
    refine bodyPost_ret (v := PC.v ⟨r0, ⟨r1, r2, r3⟩, ⟨r4, r5, r6⟩⟩) ?_ rfl (I3.out.fin H3.out right_all (by omega) (headIs_drop h46).2 (atom_46 h46 wr ou fu) _ _ _)
    simp [results, Tryz.results98]
    have B := blk_put3 I3.out.res ⟨r0, ⟨r1, r2, r3⟩, ⟨r4, r5, r6⟩⟩
    simp only at B
    generalize hW7 : World.setCell _ _ _ = W7 at B ⊢
    exact run_ptv B
  | false =>
  cases h33 : headIs 33 (s.data.toList.drop i) with
  | true =>
    have kN46 : ∀ W, AX s b w i wr ou fu W → Calls Tryz.prog 46 #[.pointer (some ⟨b, 0, none⟩), .int .u8 46] W fun e w' => e = .returned (.bool false) ∧ AX s b w i wr ou fu w' := fun W a => kN 46 W h46 a
    have kY33 : ∀ W, AX s b w i wr ou fu W → Calls Tryz.prog 46 #[.pointer (some ⟨b, 0, none⟩), .int .u8 33] W fun e w' => e = .returned (.bool true) ∧ AX s b w (i + 1) wr ou fu w' := fun W a => kY 33 W h33 a
    clear kN kY
    go_enter Tryz.func98, Tryz.ntmps98
    go_upto_region 1 with fail
    clear hW
    go_wp2_with (first
      | (go_at_call 46; (with_reducible refine (kN46 _ HI.out).mono ?_); rintro _ w1 ⟨rfl, a2⟩; have I1 : Hid (AX s b w i wr ou fu w1) := a2; clear a2)
      | (go_at_call 46; (with_reducible refine (kY33 _ I1.out).mono ?_); rintro _ w2 ⟨rfl, a2⟩; have I2 : Hid (AX s b w (i + 1) wr ou fu w2) := a2; obtain ⟨y0, y1, y2⟩ := BlkT.cs I2.out.res; have z0 := I2.out.res.frozen; clear a2))
    refine bodyPost_ret (v := PC.v ⟨3, ⟨none, 0, 0⟩, ⟨none, 0, 0⟩⟩) ?_ rfl (I2.out.fin (HO_none 3) right_no (by omega) (headIs_drop h33).2 (atom_33 h33 wr ou fu) _ _ _)
    simp [results, Tryz.results98]
    have B := blk_put3 I2.out.res ⟨3, ⟨none, 0, 0⟩, ⟨none, 0, 0⟩⟩
    simp only at B
    generalize hW7 : World.setCell _ _ _ = W7 at B ⊢
    exact run_ptv B
  | false =>
  cases h40 : headIs 40 (s.data.toList.drop i) with
  | true =>
    have kN46 : ∀ W, AX s b w i wr ou fu W → Calls Tryz.prog 46 #[.pointer (some ⟨b, 0, none⟩), .int .u8 46] W fun e w' => e = .returned (.bool false) ∧ AX s b w i wr ou fu w' := fun W a => kN 46 W h46 a
    have kN33 : ∀ W, AX s b w i wr ou fu W → Calls Tryz.prog 46 #[.pointer (some ⟨b, 0, none⟩), .int .u8 33] W fun e w' => e = .returned (.bool false) ∧ AX s b w i wr ou fu w' := fun W a => kN 33 W h33 a
    have kY40 : ∀ W, AX s b w i wr ou fu W → Calls Tryz.prog 46 #[.pointer (some ⟨b, 0, none⟩), .int .u8 40] W fun e w' => e = .returned (.bool true) ∧ AX s b w (i + 1) wr ou fu w' := fun W a => kY 40 W h40 a
    have kM41 : ∀ (j : Nat) (wr' ou' fu' : Bool) (W : World), j ≤ s.size → AX s b w j wr' ou' fu' W → Calls Tryz.prog 119 #[.pointer (some ⟨b, 0, none⟩), .int .u8 41] W fun e w' => (∃ v, e = .returned v) ∧ Ex b W w' ∧ AX s b w (mustI s 41 j) (mustW s 41 j wr') ou' fu' w' := fun j wr' ou' fu' W h a => (must_any (c := 41) HS.out h a.rd).mono fun _ _ h => ⟨h.1, h.2.1, a.go h.2.1 h.2.2⟩
    clear kN kY
    go_enter Tryz.func98, Tryz.ntmps98
    go_upto_region 1 with fail
    clear hW
    go_wp2_with (first
      | (go_at_call 46; (with_reducible refine (kN46 _ HI.out).mono ?_); rintro _ w1 ⟨rfl, a2⟩; have I1 : Hid (AX s b w i wr ou fu w1) := a2; clear a2)
      | (go_at_call 46; (with_reducible refine (kN33 _ I1.out).mono ?_); rintro _ w2 ⟨rfl, a2⟩; have I2 : Hid (AX s b w i wr ou fu w2) := a2; clear a2)
      | (go_at_call 46; (with_reducible refine (kY40 _ I2.out).mono ?_); rintro _ w3 ⟨rfl, a2⟩; have I3 : Hid (AX s b w (i + 1) wr ou fu w3) := a2; clear a2)
      | (go_at_call 49; refine (HKA.out (i + 1) wr ou fu _ (headIs_drop h40).2 (by have := HLm.out; have := (headIs_drop h40).2; omega) I3.out.rd).mono ?_; rintro _ w4 ⟨⟨r0, ⟨r1, r2, r3⟩, r4, r5, r6⟩, t4, i4, wr4, ou4, fu4, rfl, ho4, hk4, ex4, b4, le4, le5, d4⟩; have I4 : Hid (AX s b w i4 wr4 ou4 fu4 (w4.alloc (.cells #[.int .i64 r0, .slice r1 r2 r3, .slice r4 r5 r6] 26))) := (I3.out.go ex4 b4).bel (bel_alloc _ _); have H4 : Hid (HO (fun g => w.heap.size + 1 ≤ g ∧ g < w4.heap.size) w4 t4 ⟨r0, ⟨r1, r2, r3⟩, r4, r5, r6⟩) := ho4.low (by have := I3.out.res.lt; omega); have K4 : Hid (rightT t4 = true) := hk4; have L4 : Hid (i + 1 ≤ i4) := le4; have L5 : Hid (i4 ≤ s.size) := le5; have D4 : Hid (Does s wr ou fu (alt (s.data.toList.drop (i + 1))) t4 i4 wr4 ou4 fu4) := d4; have N4 : Hid (b < w4.heap.size) := (I3.out.go ex4 b4).rd.lt; clear ho4 hk4 ex4 b4 le4 le5 d4)
      | (go_at_call 119; (with_reducible refine (kM41 _ _ _ _ _ L5.out I4.out).mono ?_); rintro _ w5 ⟨⟨v5, rfl⟩, ex5, a5⟩; have I5 : Hid (AX s b w (mustI s 41 i4) (mustW s 41 i4 wr4) ou4 fu4 w5) := a5; have B5 : Hid (Blk w5 w4.heap.size (encT ⟨r0, ⟨r1, r2, r3⟩, r4, r5, r6⟩).toArray 26) := Blk.ex ex5 (Blk.new _ _ _) (by have := N4.out; omega); have H5 : Hid (HO (fun g => w.heap.size + 1 ≤ g ∧ g < w5.heap.size) w5 t4 ⟨r0, ⟨r1, r2, r3⟩, r4, r5, r6⟩) := (H4.out.bel (bel_alloc _ _)).ex ex5 (by have := I4.out.lt; omega); obtain ⟨x0, x1, x2⟩ := BlkT.cs B5.out; obtain ⟨y0, y1, y2⟩ := BlkT.cs I5.out.res; have z0 := I5.out.res.frozen; clear ex5 a5))
    refine bodyPost_ret (v := PC.v ⟨r0, ⟨r1, r2, r3⟩, ⟨r4, r5, r6⟩⟩) ?_ rfl (I5.out.fin H5.out K4.out (by have h1 := L4.out; have h3 := (mustI_le (c := 41) L5.out).1; omega) (mustI_le L5.out).2 (atom_40 h40 D4.out) _ _ _)
    simp [results, Tryz.results98]
    have B := blk_put3 I5.out.res ⟨r0, ⟨r1, r2, r3⟩, ⟨r4, r5, r6⟩⟩
    simp only at B
    generalize hW7 : World.setCell _ _ _ = W7 at B ⊢
    exact run_ptv B
  | false =>
  cases h91 : headIs 91 (s.data.toList.drop i) with
  | true =>
    have kN46 : ∀ W, AX s b w i wr ou fu W → Calls Tryz.prog 46 #[.pointer (some ⟨b, 0, none⟩), .int .u8 46] W fun e w' => e = .returned (.bool false) ∧ AX s b w i wr ou fu w' := fun W a => kN 46 W h46 a
    have kN33 : ∀ W, AX s b w i wr ou fu W → Calls Tryz.prog 46 #[.pointer (some ⟨b, 0, none⟩), .int .u8 33] W fun e w' => e = .returned (.bool false) ∧ AX s b w i wr ou fu w' := fun W a => kN 33 W h33 a
    have kN40 : ∀ W, AX s b w i wr ou fu W → Calls Tryz.prog 46 #[.pointer (some ⟨b, 0, none⟩), .int .u8 40] W fun e w' => e = .returned (.bool false) ∧ AX s b w i wr ou fu w' := fun W a => kN 40 W h40 a
    have kY91 : ∀ W, AX s b w i wr ou fu W → Calls Tryz.prog 46 #[.pointer (some ⟨b, 0, none⟩), .int .u8 91] W fun e w' => e = .returned (.bool true) ∧ AX s b w (i + 1) wr ou fu w' := fun W a => kY 91 W h91 a
    have kM45 : ∀ (j : Nat) (wr' ou' fu' : Bool) (W : World), j ≤ s.size → AX s b w j wr' ou' fu' W → Calls Tryz.prog 119 #[.pointer (some ⟨b, 0, none⟩), .int .u8 45] W fun e w' => (∃ v, e = .returned v) ∧ Ex b W w' ∧ AX s b w (mustI s 45 j) (mustW s 45 j wr') ou' fu' w' := fun j wr' ou' fu' W h a => (must_any (c := 45) HS.out h a.rd).mono fun _ _ h => ⟨h.1, h.2.1, a.go h.2.1 h.2.2⟩
    have kM93 : ∀ (j : Nat) (wr' ou' fu' : Bool) (W : World), j ≤ s.size → AX s b w j wr' ou' fu' W → Calls Tryz.prog 119 #[.pointer (some ⟨b, 0, none⟩), .int .u8 93] W fun e w' => (∃ v, e = .returned v) ∧ Ex b W w' ∧ AX s b w (mustI s 93 j) (mustW s 93 j wr') ou' fu' w' := fun j wr' ou' fu' W h a => (must_any (c := 93) HS.out h a.rd).mono fun _ _ h => ⟨h.1, h.2.1, a.go h.2.1 h.2.2⟩
    have kU : ∀ (j : Nat) (wr' ou' fu' : Bool) (W : World), j ≤ s.size → AX s b w j wr' ou' fu' W → Calls Tryz.prog 120 #[.pointer (some ⟨b, 0, none⟩)] W fun e w' => ∃ (q at' : Nat) (wr2 : Bool), e = .returned (.int .u32 (YtjjlkjfhhpogaaaGreatDoor.wr q)) ∧ AX s b w at' wr2 (ou' || decide (4294967295 < q)) fu' w' ∧ at' ≤ s.size ∧ j ≤ at' ∧ NumQ s j wr' q at' wr2 := fun j wr' ou' fu' W h a => (number_any h HS.out a.rd).mono fun _ _ ⟨q, at', wr2, h1, h2, h3, h4, h5, _, h7⟩ => ⟨q, at', wr2, h1, a.go h2 h3, h4, h5, h7⟩
    have kO : ∀ (j : Nat) (l h : Int) (wr' ou' fu' : Bool) (W : World), AX s b w j wr' ou' fu' W → Calls Tryz.prog 116 #[.pointer (some ⟨b, 0, none⟩), .int .u32 l, .int .u32 h] W fun e w' => ∃ r : PC, e = .returned r.v ∧ HO (fun g => w.heap.size + 1 ≤ g ∧ g < w'.heap.size) w' (.mk 1 [(l, h)] []) r ∧ AX s b w j wr' (ou' || decide (h < l)) fu' w' := fun j l h wr' ou' fu' W a => (one_any a.rd).mono fun _ _ ⟨r, h1, h2, h3, h4⟩ => ⟨r, h1, h2.low (by have := a.res.lt; omega), a.go h3 h4⟩
    clear kN kY
    go_enter Tryz.func98, Tryz.ntmps98
    go_upto_region 1 with fail
    clear hW
    go_upto_region 14 with (first
      | (go_at_call 46; (with_reducible refine (kN46 _ HI.out).mono ?_); rintro _ w1 ⟨rfl, a2⟩; have I1 : Hid (AX s b w i wr ou fu w1) := a2; clear a2)
      | (go_at_call 46; (with_reducible refine (kN33 _ I1.out).mono ?_); rintro _ w2 ⟨rfl, a2⟩; have I2 : Hid (AX s b w i wr ou fu w2) := a2; clear a2)
      | (go_at_call 46; (with_reducible refine (kN40 _ I2.out).mono ?_); rintro _ w3 ⟨rfl, a2⟩; have I3 : Hid (AX s b w i wr ou fu w3) := a2; clear a2)
      | (go_at_call 46; (with_reducible refine (kY91 _ I3.out).mono ?_); rintro _ w4 ⟨rfl, a2⟩; have I4 : Hid (AX s b w (i + 1) wr ou fu w4) := a2; clear a2)
      | (go_at_call 120; refine (kU (mustI s 45 i6) _ _ _ _ (mustI_le L6.out).2 I7.out).mono ?_; rintro _ w8 ⟨n8, i8, wr8, rfl, a2, le4, le5, f2⟩; have I8 : Hid (AX s b w i8 wr8 ((ou || decide (4294967295 < n6)) || decide (4294967295 < n8)) fu w8) := a2; have L8 : Hid (i8 ≤ s.size) := le4; have M8 : Hid ((mustI s 45 i6) ≤ i8) := le5; have F8 : Hid (NumQ s (mustI s 45 i6) (mustW s 45 i6 wr6) n8 i8 wr8) := f2; clear a2 le4 le5 f2)
      | (go_at_call 120; refine (kU (i + 1) wr ou fu _ (headIs_drop h91).2 I4.out).mono ?_; rintro _ w6 ⟨n6, i6, wr6, rfl, a2, le4, le5, f2⟩; have I6 : Hid (AX s b w i6 wr6 (ou || decide (4294967295 < n6)) fu w6) := a2; have L6 : Hid (i6 ≤ s.size) := le4; have M6 : Hid ((i + 1) ≤ i6) := le5; have F6 : Hid (NumQ s (i + 1) wr n6 i6 wr6) := f2; clear a2 le4 le5 f2)
      | (go_at_call 119; (with_reducible refine (kM93 _ _ _ _ _ L8.out I8.out).mono ?_); rintro _ w5 ⟨⟨v5, rfl⟩, ex5, a5⟩; have I5 : Hid (AX s b w (mustI s 93 i8) (mustW s 93 i8 wr8) ((ou || decide (4294967295 < n6)) || decide (4294967295 < n8)) fu w5) := a5; clear ex5 a5)
      | (go_at_call 119; (with_reducible refine (kM45 _ _ _ _ _ L6.out I6.out).mono ?_); rintro _ w7 ⟨⟨v5, rfl⟩, ex5, a5⟩; have I7 : Hid (AX s b w (mustI s 45 i6) (mustW s 45 i6 wr6) (ou || decide (4294967295 < n6)) fu w7) := a5; clear ex5 a5))
    have HT : Hid (Tree.mk 1 [(YtjjlkjfhhpogaaaGreatDoor.wr n6, YtjjlkjfhhpogaaaGreatDoor.wr n8)] [] = numT n6 n8) := rfl
    have HOo : Hid ((((ou || decide (4294967295 < n6)) || decide (4294967295 < n8)) || decide (YtjjlkjfhhpogaaaGreatDoor.wr n8 < YtjjlkjfhhpogaaaGreatDoor.wr n6)) = (ou || oneO n6 n8)) := oneO_eq ou n6 n8
    clear kU kM45 kM93 kN46 kN33 kN40 kY91
    go_wp2_with (go_at_call 116; refine (kO _ (YtjjlkjfhhpogaaaGreatDoor.wr n6) (YtjjlkjfhhpogaaaGreatDoor.wr n8) _ _ _ _ I5.out).mono ?_; rintro _ w9 ⟨⟨r0, ⟨r1, r2, r3⟩, r4, r5, r6⟩, rfl, ho9, a9⟩; have I9 : Hid (AX s b w (mustI s 93 i8) (mustW s 93 i8 wr8) (((ou || decide (4294967295 < n6)) || decide (4294967295 < n8)) || decide (YtjjlkjfhhpogaaaGreatDoor.wr n8 < YtjjlkjfhhpogaaaGreatDoor.wr n6)) fu w9) := a9; have H9 : Hid (HO (fun g => w.heap.size + 1 ≤ g ∧ g < w9.heap.size) w9 (.mk 1 [(YtjjlkjfhhpogaaaGreatDoor.wr n6, YtjjlkjfhhpogaaaGreatDoor.wr n8)] []) ⟨r0, ⟨r1, r2, r3⟩, r4, r5, r6⟩) := ho9; obtain ⟨y0, y1, y2⟩ := BlkT.cs I9.out.res; have z0 := I9.out.res.frozen; clear ho9 a9)
    rw [HOo.out] at I9
    rw [HT.out] at H9
    refine bodyPost_ret (v := PC.v ⟨r0, ⟨r1, r2, r3⟩, ⟨r4, r5, r6⟩⟩) ?_ rfl (I9.out.fin H9.out (right_one _) (by have := M6.out; have := (mustI_le (c := 45) L6.out).1; have := M8.out; have := (mustI_le (c := 93) L8.out).1; omega) (mustI_le L8.out).2 (atom_91 h91 F6.out F8.out) _ _ _)
    simp [results, Tryz.results98]
    have B := blk_put3 I9.out.res ⟨r0, ⟨r1, r2, r3⟩, ⟨r4, r5, r6⟩⟩
    simp only at B
    generalize hW7 : World.setCell _ _ _ = W7 at B ⊢
    exact run_ptv B
  | false =>
    have kN46 : ∀ W, AX s b w i wr ou fu W → Calls Tryz.prog 46 #[.pointer (some ⟨b, 0, none⟩), .int .u8 46] W fun e w' => e = .returned (.bool false) ∧ AX s b w i wr ou fu w' := fun W a => kN 46 W h46 a
    have kN33 : ∀ W, AX s b w i wr ou fu W → Calls Tryz.prog 46 #[.pointer (some ⟨b, 0, none⟩), .int .u8 33] W fun e w' => e = .returned (.bool false) ∧ AX s b w i wr ou fu w' := fun W a => kN 33 W h33 a
    have kN40 : ∀ W, AX s b w i wr ou fu W → Calls Tryz.prog 46 #[.pointer (some ⟨b, 0, none⟩), .int .u8 40] W fun e w' => e = .returned (.bool false) ∧ AX s b w i wr ou fu w' := fun W a => kN 40 W h40 a
    have kN91 : ∀ W, AX s b w i wr ou fu W → Calls Tryz.prog 46 #[.pointer (some ⟨b, 0, none⟩), .int .u8 91] W fun e w' => e = .returned (.bool false) ∧ AX s b w i wr ou fu w' := fun W a => kN 91 W h91 a
    have kU : ∀ (j : Nat) (wr' ou' fu' : Bool) (W : World), j ≤ s.size → AX s b w j wr' ou' fu' W → Calls Tryz.prog 120 #[.pointer (some ⟨b, 0, none⟩)] W fun e w' => ∃ (q at' : Nat) (wr2 : Bool), e = .returned (.int .u32 (YtjjlkjfhhpogaaaGreatDoor.wr q)) ∧ AX s b w at' wr2 (ou' || decide (4294967295 < q)) fu' w' ∧ at' ≤ s.size ∧ j ≤ at' ∧ NumQ s j wr' q at' wr2 := fun j wr' ou' fu' W h a => (number_any h HS.out a.rd).mono fun _ _ ⟨q, at', wr2, h1, h2, h3, h4, h5, _, h7⟩ => ⟨q, at', wr2, h1, a.go h2 h3, h4, h5, h7⟩
    have kO : ∀ (j : Nat) (l h : Int) (wr' ou' fu' : Bool) (W : World), AX s b w j wr' ou' fu' W → Calls Tryz.prog 116 #[.pointer (some ⟨b, 0, none⟩), .int .u32 l, .int .u32 h] W fun e w' => ∃ r : PC, e = .returned r.v ∧ HO (fun g => w.heap.size + 1 ≤ g ∧ g < w'.heap.size) w' (.mk 1 [(l, h)] []) r ∧ AX s b w j wr' (ou' || decide (h < l)) fu' w' := fun j l h wr' ou' fu' W a => (one_any a.rd).mono fun _ _ ⟨r, h1, h2, h3, h4⟩ => ⟨r, h1, h2.low (by have := a.res.lt; omega), a.go h3 h4⟩
    clear kN kY
    go_enter Tryz.func98, Tryz.ntmps98
    go_upto_region 1 with fail
    clear hW
    go_upto_region 16 with (first
      | (go_at_call 46; (with_reducible refine (kN46 _ HI.out).mono ?_); rintro _ w1 ⟨rfl, a2⟩; have I1 : Hid (AX s b w i wr ou fu w1) := a2; clear a2)
      | (go_at_call 46; (with_reducible refine (kN33 _ I1.out).mono ?_); rintro _ w2 ⟨rfl, a2⟩; have I2 : Hid (AX s b w i wr ou fu w2) := a2; clear a2)
      | (go_at_call 46; (with_reducible refine (kN40 _ I2.out).mono ?_); rintro _ w3 ⟨rfl, a2⟩; have I3 : Hid (AX s b w i wr ou fu w3) := a2; clear a2)
      | (go_at_call 46; (with_reducible refine (kN91 _ I3.out).mono ?_); rintro _ w4 ⟨rfl, a2⟩; have I4 : Hid (AX s b w i wr ou fu w4) := a2; clear a2)
      | (go_at_call 120; refine (kU i wr ou fu _ HIi.out I4.out).mono ?_; rintro _ w6 ⟨n6, i6, wr6, rfl, a2, le4, le5, f2⟩; have I6 : Hid (AX s b w i6 wr6 (ou || decide (4294967295 < n6)) fu w6) := a2; have L6 : Hid (i6 ≤ s.size) := le4; have M6 : Hid (i ≤ i6) := le5; have F6 : Hid (NumQ s i wr n6 i6 wr6) := f2; clear a2 le4 le5 f2))
    have HT : Hid (Tree.mk 1 [(YtjjlkjfhhpogaaaGreatDoor.wr n6, YtjjlkjfhhpogaaaGreatDoor.wr n6)] [] = numT n6 n6) := rfl
    have HOo : Hid (((ou || decide (4294967295 < n6)) || decide (YtjjlkjfhhpogaaaGreatDoor.wr n6 < YtjjlkjfhhpogaaaGreatDoor.wr n6)) = (ou || oneO n6 n6)) := oneO_eq1 ou n6
    clear kU kN46 kN33 kN40 kN91
    go_wp2_with (go_at_call 116; refine (kO _ (YtjjlkjfhhpogaaaGreatDoor.wr n6) (YtjjlkjfhhpogaaaGreatDoor.wr n6) _ _ _ _ I6.out).mono ?_; rintro _ w9 ⟨⟨r0, ⟨r1, r2, r3⟩, r4, r5, r6⟩, rfl, ho9, a9⟩; have I9 : Hid (AX s b w i6 wr6 ((ou || decide (4294967295 < n6)) || decide (YtjjlkjfhhpogaaaGreatDoor.wr n6 < YtjjlkjfhhpogaaaGreatDoor.wr n6)) fu w9) := a9; have H9 : Hid (HO (fun g => w.heap.size + 1 ≤ g ∧ g < w9.heap.size) w9 (.mk 1 [(YtjjlkjfhhpogaaaGreatDoor.wr n6, YtjjlkjfhhpogaaaGreatDoor.wr n6)] []) ⟨r0, ⟨r1, r2, r3⟩, r4, r5, r6⟩) := ho9; obtain ⟨y0, y1, y2⟩ := BlkT.cs I9.out.res; have z0 := I9.out.res.frozen; clear ho9 a9)
    rw [HOo.out] at I9
    rw [HT.out] at H9
    refine bodyPost_ret (v := PC.v ⟨r0, ⟨r1, r2, r3⟩, ⟨r4, r5, r6⟩⟩) ?_ rfl (I9.out.fin H9.out (right_one _) M6.out L6.out (atom_num h46 h33 h40 h91 F6.out) _ _ _)
    simp [results, Tryz.results98]
    have B := blk_put3 I9.out.res ⟨r0, ⟨r1, r2, r3⟩, ⟨r4, r5, r6⟩⟩
    simp only at B
    generalize hW7 : World.setCell _ _ _ = W7 at B ⊢
    exact run_ptv B

/-- What is left to be read behind an atom, between the signs. -/
def SignD (s : ByteArray) (wr0 ou0 fu0 : Bool) (M : Option Rd) (t : Tree) (i : Nat) (wr ou fu : Bool) : Prop :=
  (wr0 = true → wr = true) ∧ (wr0 = false → (M = none ∧ wr = true) ∨ (wr = false ∧ ∃ o f, ou = (ou0 || o) ∧ fu = (fu0 || f) ∧ M = some ⟨(signsM (s.data.toList.drop i) t f).1, o, (signsM (s.data.toList.drop i) t f).2.1, (signsM (s.data.toList.drop i) t f).2.2⟩))

theorem SignD.start {s : ByteArray} {alt : Bs → Option Rd} {r : Bs} {t : Tree} {i : Nat} {wr0 ou0 fu0 wr ou fu : Bool} (h : Does s wr0 ou0 fu0 (atomM alt r) t i wr ou fu) : SignD s wr0 ou0 fu0 (itemM alt r) t i wr ou fu := by
  refine ⟨h.1, fun hw => ?_⟩
  rcases h.2 hw with ⟨h1, h2⟩ | ⟨x, h1, h2, h3, h4, h5, h6⟩
  · left; unfold itemM; rw [h1]; exact ⟨rfl, h2⟩
  · right
    refine ⟨h2, x.o, x.f, h5, h6, ?_⟩
    unfold itemM
    rw [h1, h3, h4]
theorem SignD.fin {s : ByteArray} {M : Option Rd} {t : Tree} {i : Nat} {wr0 ou0 fu0 wr ou fu : Bool} (h : SignD s wr0 ou0 fu0 M t i wr ou fu) (h1 : headIs 42 (s.data.toList.drop i) = false) (h2 : headIs 43 (s.data.toList.drop i) = false) (h3 : headIs 63 (s.data.toList.drop i) = false) : Does s wr0 ou0 fu0 M t i wr ou fu := by
  refine ⟨h.1, fun hw => ?_⟩
  rcases h.2 hw with h4 | ⟨h4, o, f, h5, h6, h7⟩
  · exact Or.inl h4
  · right
    have hs : signsM (s.data.toList.drop i) t f = (t, f, s.data.toList.drop i) := by
      cases e : s.data.toList.drop i with
      | nil => rw [signsM]
      | cons c r =>
        rw [e] at h1 h2 h3
        simp [headIs_cons] at h1 h2 h3
        rw [signsM, if_neg h1, if_neg h2, if_neg h3]
    rw [hs] at h7
    exact ⟨_, h7, h4, rfl, rfl, h5, h6⟩
theorem SignD.step {s : ByteArray} {M : Option Rd} {t : Tree} {i : Nat} {wr0 ou0 fu0 wr ou fu : Bool} {c : UInt8} {F : Tree → Tree} (hF : ∀ r t f, signsM (c :: r) t f = signsM r (keptM (F t)).1 (f || (keptM (F t)).2)) (h : SignD s wr0 ou0 fu0 M t i wr ou fu) (h1 : headIs c (s.data.toList.drop i) = true) : SignD s wr0 ou0 fu0 M (keptM (F t)).1 (i + 1) wr ou (fu || (keptM (F t)).2) := by
  refine ⟨h.1, fun hw => ?_⟩
  rcases h.2 hw with h4 | ⟨h4, o, f, h5, h6, h7⟩
  · exact Or.inl h4
  · right
    rw [(headIs_drop h1).1, hF] at h7
    exact ⟨h4, o, f || (keptM (F t)).2, h5, by rw [h6, Bool.or_assoc], h7⟩
theorem signs_42 (r : Bs) (t : Tree) (f : Bool) : signsM (42 :: r) t f = signsM r (keptM (stT t)).1 (f || (keptM (stT t)).2) := by rw [signsM, if_pos rfl]
theorem signs_43 (r : Bs) (t : Tree) (f : Bool) : signsM (43 :: r) t f = signsM r (keptM (plusT t)).1 (f || (keptM (plusT t)).2) := by rw [signsM, if_neg (by decide), if_pos rfl]
theorem signs_63 (r : Bs) (t : Tree) (f : Bool) : signsM (63 :: r) t f = signsM r (keptM (optT t)).1 (f || (keptM (optT t)).2) := by rw [signsM, if_neg (by decide), if_neg (by decide), if_pos rfl]

theorem IX.drewI {s : ByteArray} {b : Nat} {w : World} {b3 i : Nat} {wr ou fu : Bool} {t : Tree} {x : PC} {W : World} (h : IX s b w b3 i wr ou fu t x W) (n : Nat) : IX s b w b3 i wr ou fu t x (W.drewN n) := h.go (.of_bel (below_drewN (Below.refl _ _) n)) (h.ax.rd.drewN n) h.le

set_option maxRecDepth 100000 in
set_option maxHeartbeats 8000000 in
theorem item_any {s : ByteArray} {b n : Nat} {alt : Bs → Option Rd} (hs : s.size ≤ 3000) (ka : CA s b 98 (atomM alt) n) : CA s b 83 (itemM alt) n := by
  intro i wr ou fu w hi hlim hb
  have HA := AX.start hb
  have HS : Hid (s.size ≤ 3000) := hs
  have HKA := ka i wr ou fu _ hi hlim HA.rd
  have kT : ∀ (c : UInt8) (b3 j : Nat) (wr' ou' fu' q : Bool) (t : Tree) (x : PC) (W : World), headIs c (s.data.toList.drop j) = q → IX s b w b3 j wr' ou' fu' t x W → Calls Tryz.prog 46 #[.pointer (some ⟨b, 0, none⟩), .int .u8 c.toNat] W fun e w' => e = .returned (.bool q) ∧ IX s b w b3 (if q = true then j + 1 else j) wr' ou' fu' t x w' := by
    intro c b3 j wr' ou' fu' q t x W h a
    cases q with
    | true => exact (took_yes hs a.ax.rd h).mono fun _ _ h' => ⟨h'.1, a.go h'.2.1 h'.2.2 (headIs_drop h).2⟩
    | false => exact (took_no a.le a.ax.rd h).mono fun _ _ h' => ⟨h'.1, a.go (.of_gr h'.2) (a.ax.rd.gr h'.2) a.le⟩
  generalize hW : w.alloc (.cells #[.int .i64 0, .slice none 0 0, .slice none 0 0] 26) = W0 at HA HKA
  have HI : Hid (AX s b w i wr ou fu W0) := HA
  clear hb HA hi hs ka hlim
  go_enter Tryz.func83, Tryz.ntmps83
  go_upto_region 1 with fail
  clear hW
  go_wp2_with (go_at_call 98; refine HKA.mono ?_; rintro _ w4 ⟨⟨r0, ⟨r1, r2, r3⟩, r4, r5, r6⟩, t4, i4, wr4, ou4, fu4, rfl, ho4, hk4, ex4, b4, le4, le5, d4⟩; have I4 : Hid (IX s b w w4.heap.size i4 wr4 ou4 fu4 t4 ⟨r0, ⟨r1, r2, r3⟩, r4, r5, r6⟩ (w4.alloc (.cells #[.int .i64 r0, .slice r1 r2 r3, .slice r4 r5 r6] 26))) := IX.start (HI.out.go ex4 b4) (ho4.low (by have := HI.out.res.lt; omega)) hk4 le5; have D4 : Hid (SignD s wr ou fu (itemM alt (s.data.toList.drop i)) t4 i4 wr4 ou4 fu4) := SignD.start d4; have L4 : Hid (i ≤ i4) := le4; clear ho4 hk4 ex4 b4 le4 le5 d4)
  generalize w4.heap.size = b3 at I4 ⊢
  go_loopw [6] (fun _ wr0 => ∃ (i5 : Nat) (wr5 ou5 fu5 : Bool) (t5 : Tree) (x5 : PC), Hid (IX s b w b3 i5 wr5 ou5 fu5 t5 x5 wr0) ∧ Hid (SignD s wr ou fu (itemM alt (s.data.toList.drop i)) t5 i5 wr5 ou5 fu5) ∧ Hid (i ≤ i5)) (fun _ wr0 => s.size - posOf b wr0)
  case atStart => exact ⟨i4, wr4, ou4, fu4, t4, _, I4, D4, L4⟩
  case round =>
    clear I4 D4 L4 HKA HI
    obtain ⟨p, wr5, ou5, fu5, t5, ⟨q0, ⟨q1, q2, q3⟩, q4, q5, q6⟩, I5, D5, L5⟩ := hrel
    have HP : Hid (posOf b _ = p) := posOf_blk I5.out.ax.rd
    cases h42 : headIs 42 (s.data.toList.drop p) with
    | true =>
      have k42 : ∀ W, IX s b w b3 p wr5 ou5 fu5 t5 ⟨q0, ⟨q1, q2, q3⟩, q4, q5, q6⟩ W → Calls Tryz.prog 46 #[.pointer (some ⟨b, 0, none⟩), .int .u8 42] W fun e w' => e = .returned (.bool true) ∧ IX s b w b3 (p + 1) wr5 ou5 fu5 t5 ⟨q0, ⟨q1, q2, q3⟩, q4, q5, q6⟩ w' := fun W a => kT 42 _ _ _ _ _ _ _ _ W h42 a
      clear kT
      go_wp2_with (first
        | (go_at_call 46; (with_reducible refine (k42 _ I5.out).mono ?_); rintro _ w7 ⟨rfl, a2⟩; have I7 : Hid (IX s b w b3 (p + 1) wr5 ou5 fu5 t5 ⟨q0, ⟨q1, q2, q3⟩, q4, q5, q6⟩ w7) := a2; obtain ⟨m0, m1, m2⟩ := BlkT.cs I7.out.me; simp only at m0 m1 m2; have mf := I7.out.me.frozen; have ml := I7.out.me.lt; clear a2))
      go_region_law
        (first
          | (go_simp; go_at_call 47; refine (starR_P (P := fun g => w.heap.size + 1 ≤ g ∧ g < (w7.drewN 1).heap.size ∧ g ≠ b3) (I7.out.drewI 1).ax.rd I7.out.rt (fun g hg => hg.2.1) (I7.out.drewI 1).ho).mono ?_; rintro _ w9 ⟨⟨p0, ⟨p1, p2, p3⟩, p4, p5, p6⟩, rfl, ho9, ex9, sz9, b9⟩; have S9 : Hid (IX s b w b3 (p + 1) wr5 ou5 (fu5 || (keptM (stT t5)).2) (keptM (stT t5)).1 ⟨p0, ⟨p1, p2, p3⟩, p4, p5, p6⟩ (((w9.setCell ⟨b3, 0, none⟩ (.int .i64 p0)).setCell ⟨b3, 1, none⟩ (.slice p1 p2 p3)).setCell ⟨b3, 2, none⟩ (.slice p4 p5 p6))) := (I7.out.drewI 1).step ex9 b9 (ho9.imp' (by intro g hg; have h2 := (I7.out.drewI 1).me.lt; have h3 := I7.out.hb3; have h4 := ex9.size; rcases hg with hg | hg <;> omega)) (right_kept _); have M9 : Hid (Blk w9 b3 (encT ⟨q0, ⟨q1, q2, q3⟩, q4, q5, q6⟩).toArray 26) := Blk.ex ex9 (I7.out.drewI 1).me (by have := I7.out.ax.lt; have := I7.out.hb3; omega); obtain ⟨n0, n1, n2⟩ := BlkT.cs M9.out; have nf := M9.out.frozen; clear ho9 ex9 sz9 b9))
      all_goals
        have S9' := S9.out
        generalize hW10 : World.setCell _ _ _ = W10 at S9' ⊢
        have S10 : Hid (IX s b w b3 (p + 1) wr5 ou5 (fu5 || (keptM (stT t5)).2) (keptM (stT t5)).1 ⟨p0, ⟨p1, p2, p3⟩, p4, p5, p6⟩ W10) := S9'
        clear hW10 S9 S9'
        go_wp2_with fail
        go_roundw
        case rel => exact ⟨p + 1, wr5, ou5, _, _, _, S10, SignD.step (c := 42) (F := stT) signs_42 D5.out h42, by have h1 := L5.out; exact (by omega : i ≤ p + 1)⟩
        case measure => rw [posOf_blk S10.out.ax.rd, HP.out]; have h1 := (headIs_drop h42).2; omega
    | false =>
    cases h43 : headIs 43 (s.data.toList.drop p) with
    | true =>
      have k42 : ∀ W, IX s b w b3 p wr5 ou5 fu5 t5 ⟨q0, ⟨q1, q2, q3⟩, q4, q5, q6⟩ W → Calls Tryz.prog 46 #[.pointer (some ⟨b, 0, none⟩), .int .u8 42] W fun e w' => e = .returned (.bool false) ∧ IX s b w b3 p wr5 ou5 fu5 t5 ⟨q0, ⟨q1, q2, q3⟩, q4, q5, q6⟩ w' := fun W a => kT 42 _ _ _ _ _ _ _ _ W h42 a
      have k43 : ∀ W, IX s b w b3 p wr5 ou5 fu5 t5 ⟨q0, ⟨q1, q2, q3⟩, q4, q5, q6⟩ W → Calls Tryz.prog 46 #[.pointer (some ⟨b, 0, none⟩), .int .u8 43] W fun e w' => e = .returned (.bool true) ∧ IX s b w b3 (p + 1) wr5 ou5 fu5 t5 ⟨q0, ⟨q1, q2, q3⟩, q4, q5, q6⟩ w' := fun W a => kT 43 _ _ _ _ _ _ _ _ W h43 a
      clear kT
      go_wp2_with (first
        | (go_at_call 46; (with_reducible refine (k42 _ I5.out).mono ?_); rintro _ w42 ⟨rfl, a2⟩; have N42 : Hid (IX s b w b3 p wr5 ou5 fu5 t5 ⟨q0, ⟨q1, q2, q3⟩, q4, q5, q6⟩ w42) := a2; obtain ⟨m0, m1, m2⟩ := BlkT.cs N42.out.me; clear a2)
        | (go_at_call 46; (with_reducible refine (k43 _ N42.out).mono ?_); rintro _ w7 ⟨rfl, a2⟩; have I7 : Hid (IX s b w b3 (p + 1) wr5 ou5 fu5 t5 ⟨q0, ⟨q1, q2, q3⟩, q4, q5, q6⟩ w7) := a2; obtain ⟨m0, m1, m2⟩ := BlkT.cs I7.out.me; simp only at m0 m1 m2; have mf := I7.out.me.frozen; have ml := I7.out.me.lt; clear a2))
      go_region_law
        (first
          | (go_simp; go_at_call 95; refine (timesR_P (m := 1) (n := -1) (I7.out.drewI 1).ax.rd I7.out.rt (by omega) (by omega) (I7.out.drewI 1).held).mono ?_; rintro _ w9 ⟨⟨p0, ⟨p1, p2, p3⟩, p4, p5, p6⟩, rfl, ho9, ex9, b9⟩; rw [times_plus I7.out.rt] at ho9 b9; have S9 : Hid (IX s b w b3 (p + 1) wr5 ou5 (fu5 || (keptM (plusT t5)).2) (keptM (plusT t5)).1 ⟨p0, ⟨p1, p2, p3⟩, p4, p5, p6⟩ (((w9.setCell ⟨b3, 0, none⟩ (.int .i64 p0)).setCell ⟨b3, 1, none⟩ (.slice p1 p2 p3)).setCell ⟨b3, 2, none⟩ (.slice p4 p5 p6))) := (I7.out.drewI 1).step ex9 b9 (ho9.imp' (by intro g hg; have h2 := (I7.out.drewI 1).me.lt; have h3 := I7.out.hb3; omega)) (right_kept _); have M9 : Hid (Blk w9 b3 (encT ⟨q0, ⟨q1, q2, q3⟩, q4, q5, q6⟩).toArray 26) := Blk.ex ex9 (I7.out.drewI 1).me (by have := I7.out.ax.lt; have := I7.out.hb3; omega); obtain ⟨n0, n1, n2⟩ := BlkT.cs M9.out; have nf := M9.out.frozen; clear ho9 ex9 b9))
      all_goals
        have S9' := S9.out
        generalize hW10 : World.setCell _ _ _ = W10 at S9' ⊢
        have S10 : Hid (IX s b w b3 (p + 1) wr5 ou5 (fu5 || (keptM (plusT t5)).2) (keptM (plusT t5)).1 ⟨p0, ⟨p1, p2, p3⟩, p4, p5, p6⟩ W10) := S9'
        clear hW10 S9 S9'
        go_wp2_with fail
        go_roundw
        case rel => exact ⟨p + 1, wr5, ou5, _, _, _, S10, SignD.step (c := 43) (F := plusT) signs_43 D5.out h43, by have h1 := L5.out; exact (by omega : i ≤ p + 1)⟩
        case measure => rw [posOf_blk S10.out.ax.rd, HP.out]; have h1 := (headIs_drop h43).2; omega
    | false =>
    cases h63 : headIs 63 (s.data.toList.drop p) with
    | true =>
      have k42 : ∀ W, IX s b w b3 p wr5 ou5 fu5 t5 ⟨q0, ⟨q1, q2, q3⟩, q4, q5, q6⟩ W → Calls Tryz.prog 46 #[.pointer (some ⟨b, 0, none⟩), .int .u8 42] W fun e w' => e = .returned (.bool false) ∧ IX s b w b3 p wr5 ou5 fu5 t5 ⟨q0, ⟨q1, q2, q3⟩, q4, q5, q6⟩ w' := fun W a => kT 42 _ _ _ _ _ _ _ _ W h42 a
      have k43 : ∀ W, IX s b w b3 p wr5 ou5 fu5 t5 ⟨q0, ⟨q1, q2, q3⟩, q4, q5, q6⟩ W → Calls Tryz.prog 46 #[.pointer (some ⟨b, 0, none⟩), .int .u8 43] W fun e w' => e = .returned (.bool false) ∧ IX s b w b3 p wr5 ou5 fu5 t5 ⟨q0, ⟨q1, q2, q3⟩, q4, q5, q6⟩ w' := fun W a => kT 43 _ _ _ _ _ _ _ _ W h43 a
      have k63 : ∀ W, IX s b w b3 p wr5 ou5 fu5 t5 ⟨q0, ⟨q1, q2, q3⟩, q4, q5, q6⟩ W → Calls Tryz.prog 46 #[.pointer (some ⟨b, 0, none⟩), .int .u8 63] W fun e w' => e = .returned (.bool true) ∧ IX s b w b3 (p + 1) wr5 ou5 fu5 t5 ⟨q0, ⟨q1, q2, q3⟩, q4, q5, q6⟩ w' := fun W a => kT 63 _ _ _ _ _ _ _ _ W h63 a
      clear kT
      go_wp2_with (first
        | (go_at_call 46; (with_reducible refine (k42 _ I5.out).mono ?_); rintro _ w42 ⟨rfl, a2⟩; have N42 : Hid (IX s b w b3 p wr5 ou5 fu5 t5 ⟨q0, ⟨q1, q2, q3⟩, q4, q5, q6⟩ w42) := a2; obtain ⟨m0, m1, m2⟩ := BlkT.cs N42.out.me; clear a2)
        | (go_at_call 46; (with_reducible refine (k43 _ N42.out).mono ?_); rintro _ w43 ⟨rfl, a2⟩; have N43 : Hid (IX s b w b3 p wr5 ou5 fu5 t5 ⟨q0, ⟨q1, q2, q3⟩, q4, q5, q6⟩ w43) := a2; obtain ⟨m0, m1, m2⟩ := BlkT.cs N43.out.me; clear a2)
        | (go_at_call 46; (with_reducible refine (k63 _ N43.out).mono ?_); rintro _ w7 ⟨rfl, a2⟩; have I7 : Hid (IX s b w b3 (p + 1) wr5 ou5 fu5 t5 ⟨q0, ⟨q1, q2, q3⟩, q4, q5, q6⟩ w7) := a2; obtain ⟨m0, m1, m2⟩ := BlkT.cs I7.out.me; simp only at m0 m1 m2; have mf := I7.out.me.frozen; have ml := I7.out.me.lt; clear a2))
      go_region_law
        (first
          | (go_simp; go_at_call 96; refine (maybeR_P (P := fun g => w.heap.size + 1 ≤ g ∧ g < (w7.drewN 1).heap.size ∧ g ≠ b3) (I7.out.drewI 1).ax.rd I7.out.rt (fun g hg => hg.2.1) (I7.out.drewI 1).ho).mono ?_; rintro _ w9 ⟨⟨p0, ⟨p1, p2, p3⟩, p4, p5, p6⟩, rfl, ho9, ex9, sz9, b9⟩; have S9 : Hid (IX s b w b3 (p + 1) wr5 ou5 (fu5 || (keptM (optT t5)).2) (keptM (optT t5)).1 ⟨p0, ⟨p1, p2, p3⟩, p4, p5, p6⟩ (((w9.setCell ⟨b3, 0, none⟩ (.int .i64 p0)).setCell ⟨b3, 1, none⟩ (.slice p1 p2 p3)).setCell ⟨b3, 2, none⟩ (.slice p4 p5 p6))) := (I7.out.drewI 1).step ex9 b9 (ho9.imp' (by intro g hg; have h2 := (I7.out.drewI 1).me.lt; have h3 := I7.out.hb3; have h4 := ex9.size; rcases hg with hg | hg <;> omega)) (right_kept _); have M9 : Hid (Blk w9 b3 (encT ⟨q0, ⟨q1, q2, q3⟩, q4, q5, q6⟩).toArray 26) := Blk.ex ex9 (I7.out.drewI 1).me (by have := I7.out.ax.lt; have := I7.out.hb3; omega); obtain ⟨n0, n1, n2⟩ := BlkT.cs M9.out; have nf := M9.out.frozen; clear ho9 ex9 sz9 b9))
      all_goals
        have S9' := S9.out
        generalize hW10 : World.setCell _ _ _ = W10 at S9' ⊢
        have S10 : Hid (IX s b w b3 (p + 1) wr5 ou5 (fu5 || (keptM (optT t5)).2) (keptM (optT t5)).1 ⟨p0, ⟨p1, p2, p3⟩, p4, p5, p6⟩ W10) := S9'
        clear hW10 S9 S9'
        go_wp2_with fail
        go_roundw
        case rel => exact ⟨p + 1, wr5, ou5, _, _, _, S10, SignD.step (c := 63) (F := optT) signs_63 D5.out h63, by have h1 := L5.out; exact (by omega : i ≤ p + 1)⟩
        case measure => rw [posOf_blk S10.out.ax.rd, HP.out]; have h1 := (headIs_drop h63).2; omega
    | false =>
      have k42 : ∀ W, IX s b w b3 p wr5 ou5 fu5 t5 ⟨q0, ⟨q1, q2, q3⟩, q4, q5, q6⟩ W → Calls Tryz.prog 46 #[.pointer (some ⟨b, 0, none⟩), .int .u8 42] W fun e w' => e = .returned (.bool false) ∧ IX s b w b3 p wr5 ou5 fu5 t5 ⟨q0, ⟨q1, q2, q3⟩, q4, q5, q6⟩ w' := fun W a => kT 42 _ _ _ _ _ _ _ _ W h42 a
      have k43 : ∀ W, IX s b w b3 p wr5 ou5 fu5 t5 ⟨q0, ⟨q1, q2, q3⟩, q4, q5, q6⟩ W → Calls Tryz.prog 46 #[.pointer (some ⟨b, 0, none⟩), .int .u8 43] W fun e w' => e = .returned (.bool false) ∧ IX s b w b3 p wr5 ou5 fu5 t5 ⟨q0, ⟨q1, q2, q3⟩, q4, q5, q6⟩ w' := fun W a => kT 43 _ _ _ _ _ _ _ _ W h43 a
      have k63 : ∀ W, IX s b w b3 p wr5 ou5 fu5 t5 ⟨q0, ⟨q1, q2, q3⟩, q4, q5, q6⟩ W → Calls Tryz.prog 46 #[.pointer (some ⟨b, 0, none⟩), .int .u8 63] W fun e w' => e = .returned (.bool false) ∧ IX s b w b3 p wr5 ou5 fu5 t5 ⟨q0, ⟨q1, q2, q3⟩, q4, q5, q6⟩ w' := fun W a => kT 63 _ _ _ _ _ _ _ _ W h63 a
      clear kT
      go_wp2_with (first
        | (go_at_call 46; (with_reducible refine (k42 _ I5.out).mono ?_); rintro _ w42 ⟨rfl, a2⟩; have N42 : Hid (IX s b w b3 p wr5 ou5 fu5 t5 ⟨q0, ⟨q1, q2, q3⟩, q4, q5, q6⟩ w42) := a2; obtain ⟨m0, m1, m2⟩ := BlkT.cs N42.out.me; clear a2)
        | (go_at_call 46; (with_reducible refine (k43 _ N42.out).mono ?_); rintro _ w43 ⟨rfl, a2⟩; have N43 : Hid (IX s b w b3 p wr5 ou5 fu5 t5 ⟨q0, ⟨q1, q2, q3⟩, q4, q5, q6⟩ w43) := a2; obtain ⟨m0, m1, m2⟩ := BlkT.cs N43.out.me; clear a2)
        | (go_at_call 46; (with_reducible refine (k63 _ N43.out).mono ?_); rintro _ w63 ⟨rfl, a2⟩; have N63 : Hid (IX s b w b3 p wr5 ou5 fu5 t5 ⟨q0, ⟨q1, q2, q3⟩, q4, q5, q6⟩ w63) := a2; obtain ⟨m0, m1, m2⟩ := BlkT.cs N63.out.me; obtain ⟨y0, y1, y2⟩ := BlkT.cs N63.out.ax.res; have z0 := N63.out.ax.res.frozen; simp only at m0 m1 m2; clear a2))
      refine bodyPost_ret (v := PC.v ⟨q0, ⟨q1, q2, q3⟩, ⟨q4, q5, q6⟩⟩) ?_ rfl (N63.out.ax.fin (N63.out.ho.imp' (fun g hg => ⟨hg.1, hg.2.1⟩)) N63.out.rt L5.out N63.out.le (D5.out.fin h42 h43 h63) _ _ _)
      simp [results, Tryz.results83]
      have B := blk_put3 N63.out.ax.res ⟨q0, ⟨q1, q2, q3⟩, ⟨q4, q5, q6⟩⟩
      simp only at B
      generalize hW7 : World.setCell _ _ _ = W7 at B ⊢
      exact run_ptv B

/-! ### What is left to be read -/

def finM (k : Int) (x : Option (List Tree × Bool × Bool × Bs)) : Option Rd :=
  match x with
  | none => none
  | some (l, o, f, r') => some ⟨(singleM k l).1, o, f || (singleM k l).2, r'⟩

def SepD (s : ByteArray) (wr0 ou0 fu0 : Bool) (M : Option Rd) (one : Bs → Option Rd) (c : UInt8) (k : Int) (ts : List Tree) (i : Nat) (wr ou fu : Bool) : Prop :=
  (wr0 = true → wr = true) ∧ (wr0 = false → (M = none ∧ wr = true) ∨ (wr = false ∧ ∃ o f q, ou = (ou0 || o) ∧ fu = (fu0 || f) ∧ (s.data.toList.drop i).length < q ∧ M = finM k (sepM one c q ts o f (s.data.toList.drop i))))

theorem SepD.start {s : ByteArray} {one : Bs → Option Rd} {c : UInt8} {k : Int} {r : Bs} {t : Tree} {i : Nat} {wr0 ou0 fu0 wr ou fu : Bool} (h : Does s wr0 ou0 fu0 (one r) t i wr ou fu) : SepD s wr0 ou0 fu0 (listM one c k r) one c k [t] i wr ou fu := by
  refine ⟨h.1, fun hw => ?_⟩
  rcases h.2 hw with ⟨h1, h2⟩ | ⟨x, h1, h2, h3, h4, h5, h6⟩
  · left; unfold listM; rw [h1]; exact ⟨rfl, h2⟩
  · right
    refine ⟨h2, x.o, x.f, x.r.length + 1, h5, h6, by rw [h4]; omega, ?_⟩
    unfold listM
    rw [h1, h3, h4]
    rfl
theorem SepD.step {s : ByteArray} {M : Option Rd} {one : Bs → Option Rd} {c : UInt8} {k : Int} {ts : List Tree} {t : Tree} {i i2 : Nat} {wr0 ou0 fu0 wr ou fu wr2 ou2 fu2 : Bool} (h : SepD s wr0 ou0 fu0 M one c k ts i wr ou fu) (hc : headIs c (s.data.toList.drop i) = true) (hd : Does s wr ou fu (one (s.data.toList.drop (i + 1))) t i2 wr2 ou2 fu2) (hi : i + 1 ≤ i2) (h2s : i2 ≤ s.size) : SepD s wr0 ou0 fu0 M one c k (ts ++ [t]) i2 wr2 ou2 fu2 := by
  refine ⟨fun hw => hd.1 (h.1 hw), fun hw => ?_⟩
  rcases h.2 hw with ⟨h1, h2⟩ | ⟨h1, o, f, q, h2, h3, h4, h5⟩
  · exact Or.inl ⟨h1, hd.1 h2⟩
  · rw [(headIs_drop hc).1] at h4 h5
    obtain ⟨q', rfl⟩ : ∃ q', q = q' + 1 := ⟨q - 1, by simp at h4; omega⟩
    rw [sepM, if_pos rfl] at h5
    rcases hd.2 h1 with ⟨a1, a2⟩ | ⟨x, a1, a2, a3, a4, a5, a6⟩
    · left
      rw [a1] at h5
      exact ⟨h5, a2⟩
    · right
      rw [a1] at h5
      refine ⟨a2, o || x.o, f || x.f, q', by rw [a5, h2, Bool.or_assoc], by rw [a6, h3, Bool.or_assoc], ?_, ?_⟩
      · rw [List.length_cons, drop_len] at h4
        rw [drop_len]
        omega
      · rw [a3, a4]; exact h5
theorem sep_stop' {one : Bs → Option Rd} {c : UInt8} {k : Nat} {l : List Tree} {o f : Bool} {r : Bs} (h : headIs c r = false) : sepM one c (k + 1) l o f r = some (l, o, f, r) := by
  cases r with
  | nil => rw [sepM]
  | cons d r =>
    simp [headIs_cons] at h
    rw [sepM]
    simp [h]
theorem SepD.fin {s : ByteArray} {M : Option Rd} {one : Bs → Option Rd} {c : UInt8} {k : Int} {ts : List Tree} {i : Nat} {wr0 ou0 fu0 wr ou fu : Bool} (h : SepD s wr0 ou0 fu0 M one c k ts i wr ou fu) (hc : headIs c (s.data.toList.drop i) = false) : Does s wr0 ou0 fu0 M (singleM k ts).1 i wr ou (fu || (singleM k ts).2) := by
  refine ⟨h.1, fun hw => ?_⟩
  rcases h.2 hw with h1 | ⟨h1, o, f, q, h2, h3, h4, h5⟩
  · exact Or.inl h1
  · right
    obtain ⟨q', rfl⟩ : ∃ q', q = q' + 1 := ⟨q - 1, by omega⟩
    rw [sep_stop' hc] at h5
    exact ⟨_, h5, h1, rfl, rfl, h2, by rw [h3, Bool.or_assoc]⟩

end Go.Proofs.YtjjlkjfhhpogaaaGreatDoor
