/-
  The Jun dialect's reader, walks: atom, item, cat, pattern.
-/
import Derived.Test.YtjjlkjfhhpogaaaGreatDoorRj1
import Derived.Test.YtjjlkjfhhpogaaaGreatDoorJk
namespace Go.Proofs.YtjjlkjfhhpogaaaGreatDoor
open Go.RowKit

/-- A function that is called where an item begins: it reads what the model says, and goes on. -/
def PostJ (s : ByteArray) (b i : Nat) (wr ou fu : Bool) (m : Option Rd) (w : World) (e : Ending) (w' : World) : Prop :=
  ∃ (r : PC) (t : Tree) (i' : Nat) (wr' ou' fu' : Bool), e = .returned r.v ∧ HO (fun g => w.heap.size ≤ g ∧ g < w'.heap.size) w' t r ∧ rightT t = true ∧ Ex b w w' ∧ BlkR w' b s i' wr' ou' fu' ∧ i + 1 ≤ i' ∧ i' ≤ s.size ∧ Does s wr ou fu m t i' wr' ou' fu'
def CJ (s : ByteArray) (b : Nat) (F : FuncId) (M : Bs → Option Rd) (lim : Nat) : Prop :=
  ∀ (i : Nat) (wr ou fu : Bool) (W : World), i ≤ s.size → s.size - i < lim → blI s i = i → beginsM (s.data.toList.drop i) = true → BlkR W b s i wr ou fu →
    Calls Tryz.prog F #[.pointer (some ⟨b, 0, none⟩)] W fun e w' => PostJ s b i wr ou fu (M (s.data.toList.drop i)) W e w'
theorem AX.finJ {s : ByteArray} {b : Nat} {w : World} {i0 i : Nat} {wr0 ou0 fu0 wr ou fu : Bool} {W : World} (h : AX s b w i wr ou fu W) {t : Tree} {r : PC} {m : Option Rd} (hr : HO (fun g => w.heap.size + 1 ≤ g ∧ g < W.heap.size) W t r) (hk : rightT t = true) (h1 : i0 + 1 ≤ i) (h2 : i ≤ s.size) (hd : Does s wr0 ou0 fu0 m t i wr ou fu) (v0 v1 v2 : Value) :
    PostJ s b i0 wr0 ou0 fu0 m w (.returned r.v) (((W.setCell ⟨w.heap.size, 0, none⟩ v0).setCell ⟨w.heap.size, 1, none⟩ v1).setCell ⟨w.heap.size, 2, none⟩ v2) :=
  ⟨r, t, i, wr, ou, fu, rfl, HO.same (fun g hg => ⟨by omega, by simpa using hg.2⟩) (fun g hg => heap_set3 (by omega) _ _ _) hr, hk, set3_ex h.ex (Nat.le_refl _) _ _ _, h.rd.set3 (by have := h.lt; omega) _ _ _, h1, h2, hd⟩

/-! ### The cases of atom -/

theorem at_dr {s : ByteArray} {i : Nat} (hp : blI s i = i) : dropBl (s.data.toList.drop i) = s.data.toList.drop i := by rw [← blI_drop, hp]
theorem aj_46 {pat : Bs → Option Rd} {s : ByteArray} {i : Nat} (hp : blI s i = i) (h : headIs 46 (s.data.toList.drop i) = true) (wr ou fu : Bool) : Does s wr ou fu (jatomM pat (s.data.toList.drop i)) allT (i + 1) wr ou fu := by
  refine ⟨id, fun hw => Or.inr ⟨⟨allT, false, false, s.data.toList.drop (i + 1)⟩, ?_, hw, rfl, rfl, by simp, by simp⟩⟩
  unfold jatomM
  rw [at_dr hp, (headIs_drop h).1]; simp
theorem aj_33 {pat : Bs → Option Rd} {s : ByteArray} {i : Nat} (hp : blI s i = i) (h : headIs 33 (s.data.toList.drop i) = true) (wr ou fu : Bool) : Does s wr ou fu (jatomM pat (s.data.toList.drop i)) noT (i + 1) wr ou fu := by
  refine ⟨id, fun hw => Or.inr ⟨⟨noT, false, false, s.data.toList.drop (i + 1)⟩, ?_, hw, rfl, rfl, by simp, by simp⟩⟩
  unfold jatomM
  rw [at_dr hp, (headIs_drop h).1]; simp
theorem aj_40 {pat : Bs → Option Rd} {s : ByteArray} {i i1 p1 : Nat} {wr ou fu wr1 ou1 fu1 : Bool} {t : Tree} (hp : blI s i = i) (h : headIs 40 (s.data.toList.drop i) = true) (hd : Does s wr ou fu (pat (s.data.toList.drop (i + 1))) t i1 wr1 ou1 fu1) (hp1 : blI s i1 = p1) :
    Does s wr ou fu (jatomM pat (s.data.toList.drop i)) t (mustI s 41 p1) (mustW s 41 p1 wr1) ou1 fu1 := by
  have e : jatomM pat (s.data.toList.drop i) = jparM (pat (s.data.toList.drop (i + 1))) := by unfold jatomM; rw [at_dr hp, (headIs_drop h).1]; simp
  rw [e]
  refine ⟨fun hw => by unfold mustW; rw [hd.1 hw]; rfl, fun hw => ?_⟩
  rcases hd.2 hw with ⟨h1, h2⟩ | ⟨x, h1, h2, h3, h4, h5, h6⟩
  · left; rw [h1]; exact ⟨rfl, by unfold mustW; rw [h2]; rfl⟩
  · rw [h1]
    obtain ⟨xt, xo, xf, xr⟩ := x
    simp only at h3 h4 h5 h6
    have e2 : jparM (some ⟨xt, xo, xf, xr⟩) = match s.data.toList.drop p1 with | [] => none | c :: r => if c = 41 then some ⟨xt, xo, xf, r⟩ else none := by
      rw [← hp1, blI_drop, h4]; rfl
    rw [e2]
    rcases must_some (s := s) (c := 41) (i := p1) rfl with ⟨q, a1, a2, a3⟩ | ⟨a1, a2⟩
    · right
      subst h2
      exact ⟨⟨xt, xo, xf, q⟩, by rw [a1]; simp, a2, h3, a3, h5, h6⟩
    · left
      refine ⟨?_, a2 _⟩
      cases e3 : s.data.toList.drop p1 with
      | nil => rfl
      | cons d r =>
        simp only
        rw [if_neg]
        rintro rfl
        exact a1 r e3
theorem aj_num {pat : Bs → Option Rd} {s : ByteArray} {i : Nat} (hp : blI s i = i) (h46 : headIs 46 (s.data.toList.drop i) = false) (h33 : headIs 33 (s.data.toList.drop i) = false) (h40 : headIs 40 (s.data.toList.drop i) = false) (hb : beginsM (s.data.toList.drop i) = true) : jatomM pat (s.data.toList.drop i) = jnumsM (s.data.toList.drop i) := by
  unfold jatomM
  rw [at_dr hp]
  cases e : s.data.toList.drop i with
  | nil => rw [e] at hb; cases hb
  | cons c r =>
    rw [e] at h46 h33 h40
    simp [headIs_cons] at h46 h33 h40
    simp only
    rw [if_neg h46, if_neg h33, if_neg h40]
theorem aj_num1 {s : ByteArray} {i i1 p1 n1 : Nat} {wr ou fu wr1 : Bool} (h1 : NumQ s i wr n1 i1 wr1) (hp1 : blI s i1 = p1) (h45 : headIs 45 (s.data.toList.drop p1) = false) :
    Does s wr ou fu (jnumsM (s.data.toList.drop i)) (numT n1 n1) p1 wr1 (ou || oneO n1 n1) fu := by
  refine ⟨h1.wrong, fun hw => ?_⟩
  subst hw
  unfold jnumsM
  rcases h1 with ⟨a1, a2⟩ | ⟨r1, a1, a2, a3⟩
  · left; rw [a1]; exact ⟨rfl, a2⟩
  · right
    rw [a1]
    simp only
    rw [← a3, ← blI_drop, hp1]
    refine ⟨⟨numT n1 n1, oneO n1 n1, false, s.data.toList.drop p1⟩, ?_, a2, rfl, rfl, rfl, by simp⟩
    rcases headIs_cases h45 with e | ⟨d, r, e, hd⟩
    · rw [e]
    · rw [e]; simp only; rw [if_neg hd]
theorem aj_num2 {s : ByteArray} {i i1 p1 p2 i2 n1 n2 : Nat} {wr ou fu wr1 wr2 : Bool} (h1 : NumQ s i wr n1 i1 wr1) (hp1 : blI s i1 = p1) (h45 : headIs 45 (s.data.toList.drop p1) = true) (hp2 : blI s (p1 + 1) = p2) (h2 : NumQ s p2 wr1 n2 i2 wr2) :
    Does s wr ou fu (jnumsM (s.data.toList.drop i)) (numT n1 n2) i2 wr2 (ou || oneO n1 n2) fu := by
  refine ⟨fun hw => h2.wrong (h1.wrong hw), fun hw => ?_⟩
  subst hw
  unfold jnumsM
  rcases h1 with ⟨a1, a2⟩ | ⟨r1, a1, a2, a3⟩
  · left; rw [a1]; exact ⟨rfl, h2.wrong a2⟩
  · rw [a1]
    simp only
    rw [← a3, ← blI_drop, hp1, (headIs_drop h45).1]
    simp only [if_true]
    rw [← blI_drop, hp2]
    rcases h2 with ⟨c1, c2⟩ | ⟨r2, c1, c2, c3⟩
    · left; rw [c1]; exact ⟨rfl, c2⟩
    · right
      rw [c1]
      exact ⟨⟨numT n1 n2, oneO n1 n2, false, r2⟩, rfl, c2.trans a2, rfl, c3, rfl, by simp⟩

set_option maxRecDepth 100000 in
set_option maxHeartbeats 8000000 in
theorem jatom_any {s : ByteArray} {b n : Nat} {pat : Bs → Option Rd} (hs : s.size ≤ 3000) (ka : CA s b 44 pat n) : CJ s b 94 (jatomM pat) (n + 1) := by
  intro i wr ou fu w hi hlim hp hbeg hb
  have HA := AX.start hb
  have HS : Hid (s.size ≤ 3000) := hs
  have HIi : Hid (i ≤ s.size) := hi
  have HPi : Hid (blI s i = i) := hp
  have HBg : Hid (beginsM (s.data.toList.drop i) = true) := hbeg
  have HKA : Hid (CA s b 44 pat n) := ka
  have HLm : Hid (s.size - i < n + 1) := hlim
  have kN : ∀ (c : UInt8) (W : World), headIs c (s.data.toList.drop i) = false → AX s b w i wr ou fu W → Calls Tryz.prog 63 #[.pointer (some ⟨b, 0, none⟩), .int .u8 c.toNat] W fun e w' => e = .returned (.bool false) ∧ AX s b w i wr ou fu w' := fun c W h a => (jtook_any hs hi hp a.rd).mono fun _ _ h' => by
    unfold tkI at h'; rw [h] at h'; exact ⟨h'.1, a.go h'.2.1 h'.2.2⟩
  have kY : ∀ (c : UInt8) (W : World), headIs c (s.data.toList.drop i) = true → AX s b w i wr ou fu W → Calls Tryz.prog 63 #[.pointer (some ⟨b, 0, none⟩), .int .u8 c.toNat] W fun e w' => e = .returned (.bool true) ∧ AX s b w (i + 1) wr ou fu w' := fun c W h a => (jtook_any hs hi hp a.rd).mono fun _ _ h' => by
    unfold tkI at h'; rw [h] at h'; exact ⟨h'.1, a.go h'.2.1 h'.2.2⟩
  have kn := fun W => any_any W
  generalize hW : w.alloc (.cells #[.int .i64 0, .slice none 0 0, .slice none 0 0] 26) = W0 at HA
  have HI : Hid (AX s b w i wr ou fu W0) := HA
  clear hb HA hi hs ka hlim hp hbeg
  cases h46 : headIs 46 (s.data.toList.drop i) with
  | true =>
    have kY46 : ∀ W, AX s b w i wr ou fu W → Calls Tryz.prog 63 #[.pointer (some ⟨b, 0, none⟩), .int .u8 46] W fun e w' => e = .returned (.bool true) ∧ AX s b w (i + 1) wr ou fu w' := fun W a => kY 46 W h46 a
    clear kN kY
    go_enter Tryz.func94, Tryz.ntmps94
    go_upto_region 1 with fail
    clear hW
    go_wp2_with (first
      | (go_at_call 63; (with_reducible refine (kY46 _ HI.out).mono ?_); rintro _ w2 ⟨rfl, a2⟩; have I2 : Hid (AX s b w (i + 1) wr ou fu w2) := a2; clear a2)
      | (go_at_call 48; refine (kn _).mono ?_; rintro _ w3 ⟨⟨r0, ⟨r1, r2, r3⟩, r4, r5, r6⟩, rfl, ho3, bb3⟩; have I3 : Hid (AX s b w (i + 1) wr ou fu w3) := I2.out.bel bb3; have H3 : Hid (HO (fun g => w.heap.size + 1 ≤ g ∧ g < w3.heap.size) w3 allT ⟨r0, ⟨r1, r2, r3⟩, r4, r5, r6⟩) := ho3.low (by have := I2.out.res.lt; omega); obtain ⟨y0, y1, y2⟩ := BlkT.cs I3.out.res; have z0 := I3.out.res.frozen; clear ho3 bb3))
    refine bodyPost_ret (v := PC.v ⟨r0, ⟨r1, r2, r3⟩, ⟨r4, r5, r6⟩⟩) ?_ rfl (I3.out.finJ H3.out right_all (Nat.le_refl _) (headIs_drop h46).2 (aj_46 HPi.out h46 wr ou fu) _ _ _)
    simp [results, Tryz.results94]
    have B := blk_put3 I3.out.res ⟨r0, ⟨r1, r2, r3⟩, ⟨r4, r5, r6⟩⟩
    simp only at B
    generalize hW7 : World.setCell _ _ _ = W7 at B ⊢
    exact run_ptv B
  | false =>
  cases h33 : headIs 33 (s.data.toList.drop i) with
  | true =>
    have kN46 : ∀ W, AX s b w i wr ou fu W → Calls Tryz.prog 63 #[.pointer (some ⟨b, 0, none⟩), .int .u8 46] W fun e w' => e = .returned (.bool false) ∧ AX s b w i wr ou fu w' := fun W a => kN 46 W h46 a
    have kY33 : ∀ W, AX s b w i wr ou fu W → Calls Tryz.prog 63 #[.pointer (some ⟨b, 0, none⟩), .int .u8 33] W fun e w' => e = .returned (.bool true) ∧ AX s b w (i + 1) wr ou fu w' := fun W a => kY 33 W h33 a
    clear kN kY
    go_enter Tryz.func94, Tryz.ntmps94
    go_upto_region 1 with fail
    clear hW
    go_wp2_with (first
      | (go_at_call 63; (with_reducible refine (kN46 _ HI.out).mono ?_); rintro _ w1 ⟨rfl, a2⟩; have I1 : Hid (AX s b w i wr ou fu w1) := a2; clear a2)
      | (go_at_call 63; (with_reducible refine (kY33 _ I1.out).mono ?_); rintro _ w2 ⟨rfl, a2⟩; have I2 : Hid (AX s b w (i + 1) wr ou fu w2) := a2; obtain ⟨y0, y1, y2⟩ := BlkT.cs I2.out.res; have z0 := I2.out.res.frozen; clear a2))
    refine bodyPost_ret (v := PC.v ⟨3, ⟨none, 0, 0⟩, ⟨none, 0, 0⟩⟩) ?_ rfl (I2.out.finJ (HO_none 3) right_no (Nat.le_refl _) (headIs_drop h33).2 (aj_33 HPi.out h33 wr ou fu) _ _ _)
    simp [results, Tryz.results94]
    have B := blk_put3 I2.out.res ⟨3, ⟨none, 0, 0⟩, ⟨none, 0, 0⟩⟩
    simp only at B
    generalize hW7 : World.setCell _ _ _ = W7 at B ⊢
    exact run_ptv B
  | false =>
  cases h40 : headIs 40 (s.data.toList.drop i) with
  | true =>
    have kN46 : ∀ W, AX s b w i wr ou fu W → Calls Tryz.prog 63 #[.pointer (some ⟨b, 0, none⟩), .int .u8 46] W fun e w' => e = .returned (.bool false) ∧ AX s b w i wr ou fu w' := fun W a => kN 46 W h46 a
    have kN33 : ∀ W, AX s b w i wr ou fu W → Calls Tryz.prog 63 #[.pointer (some ⟨b, 0, none⟩), .int .u8 33] W fun e w' => e = .returned (.bool false) ∧ AX s b w i wr ou fu w' := fun W a => kN 33 W h33 a
    have kY40 : ∀ W, AX s b w i wr ou fu W → Calls Tryz.prog 63 #[.pointer (some ⟨b, 0, none⟩), .int .u8 40] W fun e w' => e = .returned (.bool true) ∧ AX s b w (i + 1) wr ou fu w' := fun W a => kY 40 W h40 a
    have kM41 : ∀ (j p : Nat) (wr' ou' fu' : Bool) (W : World), j ≤ s.size → blI s j = p → AX s b w j wr' ou' fu' W → Calls Tryz.prog 114 #[.pointer (some ⟨b, 0, none⟩), .int .u8 41] W fun e w' => (∃ v, e = .returned v) ∧ Ex b W w' ∧ AX s b w (mustI s 41 p) (mustW s 41 p wr') ou' fu' w' := fun j p wr' ou' fu' W h hp a => (jmust_any (c := 41) HS.out h hp a.rd).mono fun _ _ h => ⟨h.1, h.2.1, a.go h.2.1 h.2.2⟩
    clear kN kY
    go_enter Tryz.func94, Tryz.ntmps94
    go_upto_region 1 with fail
    clear hW
    go_wp2_with (first
      | (go_at_call 63; (with_reducible refine (kN46 _ HI.out).mono ?_); rintro _ w1 ⟨rfl, a2⟩; have I1 : Hid (AX s b w i wr ou fu w1) := a2; clear a2)
      | (go_at_call 63; (with_reducible refine (kN33 _ I1.out).mono ?_); rintro _ w2 ⟨rfl, a2⟩; have I2 : Hid (AX s b w i wr ou fu w2) := a2; clear a2)
      | (go_at_call 63; (with_reducible refine (kY40 _ I2.out).mono ?_); rintro _ w3 ⟨rfl, a2⟩; have I3 : Hid (AX s b w (i + 1) wr ou fu w3) := a2; clear a2)
      | (go_at_call 44; refine (HKA.out (i + 1) wr ou fu _ (headIs_drop h40).2 (by have := HLm.out; have := (headIs_drop h40).2; omega) I3.out.rd).mono ?_; rintro _ w4 ⟨⟨r0, ⟨r1, r2, r3⟩, r4, r5, r6⟩, t4, i4, wr4, ou4, fu4, rfl, ho4, hk4, ex4, b4, le4, le5, d4⟩; have I4 : Hid (AX s b w i4 wr4 ou4 fu4 (w4.alloc (.cells #[.int .i64 r0, .slice r1 r2 r3, .slice r4 r5 r6] 26))) := (I3.out.go ex4 b4).bel (bel_alloc _ _); have H4 : Hid (HO (fun g => w.heap.size + 1 ≤ g ∧ g < w4.heap.size) w4 t4 ⟨r0, ⟨r1, r2, r3⟩, r4, r5, r6⟩) := ho4.low (by have := I3.out.res.lt; omega); have K4 : Hid (rightT t4 = true) := hk4; have L4 : Hid (i + 1 ≤ i4) := le4; have L5 : Hid (i4 ≤ s.size) := le5; have D4 : Hid (Does s wr ou fu (pat (s.data.toList.drop (i + 1))) t4 i4 wr4 ou4 fu4) := d4; have N4 : Hid (b < w4.heap.size) := (I3.out.go ex4 b4).rd.lt; clear ho4 hk4 ex4 b4 le4 le5 d4)
      | (go_at_call 114; (with_reducible refine (kM41 _ _ _ _ _ _ L5.out rfl I4.out).mono ?_); rintro _ w5 ⟨⟨v5, rfl⟩, ex5, a5⟩; have I5 : Hid (AX s b w (mustI s 41 (blI s i4)) (mustW s 41 (blI s i4) wr4) ou4 fu4 w5) := a5; have B5 : Hid (Blk w5 w4.heap.size (encT ⟨r0, ⟨r1, r2, r3⟩, r4, r5, r6⟩).toArray 26) := Blk.ex ex5 (Blk.new _ _ _) (by have := N4.out; omega); have H5 : Hid (HO (fun g => w.heap.size + 1 ≤ g ∧ g < w5.heap.size) w5 t4 ⟨r0, ⟨r1, r2, r3⟩, r4, r5, r6⟩) := (H4.out.bel (bel_alloc _ _)).ex ex5 (by have := I4.out.lt; omega); obtain ⟨x0, x1, x2⟩ := BlkT.cs B5.out; obtain ⟨y0, y1, y2⟩ := BlkT.cs I5.out.res; have z0 := I5.out.res.frozen; clear ex5 a5))
    refine bodyPost_ret (v := PC.v ⟨r0, ⟨r1, r2, r3⟩, ⟨r4, r5, r6⟩⟩) ?_ rfl (I5.out.finJ H5.out K4.out (by have h1 := L4.out; have h2 := blI_ge s i4; have h3 := (mustI_le (c := 41) (blI_le L5.out)).1; omega) (mustI_le (blI_le L5.out)).2 (aj_40 HPi.out h40 D4.out rfl) _ _ _)
    simp [results, Tryz.results94]
    have B := blk_put3 I5.out.res ⟨r0, ⟨r1, r2, r3⟩, ⟨r4, r5, r6⟩⟩
    simp only at B
    generalize hW7 : World.setCell _ _ _ = W7 at B ⊢
    exact run_ptv B
  | false =>
    have kN46 : ∀ W, AX s b w i wr ou fu W → Calls Tryz.prog 63 #[.pointer (some ⟨b, 0, none⟩), .int .u8 46] W fun e w' => e = .returned (.bool false) ∧ AX s b w i wr ou fu w' := fun W a => kN 46 W h46 a
    have kN33 : ∀ W, AX s b w i wr ou fu W → Calls Tryz.prog 63 #[.pointer (some ⟨b, 0, none⟩), .int .u8 33] W fun e w' => e = .returned (.bool false) ∧ AX s b w i wr ou fu w' := fun W a => kN 33 W h33 a
    have kN40 : ∀ W, AX s b w i wr ou fu W → Calls Tryz.prog 63 #[.pointer (some ⟨b, 0, none⟩), .int .u8 40] W fun e w' => e = .returned (.bool false) ∧ AX s b w i wr ou fu w' := fun W a => kN 40 W h40 a
    have kU : ∀ (j p : Nat) (wr' ou' fu' : Bool) (W : World), j ≤ s.size → blI s j = p → AX s b w j wr' ou' fu' W → Calls Tryz.prog 115 #[.pointer (some ⟨b, 0, none⟩)] W fun e w' => ∃ (q at' : Nat) (wr2 : Bool), e = .returned (.int .u32 (YtjjlkjfhhpogaaaGreatDoor.wr q)) ∧ AX s b w at' wr2 (ou' || decide (4294967295 < q)) fu' w' ∧ at' ≤ s.size ∧ p ≤ at' ∧ (p < s.size → p < at') ∧ NumQ s p wr' q at' wr2 := fun j p wr' ou' fu' W h hp a => (jnumber_any HS.out h hp a.rd).mono fun _ _ ⟨q, at', wr2, h1, h2, h3, h4, h5, h6, h7⟩ => ⟨q, at', wr2, h1, a.go h2 h3, h4, h5, h6, h7⟩
    have kT45 : ∀ (j p : Nat) (wr' ou' fu' : Bool) (q : Bool) (W : World), j ≤ s.size → blI s j = p → headIs 45 (s.data.toList.drop p) = q → AX s b w j wr' ou' fu' W → Calls Tryz.prog 63 #[.pointer (some ⟨b, 0, none⟩), .int .u8 45] W fun e w' => e = .returned (.bool q) ∧ AX s b w (if q = true then p + 1 else p) wr' ou' fu' w' := fun j p wr' ou' fu' q W h hp hq a => (jtook_any (c := 45) HS.out h hp a.rd).mono fun _ _ h' => by
      unfold tkI at h'; rw [hq] at h'; exact ⟨h'.1, a.go h'.2.1 h'.2.2⟩
    have kO : ∀ (j : Nat) (l h : Int) (wr' ou' fu' : Bool) (W : World), AX s b w j wr' ou' fu' W → Calls Tryz.prog 116 #[.pointer (some ⟨b, 0, none⟩), .int .u32 l, .int .u32 h] W fun e w' => ∃ r : PC, e = .returned r.v ∧ HO (fun g => w.heap.size + 1 ≤ g ∧ g < w'.heap.size) w' (.mk 1 [(l, h)] []) r ∧ AX s b w j wr' (ou' || decide (h < l)) fu' w' := fun j l h wr' ou' fu' W a => (one_any a.rd).mono fun _ _ ⟨r, h1, h2, h3, h4⟩ => ⟨r, h1, h2.low (by have := a.res.lt; omega), a.go h3 h4⟩
    have hin : i < s.size := by
      have := HBg.out
      cases e : s.data.toList.drop i with
      | nil => rw [e] at this; cases this
      | cons z r => exact drop_lt e
    have HAJ : Hid (jatomM pat (s.data.toList.drop i) = jnumsM (s.data.toList.drop i)) := aj_num HPi.out h46 h33 h40 HBg.out
    clear kN kY
    go_enter Tryz.func94, Tryz.ntmps94
    go_upto_region 1 with fail
    clear hW
    go_upto_region 11 with (first
      | (go_at_call 63; (with_reducible refine (kN46 _ HI.out).mono ?_); rintro _ w1 ⟨rfl, a2⟩; have I1 : Hid (AX s b w i wr ou fu w1) := a2; clear a2)
      | (go_at_call 63; (with_reducible refine (kN33 _ I1.out).mono ?_); rintro _ w2 ⟨rfl, a2⟩; have I2 : Hid (AX s b w i wr ou fu w2) := a2; clear a2)
      | (go_at_call 63; (with_reducible refine (kN40 _ I2.out).mono ?_); rintro _ w3 ⟨rfl, a2⟩; have I3 : Hid (AX s b w i wr ou fu w3) := a2; clear a2)
      | (go_at_call 115; refine (kU i i wr ou fu _ HIi.out HPi.out I3.out).mono ?_; rintro _ w6 ⟨n6, i6, wr6, rfl, a2, le4, le5, lt5, f2⟩; have I6 : Hid (AX s b w i6 wr6 (ou || decide (4294967295 < n6)) fu w6) := a2; have L6 : Hid (i6 ≤ s.size) := le4; have M6 : Hid (i + 1 ≤ i6) := lt5 hin; have F6 : Hid (NumQ s i wr n6 i6 wr6) := f2; clear a2 le4 le5 lt5 f2))
    obtain ⟨M, hM⟩ : ∃ M, M = YtjjlkjfhhpogaaaGreatDoor.wr n6 := ⟨_, rfl⟩
    have HM : Hid (M = YtjjlkjfhhpogaaaGreatDoor.wr n6) := hM
    rw [← hM]
    obtain ⟨p6, hp6⟩ : ∃ p, blI s i6 = p := ⟨_, rfl⟩
    have HP6 : Hid (blI s i6 = p6) := hp6
    have HL6 : Hid (i6 ≤ p6 ∧ p6 ≤ s.size) := by rw [← hp6]; exact ⟨blI_ge _ _, blI_le L6.out⟩
    clear hM hp6 kN46 kN33 kN40 I1 I2 I3 HI
    cases h45 : headIs 45 (s.data.toList.drop p6) with
    | true =>
      have kTq : ∀ W, AX s b w i6 wr6 (ou || decide (4294967295 < n6)) fu W → Calls Tryz.prog 63 #[.pointer (some ⟨b, 0, none⟩), .int .u8 45] W fun e w' => e = .returned (.bool true) ∧ AX s b w (p6 + 1) wr6 (ou || decide (4294967295 < n6)) fu w' := fun W a => kT45 i6 p6 _ _ _ true W L6.out HP6.out h45 a
      have hl7 := (headIs_drop h45).2
      go_upto_region 13 with (first
        | (go_at_call 63; (with_reducible refine (kTq _ I6.out).mono ?_); rintro _ w7 ⟨rfl, a2⟩; have I7 : Hid (AX s b w (p6 + 1) wr6 (ou || decide (4294967295 < n6)) fu w7) := a2; clear a2)
        | (go_at_call 115; refine (kU (p6 + 1) _ _ _ _ _ hl7 rfl I7.out).mono ?_; rintro _ w8 ⟨n8, i8, wr8, rfl, a2, le4, le5, _, f2⟩; have I8 : Hid (AX s b w i8 wr8 ((ou || decide (4294967295 < n6)) || decide (4294967295 < n8)) fu w8) := a2; have L8 : Hid (i8 ≤ s.size ∧ blI s (p6 + 1) ≤ i8) := ⟨le4, le5⟩; have F8 : Hid (NumQ s (blI s (p6 + 1)) wr6 n8 i8 wr8) := f2; clear a2 le4 le5 f2))
      have HT : Hid (Tree.mk 1 [(M, YtjjlkjfhhpogaaaGreatDoor.wr n8)] [] = numT n6 n8) := by show _ = _; rw [HM.out]; rfl
      have HOo : Hid ((((ou || decide (4294967295 < n6)) || decide (4294967295 < n8)) || decide (YtjjlkjfhhpogaaaGreatDoor.wr n8 < M)) = (ou || oneO n6 n8)) := by show _ = _; rw [HM.out]; exact oneO_eq ou n6 n8
      clear kTq kT45 kU
      go_wp2_with (go_at_call 116; refine (kO _ M (YtjjlkjfhhpogaaaGreatDoor.wr n8) _ _ _ _ I8.out).mono ?_; rintro _ w9 ⟨⟨r0, ⟨r1, r2, r3⟩, r4, r5, r6⟩, rfl, ho9, a9⟩; have I9 : Hid (AX s b w i8 wr8 (((ou || decide (4294967295 < n6)) || decide (4294967295 < n8)) || decide (YtjjlkjfhhpogaaaGreatDoor.wr n8 < M)) fu w9) := a9; have H9 : Hid (HO (fun g => w.heap.size + 1 ≤ g ∧ g < w9.heap.size) w9 (.mk 1 [(M, YtjjlkjfhhpogaaaGreatDoor.wr n8)] []) ⟨r0, ⟨r1, r2, r3⟩, r4, r5, r6⟩) := ho9; obtain ⟨y0, y1, y2⟩ := BlkT.cs I9.out.res; have z0 := I9.out.res.frozen; clear ho9 a9)
      rw [HOo.out] at I9
      rw [HT.out] at H9
      rw [HAJ.out]
      refine bodyPost_ret (v := PC.v ⟨r0, ⟨r1, r2, r3⟩, ⟨r4, r5, r6⟩⟩) ?_ rfl (I9.out.finJ H9.out (right_one _) (by have h1 := M6.out; have h2 := HL6.out.1; have h3 := blI_ge s (p6 + 1); have h4 := L8.out.2; omega) L8.out.1 (aj_num2 F6.out HP6.out h45 rfl F8.out) _ _ _)
      simp [results, Tryz.results94]
      have B := blk_put3 I9.out.res ⟨r0, ⟨r1, r2, r3⟩, ⟨r4, r5, r6⟩⟩
      simp only at B
      generalize hW7 : World.setCell _ _ _ = W7 at B ⊢
      exact run_ptv B
    | false =>
      have kTq : ∀ W, AX s b w i6 wr6 (ou || decide (4294967295 < n6)) fu W → Calls Tryz.prog 63 #[.pointer (some ⟨b, 0, none⟩), .int .u8 45] W fun e w' => e = .returned (.bool false) ∧ AX s b w p6 wr6 (ou || decide (4294967295 < n6)) fu w' := fun W a => kT45 i6 p6 _ _ _ false W L6.out HP6.out h45 a
      have HT : Hid (Tree.mk 1 [(M, M)] [] = numT n6 n6) := by show _ = _; rw [HM.out]; rfl
      have HOo : Hid (((ou || decide (4294967295 < n6)) || decide (M < M)) = (ou || oneO n6 n6)) := by show _ = _; rw [HM.out]; exact oneO_eq1 ou n6
      clear kT45 kU
      go_wp2_with (first
        | (go_at_call 63; (with_reducible refine (kTq _ I6.out).mono ?_); rintro _ w7 ⟨rfl, a2⟩; have I7 : Hid (AX s b w p6 wr6 (ou || decide (4294967295 < n6)) fu w7) := a2; clear a2)
        | (go_at_call 116; refine (kO _ M M _ _ _ _ I7.out).mono ?_; rintro _ w9 ⟨⟨r0, ⟨r1, r2, r3⟩, r4, r5, r6⟩, rfl, ho9, a9⟩; have I9 : Hid (AX s b w p6 wr6 ((ou || decide (4294967295 < n6)) || decide (M < M)) fu w9) := a9; have H9 : Hid (HO (fun g => w.heap.size + 1 ≤ g ∧ g < w9.heap.size) w9 (.mk 1 [(M, M)] []) ⟨r0, ⟨r1, r2, r3⟩, r4, r5, r6⟩) := ho9; obtain ⟨y0, y1, y2⟩ := BlkT.cs I9.out.res; have z0 := I9.out.res.frozen; clear ho9 a9))
      rw [HOo.out] at I9
      rw [HT.out] at H9
      rw [HAJ.out]
      refine bodyPost_ret (v := PC.v ⟨r0, ⟨r1, r2, r3⟩, ⟨r4, r5, r6⟩⟩) ?_ rfl (I9.out.finJ H9.out (right_one _) (by have h1 := M6.out; have h2 := HL6.out.1; omega) HL6.out.2 (aj_num1 F6.out HP6.out h45) _ _ _)
      simp [results, Tryz.results94]
      have B := blk_put3 I9.out.res ⟨r0, ⟨r1, r2, r3⟩, ⟨r4, r5, r6⟩⟩
      simp only at B
      generalize hW7 : World.setCell _ _ _ = W7 at B ⊢
      exact run_ptv B


/-- What is left to be read behind an atom, between the signs. -/
def SignJ (s : ByteArray) (wr0 ou0 fu0 : Bool) (M : Option Rd) (t : Tree) (i : Nat) (wr ou fu : Bool) : Prop :=
  (wr0 = true → wr = true) ∧ (wr0 = false → (M = none ∧ wr = true) ∨ (wr = false ∧ ∃ o f q, ou = (ou0 || o) ∧ fu = (fu0 || f) ∧ (s.data.toList.drop i).length < q ∧ M = jsignsM q (s.data.toList.drop i) t o f))
theorem SignJ.start {s : ByteArray} {pat : Bs → Option Rd} {r : Bs} {t : Tree} {i : Nat} {wr0 ou0 fu0 wr ou fu : Bool} (h : Does s wr0 ou0 fu0 (jatomM pat r) t i wr ou fu) : SignJ s wr0 ou0 fu0 (jitemM pat r) t i wr ou fu := by
  refine ⟨h.1, fun hw => ?_⟩
  rcases h.2 hw with ⟨h1, h2⟩ | ⟨x, h1, h2, h3, h4, h5, h6⟩
  · left; unfold jitemM; rw [h1]; exact ⟨rfl, h2⟩
  · right
    refine ⟨h2, x.o, x.f, x.r.length + 1, h5, h6, by rw [h4]; omega, ?_⟩
    unfold jitemM
    rw [h1, h3, h4]
theorem SignJ.fin {s : ByteArray} {M : Option Rd} {t : Tree} {i p : Nat} {wr0 ou0 fu0 wr ou fu : Bool} (h : SignJ s wr0 ou0 fu0 M t i wr ou fu) (hp : blI s i = p) (h1 : headIs 42 (s.data.toList.drop p) = false) (h2 : headIs 43 (s.data.toList.drop p) = false) (h3 : headIs 63 (s.data.toList.drop p) = false) (h4 : headIs 123 (s.data.toList.drop p) = false) : Does s wr0 ou0 fu0 M t p wr ou fu := by
  refine ⟨h.1, fun hw => ?_⟩
  rcases h.2 hw with h5 | ⟨h5, o, f, q, h6, h7, h8, h9⟩
  · exact Or.inl h5
  · right
    obtain ⟨q', rfl⟩ : ∃ q', q = q' + 1 := ⟨q - 1, by omega⟩
    have hn : noSignJ (s.data.toList.drop i) := by
      unfold noSignJ
      rw [← blI_drop, hp]
      exact ⟨headIs_false h1, headIs_false h2, headIs_false h3, headIs_false h4⟩
    rw [jsigns_stop hn, ← blI_drop, hp] at h9
    exact ⟨_, h9, h5, rfl, rfl, h6, h7⟩
theorem SignJ.step {s : ByteArray} {M : Option Rd} {t t' : Tree} {i p : Nat} {wr0 ou0 fu0 wr ou fu g : Bool} {c : UInt8} (hF : ∀ q r r' o f, dropBl r = c :: r' → jsignsM (q + 1) r t o f = jsignsM q r' t' o (f || g)) (h : SignJ s wr0 ou0 fu0 M t i wr ou fu) (hp : blI s i = p) (h1 : headIs c (s.data.toList.drop p) = true) : SignJ s wr0 ou0 fu0 M t' (p + 1) wr ou (fu || g) := by
  refine ⟨h.1, fun hw => ?_⟩
  rcases h.2 hw with h4 | ⟨h4, o, f, q, h5, h6, h7, h8⟩
  · exact Or.inl h4
  · right
    obtain ⟨q', rfl⟩ : ∃ q', q = q' + 1 := ⟨q - 1, by omega⟩
    have hd : dropBl (s.data.toList.drop i) = c :: s.data.toList.drop (p + 1) := by rw [← blI_drop, hp]; exact (headIs_drop h1).1
    rw [hF q' _ _ o f hd] at h8
    have h9 := dropBl_le (s.data.toList.drop i)
    rw [hd] at h9
    exact ⟨h4, o, f || g, q', h5, by rw [h6, Bool.or_assoc], by simp only [List.length_cons] at h9; omega, h8⟩
theorem sj_42 (t : Tree) (q : Nat) (r r' : Bs) (o f : Bool) (h : dropBl r = 42 :: r') : jsignsM (q + 1) r t o f = jsignsM q r' (keptM (stT t)).1 o (f || (keptM (stT t)).2) := by rw [jsignsM, h]; simp only [if_true]
theorem sj_43 (t : Tree) (q : Nat) (r r' : Bs) (o f : Bool) (h : dropBl r = 43 :: r') : jsignsM (q + 1) r t o f = jsignsM q r' (keptM (plusT t)).1 o (f || (keptM (plusT t)).2) := by rw [jsignsM, h]; simp only; rw [if_neg (by decide), if_pos trivial]
theorem sj_63 (t : Tree) (q : Nat) (r r' : Bs) (o f : Bool) (h : dropBl r = 63 :: r') : jsignsM (q + 1) r t o f = jsignsM q r' (keptM (optT t)).1 o (f || (keptM (optT t)).2) := by rw [jsignsM, h]; simp only; rw [if_neg (by decide), if_neg (by decide), if_pos trivial]
theorem sj_123 {s : ByteArray} {M : Option Rd} {t : Tree} {i p i' : Nat} {m n : Int} {wr0 ou0 fu0 wr ou fu wr' ou' : Bool} (h : SignJ s wr0 ou0 fu0 M t i wr ou fu) (hp : blI s i = p) (h1 : headIs 123 (s.data.toList.drop p) = true) (hc : CntD s (p + 1) wr ou m n i' wr' ou') : SignJ s wr0 ou0 fu0 M (timesK t m n).1 i' wr' ou' (fu || (timesK t m n).2) := by
  refine ⟨fun hw => hc.1 (h.1 hw), fun hw => ?_⟩
  rcases h.2 hw with ⟨h4, h5⟩ | ⟨h4, o, f, q, h5, h6, h7, h8⟩
  · exact Or.inl ⟨h4, hc.1 h5⟩
  · obtain ⟨q', rfl⟩ : ∃ q', q = q' + 1 := ⟨q - 1, by omega⟩
    have hd : dropBl (s.data.toList.drop i) = 123 :: s.data.toList.drop (p + 1) := by rw [← blI_drop, hp]; exact (headIs_drop h1).1
    rw [jsignsM, hd] at h8
    simp only at h8
    rw [if_neg (by decide), if_neg (by decide), if_neg (by decide), if_pos trivial] at h8
    have h9 := dropBl_le (s.data.toList.drop i)
    rw [hd] at h9
    simp only [List.length_cons] at h9
    rcases hc.2 h4 with ⟨c1, c2⟩ | ⟨o2, r, c1, c2, c3, c4⟩
    · left
      rw [c1] at h8
      exact ⟨h8, c2⟩
    · right
      rw [c1] at h8
      have h10 := counts_less c1
      simp only at h10
      exact ⟨c2, o || o2, f || (timesK t m n).2, q', by rw [c4, h5, Bool.or_assoc], by rw [h6, Bool.or_assoc], by rw [c3]; omega, by rw [c3]; exact h8⟩

theorem IX.drew {s : ByteArray} {b : Nat} {w : World} {b3 i : Nat} {wr ou fu : Bool} {t : Tree} {x : PC} {W : World} (h : IX s b w b3 i wr ou fu t x W) (n : Nat) : IX s b w b3 i wr ou fu t x (W.drewN n) := h.go (.of_bel (below_drewN (Below.refl _ _) n)) (h.ax.rd.drewN n) h.le

set_option maxRecDepth 100000 in
set_option maxHeartbeats 8000000 in
theorem jitem_any {s : ByteArray} {b n : Nat} {pat : Bs → Option Rd} (hs : s.size ≤ 3000) (ka : CJ s b 94 (jatomM pat) n) : CJ s b 79 (jitemM pat) n := by
  intro i wr ou fu w hi hlim hp hbeg hb
  have HA := AX.start hb
  have HS : Hid (s.size ≤ 3000) := hs
  have HKA := ka i wr ou fu _ hi hlim hp hbeg HA.rd
  have kT : ∀ (c : UInt8) (b3 j p : Nat) (wr' ou' fu' q : Bool) (t : Tree) (x : PC) (W : World), blI s j = p → headIs c (s.data.toList.drop p) = q → IX s b w b3 j wr' ou' fu' t x W → Calls Tryz.prog 63 #[.pointer (some ⟨b, 0, none⟩), .int .u8 c.toNat] W fun e w' => e = .returned (.bool q) ∧ IX s b w b3 (if q = true then p + 1 else p) wr' ou' fu' t x w' := fun c b3 j p wr' ou' fu' q t x W hp h a => (jtook_any hs a.le hp a.ax.rd).mono fun _ _ h' => by
    have h2 := tkI_le (c := c) (hp ▸ blI_le a.le : p ≤ s.size)
    unfold tkI at h' h2; rw [h] at h' h2
    exact ⟨h'.1, a.go h'.2.1 h'.2.2 h2.2⟩
  generalize hW : w.alloc (.cells #[.int .i64 0, .slice none 0 0, .slice none 0 0] 26) = W0 at HA HKA
  have HI : Hid (AX s b w i wr ou fu W0) := HA
  clear hb HA hi hs ka hlim hp hbeg
  go_enter Tryz.func79, Tryz.ntmps79
  go_upto_region 1 with fail
  clear hW
  go_wp2_with (go_at_call 94; refine HKA.mono ?_; rintro _ w4 ⟨⟨r0, ⟨r1, r2, r3⟩, r4, r5, r6⟩, t4, i4, wr4, ou4, fu4, rfl, ho4, hk4, ex4, b4, le4, le5, d4⟩; have I4 : Hid (IX s b w w4.heap.size i4 wr4 ou4 fu4 t4 ⟨r0, ⟨r1, r2, r3⟩, r4, r5, r6⟩ (w4.alloc (.cells #[.int .i64 r0, .slice r1 r2 r3, .slice r4 r5 r6] 26))) := IX.start (HI.out.go ex4 b4) (ho4.low (by have := HI.out.res.lt; omega)) hk4 le5; have D4 : Hid (SignJ s wr ou fu (jitemM pat (s.data.toList.drop i)) t4 i4 wr4 ou4 fu4) := SignJ.start d4; have L4 : Hid (i + 1 ≤ i4) := le4; clear ho4 hk4 ex4 b4 le4 le5 d4)
  generalize w4.heap.size = b3 at I4 ⊢
  go_loopw [8] (fun _ wr0 => ∃ (i5 : Nat) (wr5 ou5 fu5 : Bool) (t5 : Tree) (x5 : PC), Hid (IX s b w b3 i5 wr5 ou5 fu5 t5 x5 wr0) ∧ Hid (SignJ s wr ou fu (jitemM pat (s.data.toList.drop i)) t5 i5 wr5 ou5 fu5) ∧ Hid (i + 1 ≤ i5)) (fun _ wr0 => s.size - posOf b wr0)
  case atStart => exact ⟨i4, wr4, ou4, fu4, t4, _, I4, D4, L4⟩
  case round =>
    clear I4 D4 L4 HKA HI
    obtain ⟨i5, wr5, ou5, fu5, t5, ⟨q0, ⟨q1, q2, q3⟩, q4, q5, q6⟩, I5, D5, L5⟩ := hrel
    have HP : Hid (posOf b _ = i5) := posOf_blk I5.out.ax.rd
    obtain ⟨p, hp⟩ : ∃ p, blI s i5 = p := ⟨_, rfl⟩
    have HPp : Hid (blI s i5 = p) := hp
    have HPi : Hid (blI s p = p) := by show _ = _; rw [← hp]; exact blI_idem I5.out.le
    have HLp : Hid (i5 ≤ p ∧ p ≤ s.size) := by rw [← hp]; exact ⟨blI_ge _ _, blI_le I5.out.le⟩
    clear hp
    cases h42 : headIs 42 (s.data.toList.drop p) with
    | true =>
      have k42 : ∀ W, IX s b w b3 i5 wr5 ou5 fu5 t5 ⟨q0, ⟨q1, q2, q3⟩, q4, q5, q6⟩ W → Calls Tryz.prog 63 #[.pointer (some ⟨b, 0, none⟩), .int .u8 42] W fun e w' => e = .returned (.bool true) ∧ IX s b w b3 (p + 1) wr5 ou5 fu5 t5 ⟨q0, ⟨q1, q2, q3⟩, q4, q5, q6⟩ w' := fun W a => kT 42 _ _ _ _ _ _ true _ _ W HPp.out h42 a
      clear kT
      go_wp2_with (first
        | (go_at_call 63; (with_reducible refine (k42 _ I5.out).mono ?_); rintro _ w7 ⟨rfl, a2⟩; have I7 : Hid (IX s b w b3 (p + 1) wr5 ou5 fu5 t5 ⟨q0, ⟨q1, q2, q3⟩, q4, q5, q6⟩ w7) := a2; obtain ⟨m0, m1, m2⟩ := BlkT.cs I7.out.me; simp only at m0 m1 m2; have mf := I7.out.me.frozen; have ml := I7.out.me.lt; clear a2))
      go_region_law
        (first
          | (go_simp; go_at_call 47; refine (starR_P (P := fun g => w.heap.size + 1 ≤ g ∧ g < (w7.drewN 1).heap.size ∧ g ≠ b3) (I7.out.drew 1).ax.rd I7.out.rt (fun g hg => hg.2.1) (I7.out.drew 1).ho).mono ?_; rintro _ w9 ⟨⟨p0, ⟨p1, p2, p3⟩, p4, p5, p6⟩, rfl, ho9, ex9, sz9, b9⟩; have S9 : Hid (IX s b w b3 (p + 1) wr5 ou5 (fu5 || (keptM (stT t5)).2) (keptM (stT t5)).1 ⟨p0, ⟨p1, p2, p3⟩, p4, p5, p6⟩ (((w9.setCell ⟨b3, 0, none⟩ (.int .i64 p0)).setCell ⟨b3, 1, none⟩ (.slice p1 p2 p3)).setCell ⟨b3, 2, none⟩ (.slice p4 p5 p6))) := (I7.out.drew 1).step ex9 b9 (ho9.imp' (by intro g hg; have h2 := (I7.out.drew 1).me.lt; have h3 := I7.out.hb3; have h4 := ex9.size; rcases hg with hg | hg <;> omega)) (right_kept _); have M9 : Hid (Blk w9 b3 (encT ⟨q0, ⟨q1, q2, q3⟩, q4, q5, q6⟩).toArray 26) := Blk.ex ex9 (I7.out.drew 1).me (by have := I7.out.ax.lt; have := I7.out.hb3; omega); obtain ⟨n0, n1, n2⟩ := BlkT.cs M9.out; have nf := M9.out.frozen; clear ho9 ex9 sz9 b9))
      all_goals
        have S9' := S9.out
        generalize hW10 : World.setCell _ _ _ = W10 at S9' ⊢
        have S10 : Hid (IX s b w b3 (p + 1) wr5 ou5 (fu5 || (keptM (stT t5)).2) (keptM (stT t5)).1 ⟨p0, ⟨p1, p2, p3⟩, p4, p5, p6⟩ W10) := S9'
        clear hW10 S9 S9'
        go_wp2_with fail
        go_roundw
        case rel => exact ⟨p + 1, wr5, ou5, _, _, _, S10, SignJ.step (c := 42) (sj_42 t5) D5.out HPp.out h42, by have h1 := L5.out; have h2 := HLp.out.1; exact (by omega : i + 1 ≤ p + 1)⟩
        case measure => rw [posOf_blk S10.out.ax.rd, HP.out]; have h1 := (headIs_drop h42).2; have h2 := HLp.out.1; omega
    | false =>
    cases h43 : headIs 43 (s.data.toList.drop p) with
    | true =>
      have k42 : ∀ W, IX s b w b3 i5 wr5 ou5 fu5 t5 ⟨q0, ⟨q1, q2, q3⟩, q4, q5, q6⟩ W → Calls Tryz.prog 63 #[.pointer (some ⟨b, 0, none⟩), .int .u8 42] W fun e w' => e = .returned (.bool false) ∧ IX s b w b3 p wr5 ou5 fu5 t5 ⟨q0, ⟨q1, q2, q3⟩, q4, q5, q6⟩ w' := fun W a => kT 42 _ _ _ _ _ _ false _ _ W HPp.out h42 a
      have k43 : ∀ W, IX s b w b3 p wr5 ou5 fu5 t5 ⟨q0, ⟨q1, q2, q3⟩, q4, q5, q6⟩ W → Calls Tryz.prog 63 #[.pointer (some ⟨b, 0, none⟩), .int .u8 43] W fun e w' => e = .returned (.bool true) ∧ IX s b w b3 (p + 1) wr5 ou5 fu5 t5 ⟨q0, ⟨q1, q2, q3⟩, q4, q5, q6⟩ w' := fun W a => kT 43 _ _ _ _ _ _ true _ _ W HPi.out h43 a
      clear kT
      go_wp2_with (first
        | (go_at_call 63; (with_reducible refine (k42 _ I5.out).mono ?_); rintro _ w42 ⟨rfl, a2⟩; have N42 : Hid (IX s b w b3 p wr5 ou5 fu5 t5 ⟨q0, ⟨q1, q2, q3⟩, q4, q5, q6⟩ w42) := a2; obtain ⟨m0, m1, m2⟩ := BlkT.cs N42.out.me; clear a2)
        | (go_at_call 63; (with_reducible refine (k43 _ N42.out).mono ?_); rintro _ w7 ⟨rfl, a2⟩; have I7 : Hid (IX s b w b3 (p + 1) wr5 ou5 fu5 t5 ⟨q0, ⟨q1, q2, q3⟩, q4, q5, q6⟩ w7) := a2; obtain ⟨m0, m1, m2⟩ := BlkT.cs I7.out.me; simp only at m0 m1 m2; have mf := I7.out.me.frozen; have ml := I7.out.me.lt; clear a2))
      go_region_law
        (first
          | (go_simp; go_at_call 95; refine (timesR_P (m := 1) (n := -1) (I7.out.drew 1).ax.rd I7.out.rt (by omega) (by omega) (I7.out.drew 1).held).mono ?_; rintro _ w9 ⟨⟨p0, ⟨p1, p2, p3⟩, p4, p5, p6⟩, rfl, ho9, ex9, b9⟩; rw [times_plus I7.out.rt] at ho9 b9; have S9 : Hid (IX s b w b3 (p + 1) wr5 ou5 (fu5 || (keptM (plusT t5)).2) (keptM (plusT t5)).1 ⟨p0, ⟨p1, p2, p3⟩, p4, p5, p6⟩ (((w9.setCell ⟨b3, 0, none⟩ (.int .i64 p0)).setCell ⟨b3, 1, none⟩ (.slice p1 p2 p3)).setCell ⟨b3, 2, none⟩ (.slice p4 p5 p6))) := (I7.out.drew 1).step ex9 b9 (ho9.imp' (by intro g hg; have h2 := (I7.out.drew 1).me.lt; have h3 := I7.out.hb3; omega)) (right_kept _); have M9 : Hid (Blk w9 b3 (encT ⟨q0, ⟨q1, q2, q3⟩, q4, q5, q6⟩).toArray 26) := Blk.ex ex9 (I7.out.drew 1).me (by have := I7.out.ax.lt; have := I7.out.hb3; omega); obtain ⟨n0, n1, n2⟩ := BlkT.cs M9.out; have nf := M9.out.frozen; clear ho9 ex9 b9))
      all_goals
        have S9' := S9.out
        generalize hW10 : World.setCell _ _ _ = W10 at S9' ⊢
        have S10 : Hid (IX s b w b3 (p + 1) wr5 ou5 (fu5 || (keptM (plusT t5)).2) (keptM (plusT t5)).1 ⟨p0, ⟨p1, p2, p3⟩, p4, p5, p6⟩ W10) := S9'
        clear hW10 S9 S9'
        go_wp2_with fail
        go_roundw
        case rel => exact ⟨p + 1, wr5, ou5, _, _, _, S10, SignJ.step (c := 43) (sj_43 t5) D5.out HPp.out h43, by have h1 := L5.out; have h2 := HLp.out.1; exact (by omega : i + 1 ≤ p + 1)⟩
        case measure => rw [posOf_blk S10.out.ax.rd, HP.out]; have h1 := (headIs_drop h43).2; have h2 := HLp.out.1; omega
    | false =>
    cases h63 : headIs 63 (s.data.toList.drop p) with
    | true =>
      have k42 : ∀ W, IX s b w b3 i5 wr5 ou5 fu5 t5 ⟨q0, ⟨q1, q2, q3⟩, q4, q5, q6⟩ W → Calls Tryz.prog 63 #[.pointer (some ⟨b, 0, none⟩), .int .u8 42] W fun e w' => e = .returned (.bool false) ∧ IX s b w b3 p wr5 ou5 fu5 t5 ⟨q0, ⟨q1, q2, q3⟩, q4, q5, q6⟩ w' := fun W a => kT 42 _ _ _ _ _ _ false _ _ W HPp.out h42 a
      have k43 : ∀ W, IX s b w b3 p wr5 ou5 fu5 t5 ⟨q0, ⟨q1, q2, q3⟩, q4, q5, q6⟩ W → Calls Tryz.prog 63 #[.pointer (some ⟨b, 0, none⟩), .int .u8 43] W fun e w' => e = .returned (.bool false) ∧ IX s b w b3 p wr5 ou5 fu5 t5 ⟨q0, ⟨q1, q2, q3⟩, q4, q5, q6⟩ w' := fun W a => kT 43 _ _ _ _ _ _ false _ _ W HPi.out h43 a
      have k63 : ∀ W, IX s b w b3 p wr5 ou5 fu5 t5 ⟨q0, ⟨q1, q2, q3⟩, q4, q5, q6⟩ W → Calls Tryz.prog 63 #[.pointer (some ⟨b, 0, none⟩), .int .u8 63] W fun e w' => e = .returned (.bool true) ∧ IX s b w b3 (p + 1) wr5 ou5 fu5 t5 ⟨q0, ⟨q1, q2, q3⟩, q4, q5, q6⟩ w' := fun W a => kT 63 _ _ _ _ _ _ true _ _ W HPi.out h63 a
      clear kT
      go_wp2_with (first
        | (go_at_call 63; (with_reducible refine (k42 _ I5.out).mono ?_); rintro _ w42 ⟨rfl, a2⟩; have N42 : Hid (IX s b w b3 p wr5 ou5 fu5 t5 ⟨q0, ⟨q1, q2, q3⟩, q4, q5, q6⟩ w42) := a2; obtain ⟨m0, m1, m2⟩ := BlkT.cs N42.out.me; clear a2)
        | (go_at_call 63; (with_reducible refine (k43 _ N42.out).mono ?_); rintro _ w43 ⟨rfl, a2⟩; have N43 : Hid (IX s b w b3 p wr5 ou5 fu5 t5 ⟨q0, ⟨q1, q2, q3⟩, q4, q5, q6⟩ w43) := a2; obtain ⟨m0, m1, m2⟩ := BlkT.cs N43.out.me; clear a2)
        | (go_at_call 63; (with_reducible refine (k63 _ N43.out).mono ?_); rintro _ w7 ⟨rfl, a2⟩; have I7 : Hid (IX s b w b3 (p + 1) wr5 ou5 fu5 t5 ⟨q0, ⟨q1, q2, q3⟩, q4, q5, q6⟩ w7) := a2; obtain ⟨m0, m1, m2⟩ := BlkT.cs I7.out.me; simp only at m0 m1 m2; have mf := I7.out.me.frozen; have ml := I7.out.me.lt; clear a2))
      go_region_law
        (first
          | (go_simp; go_at_call 96; refine (maybeR_P (P := fun g => w.heap.size + 1 ≤ g ∧ g < (w7.drewN 1).heap.size ∧ g ≠ b3) (I7.out.drew 1).ax.rd I7.out.rt (fun g hg => hg.2.1) (I7.out.drew 1).ho).mono ?_; rintro _ w9 ⟨⟨p0, ⟨p1, p2, p3⟩, p4, p5, p6⟩, rfl, ho9, ex9, sz9, b9⟩; have S9 : Hid (IX s b w b3 (p + 1) wr5 ou5 (fu5 || (keptM (optT t5)).2) (keptM (optT t5)).1 ⟨p0, ⟨p1, p2, p3⟩, p4, p5, p6⟩ (((w9.setCell ⟨b3, 0, none⟩ (.int .i64 p0)).setCell ⟨b3, 1, none⟩ (.slice p1 p2 p3)).setCell ⟨b3, 2, none⟩ (.slice p4 p5 p6))) := (I7.out.drew 1).step ex9 b9 (ho9.imp' (by intro g hg; have h2 := (I7.out.drew 1).me.lt; have h3 := I7.out.hb3; have h4 := ex9.size; rcases hg with hg | hg <;> omega)) (right_kept _); have M9 : Hid (Blk w9 b3 (encT ⟨q0, ⟨q1, q2, q3⟩, q4, q5, q6⟩).toArray 26) := Blk.ex ex9 (I7.out.drew 1).me (by have := I7.out.ax.lt; have := I7.out.hb3; omega); obtain ⟨n0, n1, n2⟩ := BlkT.cs M9.out; have nf := M9.out.frozen; clear ho9 ex9 sz9 b9))
      all_goals
        have S9' := S9.out
        generalize hW10 : World.setCell _ _ _ = W10 at S9' ⊢
        have S10 : Hid (IX s b w b3 (p + 1) wr5 ou5 (fu5 || (keptM (optT t5)).2) (keptM (optT t5)).1 ⟨p0, ⟨p1, p2, p3⟩, p4, p5, p6⟩ W10) := S9'
        clear hW10 S9 S9'
        go_wp2_with fail
        go_roundw
        case rel => exact ⟨p + 1, wr5, ou5, _, _, _, S10, SignJ.step (c := 63) (sj_63 t5) D5.out HPp.out h63, by have h1 := L5.out; have h2 := HLp.out.1; exact (by omega : i + 1 ≤ p + 1)⟩
        case measure => rw [posOf_blk S10.out.ax.rd, HP.out]; have h1 := (headIs_drop h63).2; have h2 := HLp.out.1; omega
    | false =>
    cases h123 : headIs 123 (s.data.toList.drop p) with
    | true =>
      have k42 : ∀ W, IX s b w b3 i5 wr5 ou5 fu5 t5 ⟨q0, ⟨q1, q2, q3⟩, q4, q5, q6⟩ W → Calls Tryz.prog 63 #[.pointer (some ⟨b, 0, none⟩), .int .u8 42] W fun e w' => e = .returned (.bool false) ∧ IX s b w b3 p wr5 ou5 fu5 t5 ⟨q0, ⟨q1, q2, q3⟩, q4, q5, q6⟩ w' := fun W a => kT 42 _ _ _ _ _ _ false _ _ W HPp.out h42 a
      have k43 : ∀ W, IX s b w b3 p wr5 ou5 fu5 t5 ⟨q0, ⟨q1, q2, q3⟩, q4, q5, q6⟩ W → Calls Tryz.prog 63 #[.pointer (some ⟨b, 0, none⟩), .int .u8 43] W fun e w' => e = .returned (.bool false) ∧ IX s b w b3 p wr5 ou5 fu5 t5 ⟨q0, ⟨q1, q2, q3⟩, q4, q5, q6⟩ w' := fun W a => kT 43 _ _ _ _ _ _ false _ _ W HPi.out h43 a
      have k63 : ∀ W, IX s b w b3 p wr5 ou5 fu5 t5 ⟨q0, ⟨q1, q2, q3⟩, q4, q5, q6⟩ W → Calls Tryz.prog 63 #[.pointer (some ⟨b, 0, none⟩), .int .u8 63] W fun e w' => e = .returned (.bool false) ∧ IX s b w b3 p wr5 ou5 fu5 t5 ⟨q0, ⟨q1, q2, q3⟩, q4, q5, q6⟩ w' := fun W a => kT 63 _ _ _ _ _ _ false _ _ W HPi.out h63 a
      have k123 : ∀ W, IX s b w b3 p wr5 ou5 fu5 t5 ⟨q0, ⟨q1, q2, q3⟩, q4, q5, q6⟩ W → Calls Tryz.prog 63 #[.pointer (some ⟨b, 0, none⟩), .int .u8 123] W fun e w' => e = .returned (.bool true) ∧ IX s b w b3 (p + 1) wr5 ou5 fu5 t5 ⟨q0, ⟨q1, q2, q3⟩, q4, q5, q6⟩ w' := fun W a => kT 123 _ _ _ _ _ _ true _ _ W HPi.out h123 a
      clear kT
      go_wp2_with (first
        | (go_at_call 63; (with_reducible refine (k42 _ I5.out).mono ?_); rintro _ w42 ⟨rfl, a2⟩; have N42 : Hid (IX s b w b3 p wr5 ou5 fu5 t5 ⟨q0, ⟨q1, q2, q3⟩, q4, q5, q6⟩ w42) := a2; obtain ⟨m0, m1, m2⟩ := BlkT.cs N42.out.me; clear a2)
        | (go_at_call 63; (with_reducible refine (k43 _ N42.out).mono ?_); rintro _ w43 ⟨rfl, a2⟩; have N43 : Hid (IX s b w b3 p wr5 ou5 fu5 t5 ⟨q0, ⟨q1, q2, q3⟩, q4, q5, q6⟩ w43) := a2; obtain ⟨m0, m1, m2⟩ := BlkT.cs N43.out.me; clear a2)
        | (go_at_call 63; (with_reducible refine (k63 _ N43.out).mono ?_); rintro _ w63 ⟨rfl, a2⟩; have N63 : Hid (IX s b w b3 p wr5 ou5 fu5 t5 ⟨q0, ⟨q1, q2, q3⟩, q4, q5, q6⟩ w63) := a2; obtain ⟨m0, m1, m2⟩ := BlkT.cs N63.out.me; clear a2)
        | (go_at_call 63; (with_reducible refine (k123 _ N63.out).mono ?_); rintro _ w7 ⟨rfl, a2⟩; have I7 : Hid (IX s b w b3 (p + 1) wr5 ou5 fu5 t5 ⟨q0, ⟨q1, q2, q3⟩, q4, q5, q6⟩ w7) := a2; obtain ⟨m0, m1, m2⟩ := BlkT.cs I7.out.me; simp only at m0 m1 m2; have mf := I7.out.me.frozen; have ml := I7.out.me.lt; clear a2)
        | (go_at_call 97; refine (counts_any HS.out I7.out.le I7.out.ax.rd).mono ?_; rintro _ w8 ⟨m8, n8, i8, wr8, ou8, rfl, ex8, b8, le8, lf8, bm8, bn8, c8⟩; have I8 : Hid (IX s b w b3 i8 wr8 ou8 fu5 t5 ⟨q0, ⟨q1, q2, q3⟩, q4, q5, q6⟩ w8) := I7.out.go ex8 b8 lf8; have L8 : Hid (p + 1 ≤ i8) := le8; have BM8 : Hid (0 ≤ m8 ∧ m8 ≤ 4294967295) := bm8; have BN8 : Hid (-1 ≤ n8 ∧ n8 ≤ 4294967295) := bn8; have C8 : Hid (CntD s (p + 1) wr5 ou5 m8 n8 i8 wr8 ou8) := c8; obtain ⟨m0, m1, m2⟩ := BlkT.cs I8.out.me; simp only at m0 m1 m2; have mf := I8.out.me.frozen; have ml := I8.out.me.lt; clear ex8 b8 le8 lf8 bm8 bn8 c8))
      go_region_law
        (first
          | (go_simp; go_at_call 95; refine (timesR_P (m := m8) (n := n8) (I8.out.drew 1).ax.rd I8.out.rt (by have := BM8.out; omega) (by have := BN8.out; omega) (I8.out.drew 1).held).mono ?_; rintro _ w9 ⟨⟨p0, ⟨p1, p2, p3⟩, p4, p5, p6⟩, rfl, ho9, ex9, b9⟩; have S9 : Hid (IX s b w b3 i8 wr8 ou8 (fu5 || (timesK t5 m8 n8).2) (timesK t5 m8 n8).1 ⟨p0, ⟨p1, p2, p3⟩, p4, p5, p6⟩ (((w9.setCell ⟨b3, 0, none⟩ (.int .i64 p0)).setCell ⟨b3, 1, none⟩ (.slice p1 p2 p3)).setCell ⟨b3, 2, none⟩ (.slice p4 p5 p6))) := (I8.out.drew 1).step ex9 b9 (ho9.imp' (by intro g hg; have h2 := (I8.out.drew 1).me.lt; have h3 := I8.out.hb3; omega)) (times_right _ _ _); have M9 : Hid (Blk w9 b3 (encT ⟨q0, ⟨q1, q2, q3⟩, q4, q5, q6⟩).toArray 26) := Blk.ex ex9 (I8.out.drew 1).me (by have := I8.out.ax.lt; have := I8.out.hb3; omega); obtain ⟨n0, n1, n2⟩ := BlkT.cs M9.out; have nf := M9.out.frozen; clear ho9 ex9 b9))
      all_goals
        have S9' := S9.out
        generalize hW10 : World.setCell _ _ _ = W10 at S9' ⊢
        have S10 : Hid (IX s b w b3 i8 wr8 ou8 (fu5 || (timesK t5 m8 n8).2) (timesK t5 m8 n8).1 ⟨p0, ⟨p1, p2, p3⟩, p4, p5, p6⟩ W10) := S9'
        clear hW10 S9 S9'
        go_wp2_with fail
        go_roundw
        case rel => exact ⟨i8, wr8, ou8, _, _, _, S10, sj_123 D5.out HPp.out h123 C8.out, by have h1 := L5.out; have h2 := HLp.out.1; have h3 := L8.out; exact (by omega : i + 1 ≤ i8)⟩
        case measure => rw [posOf_blk S10.out.ax.rd, HP.out]; have h1 := (headIs_drop h123).2; have h2 := HLp.out.1; have h3 := L8.out; omega
    | false =>
      have k42 : ∀ W, IX s b w b3 i5 wr5 ou5 fu5 t5 ⟨q0, ⟨q1, q2, q3⟩, q4, q5, q6⟩ W → Calls Tryz.prog 63 #[.pointer (some ⟨b, 0, none⟩), .int .u8 42] W fun e w' => e = .returned (.bool false) ∧ IX s b w b3 p wr5 ou5 fu5 t5 ⟨q0, ⟨q1, q2, q3⟩, q4, q5, q6⟩ w' := fun W a => kT 42 _ _ _ _ _ _ false _ _ W HPp.out h42 a
      have k43 : ∀ W, IX s b w b3 p wr5 ou5 fu5 t5 ⟨q0, ⟨q1, q2, q3⟩, q4, q5, q6⟩ W → Calls Tryz.prog 63 #[.pointer (some ⟨b, 0, none⟩), .int .u8 43] W fun e w' => e = .returned (.bool false) ∧ IX s b w b3 p wr5 ou5 fu5 t5 ⟨q0, ⟨q1, q2, q3⟩, q4, q5, q6⟩ w' := fun W a => kT 43 _ _ _ _ _ _ false _ _ W HPi.out h43 a
      have k63 : ∀ W, IX s b w b3 p wr5 ou5 fu5 t5 ⟨q0, ⟨q1, q2, q3⟩, q4, q5, q6⟩ W → Calls Tryz.prog 63 #[.pointer (some ⟨b, 0, none⟩), .int .u8 63] W fun e w' => e = .returned (.bool false) ∧ IX s b w b3 p wr5 ou5 fu5 t5 ⟨q0, ⟨q1, q2, q3⟩, q4, q5, q6⟩ w' := fun W a => kT 63 _ _ _ _ _ _ false _ _ W HPi.out h63 a
      have k123 : ∀ W, IX s b w b3 p wr5 ou5 fu5 t5 ⟨q0, ⟨q1, q2, q3⟩, q4, q5, q6⟩ W → Calls Tryz.prog 63 #[.pointer (some ⟨b, 0, none⟩), .int .u8 123] W fun e w' => e = .returned (.bool false) ∧ IX s b w b3 p wr5 ou5 fu5 t5 ⟨q0, ⟨q1, q2, q3⟩, q4, q5, q6⟩ w' := fun W a => kT 123 _ _ _ _ _ _ false _ _ W HPi.out h123 a
      clear kT
      go_wp2_with (first
        | (go_at_call 63; (with_reducible refine (k42 _ I5.out).mono ?_); rintro _ w42 ⟨rfl, a2⟩; have N42 : Hid (IX s b w b3 p wr5 ou5 fu5 t5 ⟨q0, ⟨q1, q2, q3⟩, q4, q5, q6⟩ w42) := a2; obtain ⟨m0, m1, m2⟩ := BlkT.cs N42.out.me; clear a2)
        | (go_at_call 63; (with_reducible refine (k43 _ N42.out).mono ?_); rintro _ w43 ⟨rfl, a2⟩; have N43 : Hid (IX s b w b3 p wr5 ou5 fu5 t5 ⟨q0, ⟨q1, q2, q3⟩, q4, q5, q6⟩ w43) := a2; obtain ⟨m0, m1, m2⟩ := BlkT.cs N43.out.me; clear a2)
        | (go_at_call 63; (with_reducible refine (k63 _ N43.out).mono ?_); rintro _ w63 ⟨rfl, a2⟩; have N63 : Hid (IX s b w b3 p wr5 ou5 fu5 t5 ⟨q0, ⟨q1, q2, q3⟩, q4, q5, q6⟩ w63) := a2; obtain ⟨m0, m1, m2⟩ := BlkT.cs N63.out.me; clear a2)
        | (go_at_call 63; (with_reducible refine (k123 _ N63.out).mono ?_); rintro _ w123 ⟨rfl, a2⟩; have N123 : Hid (IX s b w b3 p wr5 ou5 fu5 t5 ⟨q0, ⟨q1, q2, q3⟩, q4, q5, q6⟩ w123) := a2; obtain ⟨m0, m1, m2⟩ := BlkT.cs N123.out.me; obtain ⟨y0, y1, y2⟩ := BlkT.cs N123.out.ax.res; have z0 := N123.out.ax.res.frozen; simp only at m0 m1 m2; clear a2))
      refine bodyPost_ret (v := PC.v ⟨q0, ⟨q1, q2, q3⟩, ⟨q4, q5, q6⟩⟩) ?_ rfl (N123.out.ax.finJ (N123.out.ho.imp' (fun g hg => ⟨hg.1, hg.2.1⟩)) N123.out.rt (by have h1 := L5.out; have h2 := HLp.out.1; omega) N123.out.le (D5.out.fin HPp.out h42 h43 h63 h123) _ _ _)
      simp [results, Tryz.results79]
      have B := blk_put3 N123.out.ax.res ⟨q0, ⟨q1, q2, q3⟩, ⟨q4, q5, q6⟩⟩
      simp only at B
      generalize hW7 : World.setCell _ _ _ = W7 at B ⊢
      exact run_ptv B

end Go.Proofs.YtjjlkjfhhpogaaaGreatDoor
