/-
  The walk of the document's atom.
-/
import Derived.Test.YtnohkbdmnalmcaaGreatDoorZm
namespace Go.Proofs.YtnohkbdmnalmcaaGreatDoor
open Go.RowKit

set_option maxRecDepth 100000 in
set_option maxHeartbeats 8000000 in
theorem qatom_any {s : ByteArray} {b n : Nat} {alt : Bs → Option Rd} (hs : s.size ≤ 3000) (ka : CQ s b 29 true alt n) : CQ s b 84 false (atomM alt) (n + 1) := by
  intro i wr ou fu w hi hlim hb
  have HA := AQ.start hb
  have HS : Hid (s.size ≤ 3000) := hs
  have HIi : Hid (i ≤ s.size) := hi
  have HKA : Hid (CQ s b 29 true alt n) := ka
  have HLm : Hid (s.size - i < n + 1) := hlim
  have kN : ∀ (c : UInt8) (W : World), headIs c (s.data.toList.drop i) = false → AQ s b w i wr ou fu W → Calls Tryz.prog 28 #[.pointer (some ⟨b, 0, none⟩), .int .u8 c.toNat] W fun e w' => e = .returned (.bool false) ∧ AQ s b w i wr ou fu w' := fun c W h a => (take_no hi a.rd h).mono fun _ _ h => ⟨h.1, a.bel h.2.below⟩
  have kY : ∀ (c : UInt8) (W : World), headIs c (s.data.toList.drop i) = true → AQ s b w i wr ou fu W → Calls Tryz.prog 28 #[.pointer (some ⟨b, 0, none⟩), .int .u8 c.toNat] W fun e w' => e = .returned (.bool true) ∧ AQ s b w (i + 1) wr ou fu w' := fun c W h a => (take_yes hs a.rd h).mono fun _ _ h => ⟨h.1, a.go h.2.1 h.2.2⟩
  have kM : ∀ (c : UInt8) (j : Nat) (wr' ou' fu' : Bool) (W : World), j ≤ s.size → AQ s b w j wr' ou' fu' W → Calls Tryz.prog 99 #[.pointer (some ⟨b, 0, none⟩), .int .u8 c.toNat] W fun e w' => (∃ v, e = .returned v) ∧ Ex b W w' ∧ AQ s b w (needI s c j) (mustW s c j wr') ou' fu' w' := fun c j wr' ou' fu' W h a => (need_any hs h a.rd).mono fun _ _ h => ⟨h.1, h.2.1, a.go h.2.1 h.2.2⟩
  have kU : ∀ (j : Nat) (wr' ou' fu' : Bool) (W : World), j ≤ s.size → AQ s b w j wr' ou' fu' W → Calls Tryz.prog 100 #[.pointer (some ⟨b, 0, none⟩)] W fun e w' => ∃ (v : Int) (q at' : Nat) (wr2 ou2 : Bool), e = .returned (.int .u32 v) ∧ AQ s b w at' wr2 ou2 fu' w' ∧ at' ≤ s.size ∧ j ≤ at' ∧ NumFQ s j wr' ou' v q at' wr2 ou2 := fun j wr' ou' fu' W h a => (rnumber_any h hs a.rd).mono fun _ _ ⟨v, q, at', wr2, ou2, h1, h2, h3, h4, h5, h6⟩ => ⟨v, q, at', wr2, ou2, h1, a.go h2 h3, h4, h5, h6⟩
  have kO : ∀ (j : Nat) (l h : Int) (wr' ou' fu' : Bool) (W : World), AQ s b w j wr' ou' fu' W → Calls Tryz.prog 101 #[.pointer (some ⟨b, 0, none⟩), .int .u32 l, .int .u32 h] W fun e w' => ∃ r : PC, e = .returned r.v ∧ HO (fun g => w.heap.size + 1 ≤ g ∧ g < w'.heap.size) w' (.mk 1 [(l, h)] []) r ∧ AQ s b w j wr' (ou' || decide (h < l)) fu' w' := fun j l h wr' ou' fu' W a => (rone1_any a.rd).mono fun _ _ ⟨r, h1, h2, h3, h4⟩ => ⟨r, h1, h2.low (by have := a.res.lt; omega), a.go h3 h4⟩
  have kn := fun W => all_any W
  generalize hW : w.alloc (.cells #[.int .i64 0, .slice none 0 0, .slice none 0 0] 26) = W0 at HA
  have HI : Hid (AQ s b w i wr ou fu W0) := HA
  clear hb HA hi hs ka hlim
  cases h46 : headIs 46 (s.data.toList.drop i) with
  | true =>
    have kY46 : ∀ W, AQ s b w i wr ou fu W → Calls Tryz.prog 28 #[.pointer (some ⟨b, 0, none⟩), .int .u8 46] W fun e w' => e = .returned (.bool true) ∧ AQ s b w (i + 1) wr ou fu w' := fun W a => kY 46 W h46 a
    clear kN kY kM
    go_enter Tryz.func84, Tryz.ntmps84
    go_upto_region 1 with fail
    clear hW
    go_wp2_with (first
      | (go_at_call 28; (with_reducible refine (kY46 _ HI.out).mono ?_); rintro _ w2 ⟨rfl, a2⟩; have I2 : Hid (AQ s b w (i + 1) wr ou fu w2) := a2; clear a2)
      | (go_at_call 31; refine (kn _).mono ?_; rintro _ w3 ⟨⟨r0, ⟨r1, r2, r3⟩, r4, r5, r6⟩, rfl, ho3, bb3⟩; have I3 : Hid (AQ s b w (i + 1) wr ou fu w3) := I2.out.bel bb3.below; have H3 : Hid (HO (fun g => w.heap.size + 1 ≤ g ∧ g < w3.heap.size) w3 allT ⟨r0, ⟨r1, r2, r3⟩, r4, r5, r6⟩) := ho3.low (by have := I2.out.res.lt; omega); obtain ⟨y0, y1, y2⟩ := BlkT.cs I3.out.res; have z0 := I3.out.res.frozen; clear ho3 bb3))
    refine bodyPost_ret (v := PC.v ⟨r0, ⟨r1, r2, r3⟩, ⟨r4, r5, r6⟩⟩) ?_ rfl (I3.out.fin H3.out right_all (by omega) (headIs_drop h46).2 (qatom_46 h46 wr ou fu) _ _ _)
    simp [results, Tryz.results84]
    have B := blk_put3 I3.out.res ⟨r0, ⟨r1, r2, r3⟩, ⟨r4, r5, r6⟩⟩
    simp only at B
    generalize hW7 : World.setCell _ _ _ = W7 at B ⊢
    exact run_ptv B
  | false =>
  cases h33 : headIs 33 (s.data.toList.drop i) with
  | true =>
    have kN46 : ∀ W, AQ s b w i wr ou fu W → Calls Tryz.prog 28 #[.pointer (some ⟨b, 0, none⟩), .int .u8 46] W fun e w' => e = .returned (.bool false) ∧ AQ s b w i wr ou fu w' := fun W a => kN 46 W h46 a
    have kY33 : ∀ W, AQ s b w i wr ou fu W → Calls Tryz.prog 28 #[.pointer (some ⟨b, 0, none⟩), .int .u8 33] W fun e w' => e = .returned (.bool true) ∧ AQ s b w (i + 1) wr ou fu w' := fun W a => kY 33 W h33 a
    clear kN kY kM
    go_enter Tryz.func84, Tryz.ntmps84
    go_upto_region 1 with fail
    clear hW
    go_wp2_with (first
      | (go_at_call 28; (with_reducible refine (kN46 _ HI.out).mono ?_); rintro _ w1 ⟨rfl, a2⟩; have I1 : Hid (AQ s b w i wr ou fu w1) := a2; clear a2)
      | (go_at_call 28; (with_reducible refine (kY33 _ I1.out).mono ?_); rintro _ w2 ⟨rfl, a2⟩; have I2 : Hid (AQ s b w (i + 1) wr ou fu w2) := a2; obtain ⟨y0, y1, y2⟩ := BlkT.cs I2.out.res; have z0 := I2.out.res.frozen; clear a2))
    refine bodyPost_ret (v := PC.v ⟨3, ⟨none, 0, 0⟩, ⟨none, 0, 0⟩⟩) ?_ rfl (I2.out.fin (HO_none 3) right_no (by omega) (headIs_drop h33).2 (qatom_33 h33 wr ou fu) _ _ _)
    simp [results, Tryz.results84]
    have B := blk_put3 I2.out.res ⟨3, ⟨none, 0, 0⟩, ⟨none, 0, 0⟩⟩
    simp only at B
    generalize hW7 : World.setCell _ _ _ = W7 at B ⊢
    exact run_ptv B
  | false =>
  cases h40 : headIs 40 (s.data.toList.drop i) with
  | true =>
    have kN46 : ∀ W, AQ s b w i wr ou fu W → Calls Tryz.prog 28 #[.pointer (some ⟨b, 0, none⟩), .int .u8 46] W fun e w' => e = .returned (.bool false) ∧ AQ s b w i wr ou fu w' := fun W a => kN 46 W h46 a
    have kN33 : ∀ W, AQ s b w i wr ou fu W → Calls Tryz.prog 28 #[.pointer (some ⟨b, 0, none⟩), .int .u8 33] W fun e w' => e = .returned (.bool false) ∧ AQ s b w i wr ou fu w' := fun W a => kN 33 W h33 a
    have kY40 : ∀ W, AQ s b w i wr ou fu W → Calls Tryz.prog 28 #[.pointer (some ⟨b, 0, none⟩), .int .u8 40] W fun e w' => e = .returned (.bool true) ∧ AQ s b w (i + 1) wr ou fu w' := fun W a => kY 40 W h40 a
    have kM41 : ∀ (j : Nat) (wr' ou' fu' : Bool) (W : World), j ≤ s.size → AQ s b w j wr' ou' fu' W → Calls Tryz.prog 99 #[.pointer (some ⟨b, 0, none⟩), .int .u8 41] W fun e w' => (∃ v, e = .returned v) ∧ Ex b W w' ∧ AQ s b w (needI s 41 j) (mustW s 41 j wr') ou' fu' w' := fun j wr' ou' fu' W h a => kM 41 j wr' ou' fu' W h a
    clear kN kY kM
    go_enter Tryz.func84, Tryz.ntmps84
    go_upto_region 1 with fail
    clear hW
    go_wp2_with (first
      | (go_at_call 28; (with_reducible refine (kN46 _ HI.out).mono ?_); rintro _ w1 ⟨rfl, a2⟩; have I1 : Hid (AQ s b w i wr ou fu w1) := a2; clear a2)
      | (go_at_call 28; (with_reducible refine (kN33 _ I1.out).mono ?_); rintro _ w2 ⟨rfl, a2⟩; have I2 : Hid (AQ s b w i wr ou fu w2) := a2; clear a2)
      | (go_at_call 28; (with_reducible refine (kY40 _ I2.out).mono ?_); rintro _ w3 ⟨rfl, a2⟩; have I3 : Hid (AQ s b w (i + 1) wr ou fu w3) := a2; clear a2)
      | (go_at_call 29; refine (HKA.out (i + 1) wr ou fu _ (headIs_drop h40).2 (by have := HLm.out; have := (headIs_drop h40).2; omega) I3.out.rd).mono ?_; rintro _ w4 ⟨⟨r0, ⟨r1, r2, r3⟩, r4, r5, r6⟩, t4, i4, wr4, ou4, fu4, rfl, ho4, hk4, ex4, b4, le4, le5, d4⟩; have I4 : Hid (AQ s b w i4 wr4 ou4 fu4 (w4.alloc (.cells #[.int .i64 r0, .slice r1 r2 r3, .slice r4 r5 r6] 26))) := (I3.out.go ex4 b4).bel (bel_alloc _ _); have H4 : Hid (HO (fun g => w.heap.size + 1 ≤ g ∧ g < w4.heap.size) w4 t4 ⟨r0, ⟨r1, r2, r3⟩, r4, r5, r6⟩) := ho4.low (by have := I3.out.res.lt; omega); have K4 : Hid (rightT t4 = true) := hk4; have L4 : Hid (i + 1 ≤ i4) := le4; have L5 : Hid (i4 ≤ s.size) := le5; have D4 : Hid (DoesQ true s wr ou fu (alt (s.data.toList.drop (i + 1))) t4 i4 wr4 ou4 fu4) := d4; have N4 : Hid (b < w4.heap.size) := (I3.out.go ex4 b4).rd.lt; clear ho4 hk4 ex4 b4 le4 le5 d4)
      | (go_at_call 99; (with_reducible refine (kM41 _ _ _ _ _ L5.out I4.out).mono ?_); rintro _ w5 ⟨⟨v5, rfl⟩, ex5, a5⟩; have I5 : Hid (AQ s b w (needI s 41 i4) (mustW s 41 i4 wr4) ou4 fu4 w5) := a5; have B5 : Hid (Blk w5 w4.heap.size (encT ⟨r0, ⟨r1, r2, r3⟩, r4, r5, r6⟩).toArray 26) := Blk.ex ex5 (Blk.new _ _ _) (by have := N4.out; omega); have H5 : Hid (HO (fun g => w.heap.size + 1 ≤ g ∧ g < w5.heap.size) w5 t4 ⟨r0, ⟨r1, r2, r3⟩, r4, r5, r6⟩) := (H4.out.bel (bel_alloc _ _)).ex ex5 (by have := I4.out.lt; omega); obtain ⟨x0, x1, x2⟩ := BlkT.cs B5.out; obtain ⟨y0, y1, y2⟩ := BlkT.cs I5.out.res; have z0 := I5.out.res.frozen; clear ex5 a5))
    refine bodyPost_ret (v := PC.v ⟨r0, ⟨r1, r2, r3⟩, ⟨r4, r5, r6⟩⟩) ?_ rfl (I5.out.fin H5.out K4.out (by have := L4.out; have := (needI_le (c := 41) L5.out).1; omega) (needI_le L5.out).2 (qatom_40 h40 D4.out) _ _ _)
    simp [results, Tryz.results84]
    have B := blk_put3 I5.out.res ⟨r0, ⟨r1, r2, r3⟩, ⟨r4, r5, r6⟩⟩
    simp only at B
    generalize hW7 : World.setCell _ _ _ = W7 at B ⊢
    exact run_ptv B
  | false =>
  cases h91 : headIs 91 (s.data.toList.drop i) with
  | true =>
    have kN46 : ∀ W, AQ s b w i wr ou fu W → Calls Tryz.prog 28 #[.pointer (some ⟨b, 0, none⟩), .int .u8 46] W fun e w' => e = .returned (.bool false) ∧ AQ s b w i wr ou fu w' := fun W a => kN 46 W h46 a
    have kN33 : ∀ W, AQ s b w i wr ou fu W → Calls Tryz.prog 28 #[.pointer (some ⟨b, 0, none⟩), .int .u8 33] W fun e w' => e = .returned (.bool false) ∧ AQ s b w i wr ou fu w' := fun W a => kN 33 W h33 a
    have kN40 : ∀ W, AQ s b w i wr ou fu W → Calls Tryz.prog 28 #[.pointer (some ⟨b, 0, none⟩), .int .u8 40] W fun e w' => e = .returned (.bool false) ∧ AQ s b w i wr ou fu w' := fun W a => kN 40 W h40 a
    have kY91 : ∀ W, AQ s b w i wr ou fu W → Calls Tryz.prog 28 #[.pointer (some ⟨b, 0, none⟩), .int .u8 91] W fun e w' => e = .returned (.bool true) ∧ AQ s b w (i + 1) wr ou fu w' := fun W a => kY 91 W h91 a
    have kM45 : ∀ (j : Nat) (wr' ou' fu' : Bool) (W : World), j ≤ s.size → AQ s b w j wr' ou' fu' W → Calls Tryz.prog 99 #[.pointer (some ⟨b, 0, none⟩), .int .u8 45] W fun e w' => (∃ v, e = .returned v) ∧ Ex b W w' ∧ AQ s b w (needI s 45 j) (mustW s 45 j wr') ou' fu' w' := fun j wr' ou' fu' W h a => kM 45 j wr' ou' fu' W h a
    have kM93 : ∀ (j : Nat) (wr' ou' fu' : Bool) (W : World), j ≤ s.size → AQ s b w j wr' ou' fu' W → Calls Tryz.prog 99 #[.pointer (some ⟨b, 0, none⟩), .int .u8 93] W fun e w' => (∃ v, e = .returned v) ∧ Ex b W w' ∧ AQ s b w (needI s 93 j) (mustW s 93 j wr') ou' fu' w' := fun j wr' ou' fu' W h a => kM 93 j wr' ou' fu' W h a
    clear kN kY kM
    go_enter Tryz.func84, Tryz.ntmps84
    go_upto_region 1 with fail
    clear hW
    go_wp2_with (first
      | (go_at_call 28; (with_reducible refine (kN46 _ HI.out).mono ?_); rintro _ w1 ⟨rfl, a2⟩; have I1 : Hid (AQ s b w i wr ou fu w1) := a2; clear a2)
      | (go_at_call 28; (with_reducible refine (kN33 _ I1.out).mono ?_); rintro _ w2 ⟨rfl, a2⟩; have I2 : Hid (AQ s b w i wr ou fu w2) := a2; clear a2)
      | (go_at_call 28; (with_reducible refine (kN40 _ I2.out).mono ?_); rintro _ w3 ⟨rfl, a2⟩; have I3 : Hid (AQ s b w i wr ou fu w3) := a2; clear a2)
      | (go_at_call 28; (with_reducible refine (kY91 _ I3.out).mono ?_); rintro _ w4 ⟨rfl, a2⟩; have I4 : Hid (AQ s b w (i + 1) wr ou fu w4) := a2; clear a2)
      | (go_at_call 100; refine (kU (needI s 45 i6) (mustW s 45 i6 wr6) ou6 fu _ (needI_le L6.out).2 I7.out).mono ?_; rintro _ w8 ⟨v8, n8, i8, wr8, ou8, rfl, a2, le4, le5, f2⟩; have I8 : Hid (AQ s b w i8 wr8 ou8 fu w8) := a2; have L8 : Hid (i8 ≤ s.size) := le4; have M8 : Hid ((needI s 45 i6) ≤ i8) := le5; have F8 : Hid (NumFQ s (needI s 45 i6) (mustW s 45 i6 wr6) ou6 v8 n8 i8 wr8 ou8) := f2; clear a2 le4 le5 f2)
      | (go_at_call 100; refine (kU (i + 1) wr ou fu _ (headIs_drop h91).2 I4.out).mono ?_; rintro _ w6 ⟨v6, n6, i6, wr6, ou6, rfl, a2, le4, le5, f2⟩; have I6 : Hid (AQ s b w i6 wr6 ou6 fu w6) := a2; have L6 : Hid (i6 ≤ s.size) := le4; have M6 : Hid ((i + 1) ≤ i6) := le5; have F6 : Hid (NumFQ s (i + 1) wr ou v6 n6 i6 wr6 ou6) := f2; clear a2 le4 le5 f2)
      | (go_at_call 99; (with_reducible refine (kM93 _ _ _ _ _ L8.out I8.out).mono ?_); rintro _ w5 ⟨⟨v5, rfl⟩, ex5, a5⟩; have I5 : Hid (AQ s b w (needI s 93 i8) (mustW s 93 i8 wr8) ou8 fu w5) := a5; clear ex5 a5)
      | (go_at_call 99; (with_reducible refine (kM45 _ _ _ _ _ L6.out I6.out).mono ?_); rintro _ w7 ⟨⟨v5, rfl⟩, ex5, a5⟩; have I7 : Hid (AQ s b w (needI s 45 i6) (mustW s 45 i6 wr6) ou6 fu w7) := a5; clear ex5 a5)
      | (go_at_call 101; refine (kO _ v6 v8 _ _ _ _ I5.out).mono ?_; rintro _ w9 ⟨⟨r0, ⟨r1, r2, r3⟩, r4, r5, r6⟩, rfl, ho9, a9⟩; have I9 : Hid (AQ s b w (needI s 93 i8) (mustW s 93 i8 wr8) (ou8 || decide (v8 < v6)) fu w9) := a9; have H9 : Hid (HO (fun g => w.heap.size + 1 ≤ g ∧ g < w9.heap.size) w9 (.mk 1 [(v6, v8)] []) ⟨r0, ⟨r1, r2, r3⟩, r4, r5, r6⟩) := ho9; obtain ⟨y0, y1, y2⟩ := BlkT.cs I9.out.res; have z0 := I9.out.res.frozen; clear ho9 a9))
    refine bodyPost_ret (v := PC.v ⟨r0, ⟨r1, r2, r3⟩, ⟨r4, r5, r6⟩⟩) ?_ rfl (I9.out.fin H9.out (right_one _) (by have := M6.out; have := (needI_le (c := 45) L6.out).1; have := M8.out; have := (needI_le (c := 93) L8.out).1; omega) (needI_le L8.out).2 (qatom_91 h91 F6.out F8.out) _ _ _)
    simp [results, Tryz.results84]
    have B := blk_put3 I9.out.res ⟨r0, ⟨r1, r2, r3⟩, ⟨r4, r5, r6⟩⟩
    simp only at B
    generalize hW7 : World.setCell _ _ _ = W7 at B ⊢
    exact run_ptv B
  | false =>
    have kN46 : ∀ W, AQ s b w i wr ou fu W → Calls Tryz.prog 28 #[.pointer (some ⟨b, 0, none⟩), .int .u8 46] W fun e w' => e = .returned (.bool false) ∧ AQ s b w i wr ou fu w' := fun W a => kN 46 W h46 a
    have kN33 : ∀ W, AQ s b w i wr ou fu W → Calls Tryz.prog 28 #[.pointer (some ⟨b, 0, none⟩), .int .u8 33] W fun e w' => e = .returned (.bool false) ∧ AQ s b w i wr ou fu w' := fun W a => kN 33 W h33 a
    have kN40 : ∀ W, AQ s b w i wr ou fu W → Calls Tryz.prog 28 #[.pointer (some ⟨b, 0, none⟩), .int .u8 40] W fun e w' => e = .returned (.bool false) ∧ AQ s b w i wr ou fu w' := fun W a => kN 40 W h40 a
    have kN91 : ∀ W, AQ s b w i wr ou fu W → Calls Tryz.prog 28 #[.pointer (some ⟨b, 0, none⟩), .int .u8 91] W fun e w' => e = .returned (.bool false) ∧ AQ s b w i wr ou fu w' := fun W a => kN 91 W h91 a
    clear kN kY kM
    go_enter Tryz.func84, Tryz.ntmps84
    go_upto_region 1 with fail
    clear hW
    go_wp2_with (first
      | (go_at_call 28; (with_reducible refine (kN46 _ HI.out).mono ?_); rintro _ w1 ⟨rfl, a2⟩; have I1 : Hid (AQ s b w i wr ou fu w1) := a2; clear a2)
      | (go_at_call 28; (with_reducible refine (kN33 _ I1.out).mono ?_); rintro _ w2 ⟨rfl, a2⟩; have I2 : Hid (AQ s b w i wr ou fu w2) := a2; clear a2)
      | (go_at_call 28; (with_reducible refine (kN40 _ I2.out).mono ?_); rintro _ w3 ⟨rfl, a2⟩; have I3 : Hid (AQ s b w i wr ou fu w3) := a2; clear a2)
      | (go_at_call 28; (with_reducible refine (kN91 _ I3.out).mono ?_); rintro _ w4 ⟨rfl, a2⟩; have I4 : Hid (AQ s b w i wr ou fu w4) := a2; clear a2)
      | (go_at_call 100; refine (kU i wr ou fu _ HIi.out I4.out).mono ?_; rintro _ w6 ⟨v6, n6, i6, wr6, ou6, rfl, a2, le4, le5, f2⟩; have I6 : Hid (AQ s b w i6 wr6 ou6 fu w6) := a2; have L6 : Hid (i6 ≤ s.size) := le4; have M6 : Hid (i ≤ i6) := le5; have F6 : Hid (NumFQ s i wr ou v6 n6 i6 wr6 ou6) := f2; clear a2 le4 le5 f2)
      | (go_at_call 101; refine (kO _ v6 v6 _ _ _ _ I6.out).mono ?_; rintro _ w9 ⟨⟨r0, ⟨r1, r2, r3⟩, r4, r5, r6⟩, rfl, ho9, a9⟩; have I9 : Hid (AQ s b w i6 wr6 (ou6 || decide (v6 < v6)) fu w9) := a9; have H9 : Hid (HO (fun g => w.heap.size + 1 ≤ g ∧ g < w9.heap.size) w9 (.mk 1 [(v6, v6)] []) ⟨r0, ⟨r1, r2, r3⟩, r4, r5, r6⟩) := ho9; obtain ⟨y0, y1, y2⟩ := BlkT.cs I9.out.res; have z0 := I9.out.res.frozen; clear ho9 a9))
    refine bodyPost_ret (v := PC.v ⟨r0, ⟨r1, r2, r3⟩, ⟨r4, r5, r6⟩⟩) ?_ rfl (I9.out.fin H9.out (right_one _) M6.out L6.out (qatom_num h46 h33 h40 h91 F6.out) _ _ _)
    simp [results, Tryz.results84]
    have B := blk_put3 I9.out.res ⟨r0, ⟨r1, r2, r3⟩, ⟨r4, r5, r6⟩⟩
    simp only at B
    generalize hW7 : World.setCell _ _ _ = W7 at B ⊢
    exact run_ptv B

end Go.Proofs.YtnohkbdmnalmcaaGreatDoor
