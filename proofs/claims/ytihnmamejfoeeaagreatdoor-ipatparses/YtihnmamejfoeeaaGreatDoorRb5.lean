/-
  Walks: cat, alt; all of them together.
-/
import Derived.Test.YtihnmamejfoeeaaGreatDoorRb4
namespace Go.Proofs.YtihnmamejfoeeaaGreatDoor
open Go.RowKit

set_option maxRecDepth 100000 in
set_option maxHeartbeats 8000000 in
theorem alt_any {s : ByteArray} {b n : Nat} {alt : Bs → Option Rd} (hs : s.size ≤ 3000) (ka : CA s b 44 (catM alt) n) : CA s b 29 (altM alt) n := by
  intro i wr ou fu w hi hlim hb
  have HA := AX.start hb
  have HS : Hid (s.size ≤ 3000) := hs
  have HLm : Hid (s.size - i < n) := hlim
  have HKA : Hid (CA s b 44 (catM alt) n) := ka
  have HK0 := ka i wr ou fu _ hi hlim HA.rd
  have HM : Hid (altM alt (s.data.toList.drop i) = listM (catM alt) 124 3 (s.data.toList.drop i)) := rfl
  rw [HM.out]
  generalize hW : w.alloc (.cells #[.int .i64 0, .slice none 0 0, .slice none 0 0] 26) = W0 at HA HK0
  have HI : Hid (AX s b w i wr ou fu W0) := HA
  clear hb HA hi hs ka hlim HM
  go_enter Tryz.func29, Tryz.ntmps29
  go_upto_region 1 with fail
  clear hW
  go_wp2_with (go_at_call 44; refine HK0.mono ?_; rintro _ w4 ⟨⟨r0, ⟨r1, r2, r3⟩, r4, r5, r6⟩, t4, i4, wr4, ou4, fu4, rfl, ho4, hk4, ex4, b4, le4, le5, d4⟩; have I4 : Hid (LI s b w (w4.heap.size + 1) i4 wr4 ou4 fu4 3 [t4] ⟨some ⟨w4.heap.size, 0, none⟩, 1, 1⟩ [⟨r0, ⟨r1, r2, r3⟩, r4, r5, r6⟩] ((w4.alloc (.cells #[.int .i64 r0, .slice r1 r2 r3, .slice r4 r5 r6] 26)).alloc (.cells #[.int .i64 3, .slice none 0 0, .slice (some ⟨w4.heap.size, 0, none⟩) 1 1] 26))) := LI.one (HI.out.go ex4 b4) (ho4.low (by have := HI.out.res.lt; omega)) hk4 le5; have D0 : Hid (SepD s wr ou fu (listM (catM alt) 124 3 (s.data.toList.drop i)) (catM alt) 124 3 [t4] i4 wr4 ou4 fu4) := SepD.start d4; have L0 : Hid (i ≤ i4) := le4; clear ho4 hk4 ex4 b4 le4 le5 d4)
  generalize hWS : World.alloc _ _ = WS at I4 ⊢
  have S0 : Hid (LI s b w (w4.heap.size + 1) i4 wr4 ou4 fu4 3 [t4] ⟨some ⟨w4.heap.size, 0, none⟩, 1, 1⟩ [⟨r0, ⟨r1, r2, r3⟩, r4, r5, r6⟩] WS) := I4.out
  clear hWS I4 HK0 HI
  generalize w4.heap.size + 1 = b3 at S0 ⊢
  go_loopw [9] (fun _ wr0 => ∃ (i5 : Nat) (wr5 ou5 fu5 : Bool) (ts : List Tree) (bs : Sl) (rows : List PC), Hid (LI s b w b3 i5 wr5 ou5 fu5 3 ts bs rows wr0) ∧ Hid (SepD s wr ou fu (listM (catM alt) 124 3 (s.data.toList.drop i)) (catM alt) 124 3 ts i5 wr5 ou5 fu5) ∧ Hid (i ≤ i5)) (fun _ wr0 => s.size - posOf b wr0)
  case atStart => exact ⟨_, _, _, _, _, _, _, S0, D0, L0⟩
  case round =>
    clear S0 D0 L0
    obtain ⟨i5, wr5, ou5, fu5, ts, ⟨da, dn, dc⟩, rows, I5, D5, L5⟩ := hrel
    have HP : Hid (posOf b _ = i5) := posOf_blk I5.out.ax.rd
    have HLN : Hid (ts.length ≤ i5 + 4) := I5.out.len
    cases hc : headIs 124 (s.data.toList.drop i5) with
    | true =>
      have kY : ∀ W, LI s b w b3 i5 wr5 ou5 fu5 3 ts ⟨da, dn, dc⟩ rows W → Calls Tryz.prog 28 #[.pointer (some ⟨b, 0, none⟩), .int .u8 124] W fun e w' => e = .returned (.bool true) ∧ LI s b w b3 (i5 + 1) wr5 ou5 fu5 3 ts ⟨da, dn, dc⟩ rows w' := fun W a => (took_yes (c := 124) HS.out a.ax.rd hc).mono fun _ _ h' => ⟨h'.1, a.go h'.2.1 h'.2.2 (headIs_drop hc).2 (Nat.le_succ _)⟩
      go_wp2_with (go_at_call 28; (with_reducible refine (kY _ I5.out).mono ?_); rintro _ w7 ⟨rfl, a2⟩; have I7 : Hid (LI s b w b3 (i5 + 1) wr5 ou5 fu5 3 ts ⟨da, dn, dc⟩ rows w7) := a2; clear a2)
      have bl3 : b3 < w7.heap.size := I7.out.me.lt
      have HR7 : Hid (∀ g, (Sl.v ⟨da, dn, dc⟩).ownBlock = some g → g < w7.heap.size) := fun g hg => (I7.out.row.lt hg).2
      obtain ⟨m0, m1, m2⟩ := BlkT.cs I7.out.me
      simp only at m0 m1 m2
      go_region_law
        (first
          | (go_simp; go_at_call 44; refine (HKA.out (i5 + 1) wr5 ou5 fu5 _ I7.out.le (by have h1 := HLm.out; have h2 := L5.out; have h3 := (headIs_drop hc).2; omega) (I7.out.bel (below_drewN (Below.refl _ _) 1)).ax.rd).mono ?_; rintro _ w8 ⟨⟨u0, ⟨u1, u2, u3⟩, u4, u5, u6⟩, t8, i8, wr8, ou8, fu8, rfl, ho8, hk8, ex8, b8, le8, lf8, d8⟩; have I8 : Hid (LI s b w b3 i8 wr8 ou8 fu8 3 ts ⟨da, dn, dc⟩ rows w8) := (I7.out.bel (below_drewN (Below.refl _ _) 1)).go ex8 b8 lf8 le8; have H8 : Hid (HO (fun g => w7.heap.size ≤ g ∧ g < w8.heap.size) w8 t8 ⟨u0, ⟨u1, u2, u3⟩, u4, u5, u6⟩) := ho8.low (by simp); have K8 : Hid (rightT t8 = true) := hk8; have D8 : Hid (Does s wr5 ou5 fu5 (catM alt (s.data.toList.drop (i5 + 1))) t8 i8 wr8 ou8 fu8) := d8; have L8 : Hid ((i5 + 1) ≤ i8 ∧ i8 ≤ s.size) := ⟨le8, lf8⟩; clear ho8 hk8 ex8 b8 le8 lf8 d8; obtain ⟨n0, n1, n2⟩ := BlkT.cs I8.out.me; have n2l := I8.out.me.lt)
          | (refine step_appT (by rfl) _ _ (by rfl) 0 (.slice da dn dc) rows (by rfl) (I8.out.row.alloc _) ⟨u0, ⟨u1, u2, u3⟩, u4, u5, u6⟩ w8.heap.size (by rfl) (Blk.new' _ _ _ _ (by simp)) (by have h1 := I8.out.rlen; have h2 := I8.out.le; have h3 := HS.out; omega) (Nat.zero_le _) (w8.heap.size + 1) (by simp) ?_; intro g5 cap5 w9 ow9 gr9 hg9; have I9 := I8.out.bel (bel_alloc _ (.cells (encT ⟨u0, ⟨u1, u2, u3⟩, u4, u5, u6⟩).toArray 26)); have J9 : Hid _ := I9.step (H8.out.bel (bel_alloc _ _)) K8.out bl3 HR7.out (by have h1 := HLN.out; have h2 := L8.out.1; have h3 : ([] : List Tree).length = 0 := rfl; omega) ow9 gr9 (by simpa using hg9); obtain ⟨p0, p1, p2⟩ := BlkT.cs (I9.me_grown gr9); have pf := (I9.me_grown gr9).frozen; clear ow9 gr9 hg9 I9))

      all_goals
        have J10 := J9.out
        generalize hW10 : World.setCell _ _ _ = W10 at J10 ⊢
        have S10 : Hid (LI s b w b3 i8 wr8 ou8 fu8 3 (ts ++ [t8]) ⟨some ⟨g5, 0, none⟩, rows.length + 1, cap5⟩ (rows ++ [⟨u0, ⟨u1, u2, u3⟩, u4, u5, u6⟩]) W10) := J10
        clear J10 hW10 J9 H8 I8 n0 n1 n2 n2l p0 p1 p2 pf m0 m1 m2 HR7 bl3

        go_wp2_with fail
        go_roundw
        case rel => exact ⟨i8, wr8, ou8, fu8, _, _, _, S10, SepD.step D5.out hc D8.out L8.out.1 L8.out.2, by have h1 := L5.out; have h2 := L8.out.1; exact (by omega : i ≤ i8)⟩
        case measure => rw [posOf_blk S10.out.ax.rd, HP.out]; have h2 := L8.out; have h3 := (headIs_drop hc).2; omega
    | false =>
      have kN : ∀ W, LI s b w b3 i5 wr5 ou5 fu5 3 ts ⟨da, dn, dc⟩ rows W → Calls Tryz.prog 28 #[.pointer (some ⟨b, 0, none⟩), .int .u8 124] W fun e w' => e = .returned (.bool false) ∧ LI s b w b3 i5 wr5 ou5 fu5 3 ts ⟨da, dn, dc⟩ rows w' := fun W a => (took_no (c := 124) a.le a.ax.rd hc).mono fun _ _ h' => ⟨h'.1, a.bel h'.2.below⟩
      go_wp2_with (first
        | (go_at_call 28; (with_reducible refine (kN _ I5.out).mono ?_); rintro _ w7 ⟨rfl, a2⟩; have I7 : Hid (LI s b w b3 i5 wr5 ou5 fu5 3 ts ⟨da, dn, dc⟩ rows w7) := a2; obtain ⟨m0, m1, m2⟩ := BlkT.cs I7.out.me; simp only at m0 m1 m2; clear a2)
        | (go_at_call 45; refine (single_any I7.out.ax.rd (ok_list' (by have h1 := I7.out.len; have h2 := I7.out.le; have h3 := HS.out; omega) I7.out.rt) (fun g hg => hg.2.1) I7.out.ho).mono ?_; rintro _ w8 ⟨⟨u0, ⟨u1, u2, u3⟩, u4, u5, u6⟩, rfl, ho8, ex8, b8⟩; have A8 : Hid (AX s b w i5 wr5 ou5 (fu5 || (singleM 3 ts).2) w8) := I7.out.ax.go ex8 b8; have H8 : Hid (HO (fun g => w.heap.size + 1 ≤ g ∧ g < w8.heap.size) w8 (singleM 3 ts).1 ⟨u0, ⟨u1, u2, u3⟩, u4, u5, u6⟩) := ho8.imp' (fun g hg => ⟨hg.1, Nat.lt_of_lt_of_le hg.2.1 ex8.size⟩); obtain ⟨y0, y1, y2⟩ := BlkT.cs A8.out.res; have z0 := A8.out.res.frozen; clear ho8 ex8 b8))
      refine bodyPost_ret (v := PC.v ⟨u0, ⟨u1, u2, u3⟩, ⟨u4, u5, u6⟩⟩) ?_ rfl (A8.out.fin H8.out (right_single _ _ I7.out.rt) L5.out I7.out.le (D5.out.fin hc) _ _ _)
      simp [results, Tryz.results29]
      have B := blk_put3 A8.out.res ⟨u0, ⟨u1, u2, u3⟩, ⟨u4, u5, u6⟩⟩
      simp only at B
      generalize hW7 : World.setCell _ _ _ = W7 at B ⊢
      exact run_ptv B


set_option maxRecDepth 100000 in
set_option maxHeartbeats 8000000 in
theorem cat_any {s : ByteArray} {b n : Nat} {alt : Bs → Option Rd} (hs : s.size ≤ 3000) (ka : CA s b 57 (itemM alt) n) : CA s b 44 (catM alt) n := by
  intro i wr ou fu w hi hlim hb
  have HA := AX.start hb
  have HS : Hid (s.size ≤ 3000) := hs
  have HLm : Hid (s.size - i < n) := hlim
  have HKA : Hid (CA s b 57 (itemM alt) n) := ka
  have HLN : Hid (([] : List Tree).length ≤ i) := Nat.zero_le _
  have HM : Hid (catM alt (s.data.toList.drop i) = if endsM (s.data.toList.drop i) = true then some ⟨emT, false, false, s.data.toList.drop i⟩ else listM (itemM alt) 95 2 (s.data.toList.drop i)) := rfl
  have kend := fun (q : Bool) (h : endsM (s.data.toList.drop i) = q) (W : World) (hr : BlkR W b s i wr ou fu) => ended_any hi hr h
  generalize hW : w.alloc (.cells #[.int .i64 0, .slice none 0 0, .slice none 0 0] 26) = W0 at HA
  have HI : Hid (AX s b w i wr ou fu W0) := HA
  have I1 : Hid (LI s b w W0.heap.size i wr ou fu 2 [] ⟨none, 0, 0⟩ [] (W0.alloc (.cells #[.int .i64 2, .slice none 0 0, .slice none 0 0] 26))) := LI.nil HA hi
  clear hb HA hi hs ka hlim
  cases he : endsM (s.data.toList.drop i) with
  | true =>
    have HM2 : Hid (catM alt (s.data.toList.drop i) = some ⟨emT, false, false, s.data.toList.drop i⟩) := by show _ = _; rw [HM.out, if_pos he]
    go_enter Tryz.func44, Tryz.ntmps44
    go_upto_region 1 with fail
    clear hW
    go_wp2_with (go_at_call 56; refine (kend true he _ I1.out.ax.rd).mono ?_; rintro _ w7 ⟨rfl, g7⟩; have I7 : Hid (LI s b w W0.heap.size i wr ou fu 2 [] ⟨none, 0, 0⟩ [] w7) := I1.out.bel g7.below; obtain ⟨m0, m1, m2⟩ := BlkT.cs I7.out.me; simp only at m0 m1 m2; obtain ⟨y0, y1, y2⟩ := BlkT.cs I7.out.ax.res; have z0 := I7.out.ax.res.frozen; clear g7)
    refine bodyPost_ret (v := PC.v ⟨2, ⟨none, 0, 0⟩, ⟨none, 0, 0⟩⟩) ?_ rfl (I7.out.ax.fin (HO_none 2) right_em (Nat.le_refl _) I7.out.le ?_ _ _ _)
    · simp [results, Tryz.results44]
      have B := blk_put3 I7.out.ax.res ⟨2, ⟨none, 0, 0⟩, ⟨none, 0, 0⟩⟩
      simp only at B
      generalize hW7 : World.setCell _ _ _ = W7 at B ⊢
      exact run_ptv B
    · rw [HM2.out]
      exact ⟨id, fun hw => Or.inr ⟨_, rfl, hw, rfl, rfl, by simp, by simp⟩⟩
  | false =>
    have HM2 : Hid (catM alt (s.data.toList.drop i) = listM (itemM alt) 95 2 (s.data.toList.drop i)) := by show _ = _; rw [HM.out, if_neg (by rw [he]; decide)]
    rw [HM2.out]
    clear HM HM2
    go_enter Tryz.func44, Tryz.ntmps44
    go_upto_region 1 with fail
    clear hW
    go_upto_region 4 with (go_at_call 56; refine (kend false he _ I1.out.ax.rd).mono ?_; rintro _ w7 ⟨rfl, g7⟩; have I7 : Hid (LI s b w W0.heap.size i wr ou fu 2 [] ⟨none, 0, 0⟩ [] w7) := I1.out.bel g7.below; clear g7)
    clear kend I1 HI he
    generalize W0.heap.size = b3 at I7 ⊢
    obtain ⟨rows, hrows⟩ : ∃ rows : List PC, rows = [] := ⟨_, rfl⟩
    rw [← hrows] at I7
    have HRw : Hid (rows = []) := hrows
    clear hrows
    obtain ⟨da, hda⟩ : ∃ da : Option Addr, da = none := ⟨_, rfl⟩
    have bl3 : b3 < w7.heap.size := I7.out.me.lt
    have HR7 : Hid (∀ g, (Sl.v ⟨none, 0, 0⟩).ownBlock = some g → g < w7.heap.size) := fun g hg => (I7.out.row.lt hg).2
    obtain ⟨m0, m1, m2⟩ := BlkT.cs I7.out.me
    simp only at m0 m1 m2
    go_region_law
      (first
        | (go_simp; go_at_call 57; refine (HKA.out i wr ou fu _ I7.out.le HLm.out (I7.out.bel (below_drewN (Below.refl _ _) 1)).ax.rd).mono ?_; rintro _ w8 ⟨⟨u0, ⟨u1, u2, u3⟩, u4, u5, u6⟩, t8, i8, wr8, ou8, fu8, rfl, ho8, hk8, ex8, b8, le8, lf8, d8⟩; have I8 : Hid (LI s b w b3 i8 wr8 ou8 fu8 2 [] ⟨none, 0, 0⟩ rows w8) := (I7.out.bel (below_drewN (Below.refl _ _) 1)).go ex8 b8 lf8 le8; have H8 : Hid (HO (fun g => w7.heap.size ≤ g ∧ g < w8.heap.size) w8 t8 ⟨u0, ⟨u1, u2, u3⟩, u4, u5, u6⟩) := ho8.low (by simp); have K8 : Hid (rightT t8 = true) := hk8; have D8 : Hid (Does s wr ou fu (itemM alt (s.data.toList.drop i)) t8 i8 wr8 ou8 fu8) := d8; have L8 : Hid (i ≤ i8 ∧ i8 ≤ s.size) := ⟨le8, lf8⟩; clear ho8 hk8 ex8 b8 le8 lf8 d8; obtain ⟨n0, n1, n2⟩ := BlkT.cs I8.out.me; have n2l := I8.out.me.lt)
        | (refine step_appT (by rfl) _ _ (by rfl) 0 (.slice none 0 0) rows (by rfl) (I8.out.row.alloc _) ⟨u0, ⟨u1, u2, u3⟩, u4, u5, u6⟩ w8.heap.size (by rfl) (Blk.new' _ _ _ _ (by simp)) (by have h1 := I8.out.rlen; have h2 := I8.out.le; have h3 := HS.out; omega) (Nat.zero_le _) (w8.heap.size + 1) (by simp) ?_; intro g5 cap5 w9 ow9 gr9 hg9; have I9 := I8.out.bel (bel_alloc _ (.cells (encT ⟨u0, ⟨u1, u2, u3⟩, u4, u5, u6⟩).toArray 26)); have J9 : Hid _ := I9.step (H8.out.bel (bel_alloc _ _)) K8.out bl3 HR7.out (by have h1 := HLN.out; have h2 := L8.out.1; have h3 : ([] : List Tree).length = 0 := rfl; omega) ow9 gr9 (by simpa using hg9); obtain ⟨p0, p1, p2⟩ := BlkT.cs (I9.me_grown gr9); have pf := (I9.me_grown gr9).frozen; clear ow9 gr9 hg9 I9))

    all_goals
      have J10 := J9.out
      generalize hW10 : World.setCell _ _ _ = W10 at J10 ⊢
      have S10 : Hid (LI s b w b3 i8 wr8 ou8 fu8 2 ([] ++ [t8]) ⟨some ⟨g5, 0, none⟩, rows.length + 1, cap5⟩ (rows ++ [⟨u0, ⟨u1, u2, u3⟩, u4, u5, u6⟩]) W10) := J10
      clear J10 hW10 J9 H8 I8 n0 n1 n2 n2l p0 p1 p2 pf m0 m1 m2 HR7 bl3

      have D0 : Hid (SepD s wr ou fu (listM (itemM alt) 95 2 (s.data.toList.drop i)) (itemM alt) 95 2 ([] ++ [t8]) i8 wr8 ou8 fu8) := SepD.start D8.out
      have L0 : Hid (i ≤ i8) := L8.out.1
      have S0 := S10
      clear S10 HLN I7 K8 D8 L8 hda HRw
      go_wp2_with fail
      go_loopw [16] (fun _ wr0 => ∃ (i5 : Nat) (wr5 ou5 fu5 : Bool) (ts : List Tree) (bs : Sl) (rows : List PC), Hid (LI s b w b3 i5 wr5 ou5 fu5 2 ts bs rows wr0) ∧ Hid (SepD s wr ou fu (listM (itemM alt) 95 2 (s.data.toList.drop i)) (itemM alt) 95 2 ts i5 wr5 ou5 fu5) ∧ Hid (i ≤ i5)) (fun _ wr0 => s.size - posOf b wr0)
      case atStart => exact ⟨_, _, _, _, _, _, _, S0, D0, L0⟩
      case round =>
        clear S0 D0 L0
        obtain ⟨i5, wr5, ou5, fu5, ts, ⟨da, dn, dc⟩, rows, I5, D5, L5⟩ := hrel
        have HP : Hid (posOf b _ = i5) := posOf_blk I5.out.ax.rd
        have HLN : Hid (ts.length ≤ i5 + 4) := I5.out.len
        cases hc : headIs 95 (s.data.toList.drop i5) with
        | true =>
          have kY : ∀ W, LI s b w b3 i5 wr5 ou5 fu5 2 ts ⟨da, dn, dc⟩ rows W → Calls Tryz.prog 28 #[.pointer (some ⟨b, 0, none⟩), .int .u8 95] W fun e w' => e = .returned (.bool true) ∧ LI s b w b3 (i5 + 1) wr5 ou5 fu5 2 ts ⟨da, dn, dc⟩ rows w' := fun W a => (took_yes (c := 95) HS.out a.ax.rd hc).mono fun _ _ h' => ⟨h'.1, a.go h'.2.1 h'.2.2 (headIs_drop hc).2 (Nat.le_succ _)⟩
          go_wp2_with (go_at_call 28; (with_reducible refine (kY _ I5.out).mono ?_); rintro _ w7 ⟨rfl, a2⟩; have I7 : Hid (LI s b w b3 (i5 + 1) wr5 ou5 fu5 2 ts ⟨da, dn, dc⟩ rows w7) := a2; clear a2)
          have bl3 : b3 < w7.heap.size := I7.out.me.lt
          have HR7 : Hid (∀ g, (Sl.v ⟨da, dn, dc⟩).ownBlock = some g → g < w7.heap.size) := fun g hg => (I7.out.row.lt hg).2
          obtain ⟨m0, m1, m2⟩ := BlkT.cs I7.out.me
          simp only at m0 m1 m2
          go_region_law
            (first
              | (go_simp; go_at_call 57; refine (HKA.out (i5 + 1) wr5 ou5 fu5 _ I7.out.le (by have h1 := HLm.out; have h2 := L5.out; have h3 := (headIs_drop hc).2; omega) (I7.out.bel (below_drewN (Below.refl _ _) 1)).ax.rd).mono ?_; rintro _ w8 ⟨⟨u0, ⟨u1, u2, u3⟩, u4, u5, u6⟩, t8, i8, wr8, ou8, fu8, rfl, ho8, hk8, ex8, b8, le8, lf8, d8⟩; have I8 : Hid (LI s b w b3 i8 wr8 ou8 fu8 2 ts ⟨da, dn, dc⟩ rows w8) := (I7.out.bel (below_drewN (Below.refl _ _) 1)).go ex8 b8 lf8 le8; have H8 : Hid (HO (fun g => w7.heap.size ≤ g ∧ g < w8.heap.size) w8 t8 ⟨u0, ⟨u1, u2, u3⟩, u4, u5, u6⟩) := ho8.low (by simp); have K8 : Hid (rightT t8 = true) := hk8; have D8 : Hid (Does s wr5 ou5 fu5 (itemM alt (s.data.toList.drop (i5 + 1))) t8 i8 wr8 ou8 fu8) := d8; have L8 : Hid ((i5 + 1) ≤ i8 ∧ i8 ≤ s.size) := ⟨le8, lf8⟩; clear ho8 hk8 ex8 b8 le8 lf8 d8; obtain ⟨n0, n1, n2⟩ := BlkT.cs I8.out.me; have n2l := I8.out.me.lt)
              | (refine step_appT (by rfl) _ _ (by rfl) 0 (.slice da dn dc) rows (by rfl) (I8.out.row.alloc _) ⟨u0, ⟨u1, u2, u3⟩, u4, u5, u6⟩ w8.heap.size (by rfl) (Blk.new' _ _ _ _ (by simp)) (by have h1 := I8.out.rlen; have h2 := I8.out.le; have h3 := HS.out; omega) (Nat.zero_le _) (w8.heap.size + 1) (by simp) ?_; intro g5 cap5 w9 ow9 gr9 hg9; have I9 := I8.out.bel (bel_alloc _ (.cells (encT ⟨u0, ⟨u1, u2, u3⟩, u4, u5, u6⟩).toArray 26)); have J9 : Hid _ := I9.step (H8.out.bel (bel_alloc _ _)) K8.out bl3 HR7.out (by have h1 := HLN.out; have h2 := L8.out.1; have h3 : ([] : List Tree).length = 0 := rfl; omega) ow9 gr9 (by simpa using hg9); obtain ⟨p0, p1, p2⟩ := BlkT.cs (I9.me_grown gr9); have pf := (I9.me_grown gr9).frozen; clear ow9 gr9 hg9 I9))

          all_goals
            have J10 := J9.out
            generalize hW10 : World.setCell _ _ _ = W10 at J10 ⊢
            have S10 : Hid (LI s b w b3 i8 wr8 ou8 fu8 2 (ts ++ [t8]) ⟨some ⟨g5, 0, none⟩, rows.length + 1, cap5⟩ (rows ++ [⟨u0, ⟨u1, u2, u3⟩, u4, u5, u6⟩]) W10) := J10
            clear J10 hW10 J9 H8 I8 n0 n1 n2 n2l p0 p1 p2 pf m0 m1 m2 HR7 bl3

            go_wp2_with fail
            go_roundw
            case rel => exact ⟨i8, wr8, ou8, fu8, _, _, _, S10, SepD.step D5.out hc D8.out L8.out.1 L8.out.2, by have h1 := L5.out; have h2 := L8.out.1; exact (by omega : i ≤ i8)⟩
            case measure => rw [posOf_blk S10.out.ax.rd, HP.out]; have h2 := L8.out; have h3 := (headIs_drop hc).2; omega
        | false =>
          have kN : ∀ W, LI s b w b3 i5 wr5 ou5 fu5 2 ts ⟨da, dn, dc⟩ rows W → Calls Tryz.prog 28 #[.pointer (some ⟨b, 0, none⟩), .int .u8 95] W fun e w' => e = .returned (.bool false) ∧ LI s b w b3 i5 wr5 ou5 fu5 2 ts ⟨da, dn, dc⟩ rows w' := fun W a => (took_no (c := 95) a.le a.ax.rd hc).mono fun _ _ h' => ⟨h'.1, a.bel h'.2.below⟩
          go_wp2_with (first
            | (go_at_call 28; (with_reducible refine (kN _ I5.out).mono ?_); rintro _ w7 ⟨rfl, a2⟩; have I7 : Hid (LI s b w b3 i5 wr5 ou5 fu5 2 ts ⟨da, dn, dc⟩ rows w7) := a2; obtain ⟨m0, m1, m2⟩ := BlkT.cs I7.out.me; simp only at m0 m1 m2; clear a2)
            | (go_at_call 45; refine (single_any I7.out.ax.rd (ok_list' (by have h1 := I7.out.len; have h2 := I7.out.le; have h3 := HS.out; omega) I7.out.rt) (fun g hg => hg.2.1) I7.out.ho).mono ?_; rintro _ w8 ⟨⟨u0, ⟨u1, u2, u3⟩, u4, u5, u6⟩, rfl, ho8, ex8, b8⟩; have A8 : Hid (AX s b w i5 wr5 ou5 (fu5 || (singleM 2 ts).2) w8) := I7.out.ax.go ex8 b8; have H8 : Hid (HO (fun g => w.heap.size + 1 ≤ g ∧ g < w8.heap.size) w8 (singleM 2 ts).1 ⟨u0, ⟨u1, u2, u3⟩, u4, u5, u6⟩) := ho8.imp' (fun g hg => ⟨hg.1, Nat.lt_of_lt_of_le hg.2.1 ex8.size⟩); obtain ⟨y0, y1, y2⟩ := BlkT.cs A8.out.res; have z0 := A8.out.res.frozen; clear ho8 ex8 b8))
          refine bodyPost_ret (v := PC.v ⟨u0, ⟨u1, u2, u3⟩, ⟨u4, u5, u6⟩⟩) ?_ rfl (A8.out.fin H8.out (right_single _ _ I7.out.rt) L5.out I7.out.le (D5.out.fin hc) _ _ _)
          simp [results, Tryz.results44]
          have B := blk_put3 A8.out.res ⟨u0, ⟨u1, u2, u3⟩, ⟨u4, u5, u6⟩⟩
          simp only at B
          generalize hW7 : World.setCell _ _ _ = W7 at B ⊢
          exact run_ptv B


/-- All of them together. -/
theorem reads_all {s : ByteArray} {b : Nat} (hs : s.size ≤ 3000) : ∀ n, CA s b 29 (altN n) n
  | 0 => fun i wr ou fu W hi hlim _ => absurd hlim (by omega)
  | n + 1 => alt_any hs (cat_any hs (item_any hs (atom_any hs (reads_all hs n))))

end Go.Proofs.YtihnmamejfoeeaaGreatDoor
