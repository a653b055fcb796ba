/-
  The walks of the document's cat and alt; all of them together.
-/
import Derived.Test.YtnohkbdmnalmcaaGreatDoorZl
namespace Go.Proofs.YtnohkbdmnalmcaaGreatDoor
open Go.RowKit

set_option maxRecDepth 100000 in
set_option maxHeartbeats 8000000 in
theorem qalt_any {s : ByteArray} {b n : Nat} {alt : Bs → Option Rd} (hs : s.size ≤ 3000) (ka : CQ s b 51 true (catM alt) n) : CQ s b 29 true (altM alt) n := by
  intro i wr ou fu w hi hlim hb
  have HA := AQ.start hb
  have HS : Hid (s.size ≤ 3000) := hs
  have HLm : Hid (s.size - i < n) := hlim
  have HIi : Hid (i ≤ s.size) := hi
  have HKA : Hid (CQ s b 51 true (catM alt) n) := ka
  generalize hW : w.alloc (.cells #[.int .i64 0, .slice none 0 0, .slice none 0 0] 26) = W0 at HA
  have HI : Hid (AQ s b w i wr ou fu W0) := HA
  have HM : Hid (altM alt (s.data.toList.drop i) = listM (catM alt) 124 3 (s.data.toList.drop i)) := rfl
  rw [HM.out]
  clear hb HA hi hs ka hlim HM
  go_enter Tryz.func29, Tryz.ntmps29
  go_upto_region 1 with fail
  clear hW
  go_wp2_with (go_at_call 51; refine (HKA.out i wr ou fu _ HIi.out HLm.out HI.out.rd).mono ?_; rintro _ w4 ⟨⟨r0, ⟨r1, r2, r3⟩, r4, r5, r6⟩, t4, i4, wr4, ou4, fu4, rfl, ho4, hk4, ex4, b4, le4, le5, d4⟩; have I4 : Hid (LQ s b w i4 wr4 ou4 fu4 [t4] ⟨some ⟨w4.heap.size, 0, none⟩, 1, 1⟩ [⟨r0, ⟨r1, r2, r3⟩, r4, r5, r6⟩] (w4.alloc (.cells (encT ⟨r0, ⟨r1, r2, r3⟩, r4, r5, r6⟩).toArray 26))) := LQ.one (HI.out.go ex4 b4) (ho4.low (by have := HI.out.res.lt; omega)) hk4 le5; have D4 : Hid (SepQ true s wr ou fu (listM (catM alt) 124 3 (s.data.toList.drop i)) (catM alt) 124 3 [t4] i4 wr4 ou4 fu4) := SepQ.start d4; have L4 : Hid (i ≤ i4) := le4; clear ho4 hk4 ex4 b4 le4 le5 d4)
  clear HI
  go_loopw [3] (fun v3 wr0 => ∃ (i5 : Nat) (wr5 ou5 fu5 : Bool) (ts : List Tree) (bs : Sl) (rows : List PC), v3 = .slice bs.a bs.n bs.c ∧ Hid (LQ s b w i5 wr5 ou5 fu5 ts bs rows wr0) ∧ Hid (SepQ true s wr ou fu (listM (catM alt) 124 3 (s.data.toList.drop i)) (catM alt) 124 3 ts i5 wr5 ou5 fu5) ∧ Hid (i ≤ i5)) (fun _ wr0 => s.size - posOf b wr0)
  case atStart => exact ⟨_, _, _, _, _, ⟨_, _, _⟩, _, rfl, I4, D4, L4⟩
  case round =>
    clear I4 D4 L4
    obtain ⟨i5, wr5, ou5, fu5, ts, ⟨da, dn, dc⟩, rows, rfl, I5, D5, L5⟩ := hrel
    have HP : Hid (posOf b _ = i5) := posOf_blkQ I5.out.ax.rd
    have c2 := I5.out.ax.rd.c 2
    simp at c2
    cases wr5 with
    | true =>
      go_wp2_with (go_at_call 33; refine (rmany_any (k := 3) (P := fun g => w.heap.size + 1 ≤ g ∧ g < wr.heap.size) I5.out.ax.rd (Or.inr rfl) (ok_list' (by have h1 := I5.out.len; have h2 := I5.out.le; have h3 := HS.out; omega) I5.out.rt) I5.out.rt (fun g hg => hg.2) (I5.out.ho 3)).mono ?_; rintro _ w8 ⟨⟨u0, ⟨u1, u2, u3⟩, u4, u5, u6⟩, rfl, ho8, ex8, b8⟩; have A8 : Hid (AQ s b w i5 true ou5 (fu5 || (singleM 3 ts).2) w8) := I5.out.ax.go ex8 b8; have H8 : Hid (HO (fun g => w.heap.size + 1 ≤ g ∧ g < w8.heap.size) w8 (singleM 3 ts).1 ⟨u0, ⟨u1, u2, u3⟩, u4, u5, u6⟩) := ho8.imp' (fun g hg => ⟨hg.1, Nat.lt_of_lt_of_le hg.2 ex8.size⟩); obtain ⟨y0, y1, y2⟩ := BlkT.cs A8.out.res; have z0 := A8.out.res.frozen; clear ho8 ex8 b8)
      refine bodyPost_ret (v := PC.v ⟨u0, ⟨u1, u2, u3⟩, ⟨u4, u5, u6⟩⟩) ?_ rfl (A8.out.fin H8.out (right_single _ _ I5.out.rt) L5.out I5.out.le (D5.out.bad _ _) _ _ _)
      simp [results, Tryz.results29]
      have B := blk_put3 A8.out.res ⟨u0, ⟨u1, u2, u3⟩, ⟨u4, u5, u6⟩⟩
      simp only at B
      generalize hW7 : World.setCell _ _ _ = W7 at B ⊢
      exact run_ptv B
    | false =>
      cases hc : headIs 124 (s.data.toList.drop i5) with
      | false =>
        have kN : ∀ W, LQ s b w i5 false ou5 fu5 ts ⟨da, dn, dc⟩ rows W → Calls Tryz.prog 28 #[.pointer (some ⟨b, 0, none⟩), .int .u8 124] W fun e w' => e = .returned (.bool false) ∧ LQ s b w i5 false ou5 fu5 ts ⟨da, dn, dc⟩ rows w' := fun W a => (take_no (c := 124) a.le a.ax.rd hc).mono fun _ _ h' => ⟨h'.1, a.bel h'.2.below⟩
        go_wp2_with (first
          | (go_at_call 28; (with_reducible refine (kN _ I5.out).mono ?_); rintro _ w7 ⟨rfl, a2⟩; have I7 : Hid (LQ s b w i5 false ou5 fu5 ts ⟨da, dn, dc⟩ rows w7) := a2; clear a2)
          | (go_at_call 33; refine (rmany_any (k := 3) (P := fun g => w.heap.size + 1 ≤ g ∧ g < w7.heap.size) I7.out.ax.rd (Or.inr rfl) (ok_list' (by have h1 := I7.out.len; have h2 := I7.out.le; have h3 := HS.out; omega) I7.out.rt) I7.out.rt (fun g hg => hg.2) (I7.out.ho 3)).mono ?_; rintro _ w8 ⟨⟨u0, ⟨u1, u2, u3⟩, u4, u5, u6⟩, rfl, ho8, ex8, b8⟩; have A8 : Hid (AQ s b w i5 false ou5 (fu5 || (singleM 3 ts).2) w8) := I7.out.ax.go ex8 b8; have H8 : Hid (HO (fun g => w.heap.size + 1 ≤ g ∧ g < w8.heap.size) w8 (singleM 3 ts).1 ⟨u0, ⟨u1, u2, u3⟩, u4, u5, u6⟩) := ho8.imp' (fun g hg => ⟨hg.1, Nat.lt_of_lt_of_le hg.2 ex8.size⟩); obtain ⟨y0, y1, y2⟩ := BlkT.cs A8.out.res; have z0 := A8.out.res.frozen; clear ho8 ex8 b8))
        refine bodyPost_ret (v := PC.v ⟨u0, ⟨u1, u2, u3⟩, ⟨u4, u5, u6⟩⟩) ?_ rfl (A8.out.fin H8.out (right_single _ _ I7.out.rt) L5.out I7.out.le (D5.out.fin hc) _ _ _)
        simp [results, Tryz.results29]
        have B := blk_put3 A8.out.res ⟨u0, ⟨u1, u2, u3⟩, ⟨u4, u5, u6⟩⟩
        simp only at B
        generalize hW7 : World.setCell _ _ _ = W7 at B ⊢
        exact run_ptv B
      | true =>
        have kY : ∀ W, LQ s b w i5 false ou5 fu5 ts ⟨da, dn, dc⟩ rows W → Calls Tryz.prog 28 #[.pointer (some ⟨b, 0, none⟩), .int .u8 124] W fun e w' => e = .returned (.bool true) ∧ LQ s b w (i5 + 1) false ou5 fu5 ts ⟨da, dn, dc⟩ rows w' := fun W a => (take_yes (c := 124) HS.out a.ax.rd hc).mono fun _ _ h' => ⟨h'.1, a.go h'.2.1 h'.2.2 (headIs_drop hc).2 (Nat.le_succ _)⟩
        have HLN : Hid (ts.length ≤ i5 + 4) := I5.out.len
        go_wp2_with (first
          | (go_at_call 28; (with_reducible refine (kY _ I5.out).mono ?_); rintro _ w7 ⟨rfl, a2⟩; have I7 : Hid (LQ s b w (i5 + 1) false ou5 fu5 ts ⟨da, dn, dc⟩ rows w7) := a2; have HR7 : Hid (∀ g, (Sl.v ⟨da, dn, dc⟩).ownBlock = some g → g < w7.heap.size) := fun g hg => (I7.out.row.lt hg).2; have HW7 : Hid (w.heap.size + 1 ≤ w7.heap.size) := I7.out.ax.res.lt; clear a2)
          | (go_at_call 51; refine (HKA.out (i5 + 1) false ou5 fu5 _ I7.out.le (by have h1 := HLm.out; have h2 := L5.out; have h3 := (headIs_drop hc).2; omega) I7.out.ax.rd).mono ?_; rintro _ w8 ⟨⟨u0, ⟨u1, u2, u3⟩, u4, u5, u6⟩, t8, i8, wr8, ou8, fu8, rfl, ho8, hk8, ex8, b8, le8, lf8, d8⟩; have I8 : Hid (LQ s b w i8 wr8 ou8 fu8 ts ⟨da, dn, dc⟩ rows w8) := I7.out.go ex8 b8 lf8 le8; have H8 : Hid (HO (fun g => w7.heap.size ≤ g ∧ g < w8.heap.size) w8 t8 ⟨u0, ⟨u1, u2, u3⟩, u4, u5, u6⟩) := ho8; have K8 : Hid (rightT t8 = true) := hk8; have D8 : Hid (DoesQ true s false ou5 fu5 (catM alt (s.data.toList.drop (i5 + 1))) t8 i8 wr8 ou8 fu8) := d8; have L8 : Hid ((i5 + 1) ≤ i8 ∧ i8 ≤ s.size) := ⟨le8, lf8⟩; clear ho8 hk8 ex8 b8 le8 lf8 d8)
          | (refine wp_appX info26 Tryz.underlying24 encT_len oneT rfl (by decide) (by decide) (by rfl) _ _ (by rfl) 0 (.slice da dn dc) rows (by rfl) ((I8.out.bel (bel_alloc _ (.cells (encT ⟨u0, ⟨u1, u2, u3⟩, u4, u5, u6⟩).toArray 26))).row) ⟨u0, ⟨u1, u2, u3⟩, u4, u5, u6⟩ w8.heap.size (by rfl) (encT ⟨u0, ⟨u1, u2, u3⟩, u4, u5, u6⟩).toArray (Blk.new _ _ _) (by rfl) (by have h1 := I8.out.rlen; have h2 := I8.out.le; have h3 := HS.out; omega) (Nat.zero_le _) ?_; intro g5 cap5 w9 ow9 gr9 hg9 _; have J9 : Hid (LQ s b w i8 wr8 ou8 fu8 (ts ++ [t8]) ⟨some ⟨g5, 0, none⟩, rows.length + 1, cap5⟩ (rows ++ [⟨u0, ⟨u1, u2, u3⟩, u4, u5, u6⟩]) w9) := (I8.out.bel (bel_alloc _ (.cells (encT ⟨u0, ⟨u1, u2, u3⟩, u4, u5, u6⟩).toArray 26))).step (H8.out.bel (bel_alloc _ _)) K8.out HW7.out HR7.out (by have h1 := HLN.out; have h2 := L8.out.1; omega) ow9 gr9 (by simpa using hg9); clear ow9 gr9 hg9))
        go_roundw
        case rel => exact ⟨i8, wr8, ou8, fu8, _, ⟨_, _, _⟩, _, rfl, J9, SepQ.step D5.out (by decide) hc D8.out L8.out.1 L8.out.2, by have h1 := L5.out; have h2 := L8.out.1; exact (by omega : i ≤ i8)⟩
        case measure => rw [posOf_blkQ J9.out.ax.rd, HP.out]; have h2 := L8.out; have h3 := (headIs_drop hc).2; omega

theorem wide {s : ByteArray} {wr ou fu : Bool} {m : Option Rd} {t : Tree} {i : Nat} {wr' ou' fu' : Bool} (h : DoesQ false s wr ou fu m t i wr' ou' fu') : DoesQ true s wr ou fu m t i wr' ou' fu' :=
  ⟨h.1, fun hw => (h.2 hw).imp (fun h => ⟨h.1, h.2.imp id (fun h => by cases h.1)⟩) id⟩
theorem item_zero {alt : Bs → Option Rd} {r : Bs} (h : headIs 0 r = true) : listM (itemM alt) 95 2 r = none := by
  cases r with
  | nil => cases h
  | cons c r =>
    rw [headIs_cons] at h
    have h : c = 0 := by simpa using h
    subst h
    unfold listM itemM
    rw [atomM, if_neg (by decide), if_neg (by decide), if_neg (by decide), if_neg (by decide), num_none (by decide)]
/-- Where no item begins. -/
theorem cat_stop {alt : Bs → Option Rd} {s : ByteArray} {i : Nat} (h : ((peekM (s.data.toList.drop i)).toNat = 0 ∨ (peekM (s.data.toList.drop i)).toNat = 124 ∨ (peekM (s.data.toList.drop i)).toNat = 41 ∨ (peekM (s.data.toList.drop i)).toNat = 36)) (wr ou fu : Bool) : DoesQ true s wr ou fu (catM alt (s.data.toList.drop i)) emT i wr ou fu := by
  refine ⟨id, fun hw => ?_⟩
  by_cases he : endsM (s.data.toList.drop i) = true
  · right
    refine ⟨⟨emT, false, false, s.data.toList.drop i⟩, ?_, hw, fun _ => rfl, rfl, by simp, by simp⟩
    unfold catM
    rw [if_pos he]
  · left
    have hz : headIs 0 (s.data.toList.drop i) = true := by
      cases e : s.data.toList.drop i with
      | nil => rw [e] at he; exact absurd rfl he
      | cons z r =>
        rw [e] at he h
        rw [headIs_cons]
        have h : z.toNat = 0 ∨ z.toNat = 124 ∨ z.toNat = 41 ∨ z.toNat = 36 := h
        simp [endsM] at he
        have key : ∀ n : Nat, n < 256 → z.toNat = n → z = UInt8.ofNat n := fun n hn e => by rw [← e]; simp
        rcases h with h | h | h | h
        · simp [key 0 (by decide) h]
        · exact absurd (key 124 (by decide) h) he.1.1
        · exact absurd (key 41 (by decide) h) he.1.2
        · exact absurd (key 36 (by decide) h) he.2
    refine ⟨?_, Or.inr ⟨rfl, hz⟩⟩
    unfold catM
    rw [if_neg he, item_zero hz]
theorem cat_go {alt : Bs → Option Rd} {r : Bs} (h0 : ¬ (peekM r).toNat = 0) (h1 : ¬ (peekM r).toNat = 124) (h2 : ¬ (peekM r).toNat = 41) (h3 : ¬ (peekM r).toNat = 36) : catM alt r = listM (itemM alt) 95 2 r := by
  unfold catM
  rw [if_neg]
  cases r with
  | nil => exact fun _ => h0 rfl
  | cons z r =>
    have h1 : ¬ z.toNat = 124 := h1
    have h2 : ¬ z.toNat = 41 := h2
    have h3 : ¬ z.toNat = 36 := h3
    simp [endsM]
    refine ⟨⟨?_, ?_⟩, ?_⟩ <;> (rintro rfl; simp at h1 h2 h3)

set_option maxRecDepth 100000 in
set_option maxHeartbeats 8000000 in
theorem qcat_any {s : ByteArray} {b n : Nat} {alt : Bs → Option Rd} (hs : s.size ≤ 3000) (ka : CQ s b 69 false (itemM alt) n) : CQ s b 51 true (catM alt) n := by
  intro i wr ou fu w hi hlim hb
  have HA := AQ.start hb
  have HS : Hid (s.size ≤ 3000) := hs
  have HLm : Hid (s.size - i < n) := hlim
  have HIi : Hid (i ≤ s.size) := hi
  have HKA : Hid (CQ s b 69 false (itemM alt) n) := ka
  have kp := fun (W : World) (h : BlkQ W b s i wr ou fu) => peek_any hi h
  have HD : Hid (((peekM (s.data.toList.drop i)).toNat = 0 ∨ (peekM (s.data.toList.drop i)).toNat = 124 ∨ (peekM (s.data.toList.drop i)).toNat = 41 ∨ (peekM (s.data.toList.drop i)).toNat = 36) → DoesQ true s wr ou fu (catM alt (s.data.toList.drop i)) emT i wr ou fu) := fun h => cat_stop h wr ou fu
  have HG : Hid (¬ (peekM (s.data.toList.drop i)).toNat = 0 → ¬ (peekM (s.data.toList.drop i)).toNat = 124 → ¬ (peekM (s.data.toList.drop i)).toNat = 41 → ¬ (peekM (s.data.toList.drop i)).toNat = 36 → catM alt (s.data.toList.drop i) = listM (itemM alt) 95 2 (s.data.toList.drop i)) := cat_go
  generalize hW : w.alloc (.cells #[.int .i64 0, .slice none 0 0, .slice none 0 0] 26) = W0 at HA
  have HI : Hid (AQ s b w i wr ou fu W0) := HA
  generalize (peekM (s.data.toList.drop i)).toNat = m at kp HD HG
  clear hb HA hi hs ka hlim
  by_cases c0 : m = 0
  case pos =>
    subst c0
    have HD2 := HD.out (by simp)
    go_enter Tryz.func51, Tryz.ntmps51
    go_upto_region 1 with fail
    clear hW
    go_wp2_with (go_at_call 68; refine (kp _ HI.out.rd).mono ?_; rintro _ w3 ⟨rfl, g3⟩; have I3 : Hid (AQ s b w i wr ou fu w3) := HI.out.bel g3.below; obtain ⟨y0, y1, y2⟩ := BlkT.cs I3.out.res; have z0 := I3.out.res.frozen; clear g3)
    refine bodyPost_ret (v := PC.v ⟨2, ⟨none, 0, 0⟩, ⟨none, 0, 0⟩⟩) ?_ rfl (I3.out.fin (HO_none 2) right_em (Nat.le_refl _) HIi.out HD2 _ _ _)
    simp [results, Tryz.results51]
    have B := blk_put3 I3.out.res ⟨2, ⟨none, 0, 0⟩, ⟨none, 0, 0⟩⟩
    simp only at B
    generalize hW7 : World.setCell _ _ _ = W7 at B ⊢
    exact run_ptv B
  case neg =>
  by_cases c1 : m = 124
  case pos =>
    subst c1
    have HD2 := HD.out (by simp)
    go_enter Tryz.func51, Tryz.ntmps51
    go_upto_region 1 with fail
    clear hW
    go_wp2_with (go_at_call 68; refine (kp _ HI.out.rd).mono ?_; rintro _ w3 ⟨rfl, g3⟩; have I3 : Hid (AQ s b w i wr ou fu w3) := HI.out.bel g3.below; obtain ⟨y0, y1, y2⟩ := BlkT.cs I3.out.res; have z0 := I3.out.res.frozen; clear g3)
    refine bodyPost_ret (v := PC.v ⟨2, ⟨none, 0, 0⟩, ⟨none, 0, 0⟩⟩) ?_ rfl (I3.out.fin (HO_none 2) right_em (Nat.le_refl _) HIi.out HD2 _ _ _)
    simp [results, Tryz.results51]
    have B := blk_put3 I3.out.res ⟨2, ⟨none, 0, 0⟩, ⟨none, 0, 0⟩⟩
    simp only at B
    generalize hW7 : World.setCell _ _ _ = W7 at B ⊢
    exact run_ptv B
  case neg =>
  by_cases c2 : m = 41
  case pos =>
    subst c2
    have HD2 := HD.out (by simp)
    go_enter Tryz.func51, Tryz.ntmps51
    go_upto_region 1 with fail
    clear hW
    go_wp2_with (go_at_call 68; refine (kp _ HI.out.rd).mono ?_; rintro _ w3 ⟨rfl, g3⟩; have I3 : Hid (AQ s b w i wr ou fu w3) := HI.out.bel g3.below; obtain ⟨y0, y1, y2⟩ := BlkT.cs I3.out.res; have z0 := I3.out.res.frozen; clear g3)
    refine bodyPost_ret (v := PC.v ⟨2, ⟨none, 0, 0⟩, ⟨none, 0, 0⟩⟩) ?_ rfl (I3.out.fin (HO_none 2) right_em (Nat.le_refl _) HIi.out HD2 _ _ _)
    simp [results, Tryz.results51]
    have B := blk_put3 I3.out.res ⟨2, ⟨none, 0, 0⟩, ⟨none, 0, 0⟩⟩
    simp only at B
    generalize hW7 : World.setCell _ _ _ = W7 at B ⊢
    exact run_ptv B
  case neg =>
  by_cases c3 : m = 36
  case pos =>
    subst c3
    have HD2 := HD.out (by simp)
    go_enter Tryz.func51, Tryz.ntmps51
    go_upto_region 1 with fail
    clear hW
    go_wp2_with (go_at_call 68; refine (kp _ HI.out.rd).mono ?_; rintro _ w3 ⟨rfl, g3⟩; have I3 : Hid (AQ s b w i wr ou fu w3) := HI.out.bel g3.below; obtain ⟨y0, y1, y2⟩ := BlkT.cs I3.out.res; have z0 := I3.out.res.frozen; clear g3)
    refine bodyPost_ret (v := PC.v ⟨2, ⟨none, 0, 0⟩, ⟨none, 0, 0⟩⟩) ?_ rfl (I3.out.fin (HO_none 2) right_em (Nat.le_refl _) HIi.out HD2 _ _ _)
    simp [results, Tryz.results51]
    have B := blk_put3 I3.out.res ⟨2, ⟨none, 0, 0⟩, ⟨none, 0, 0⟩⟩
    simp only at B
    generalize hW7 : World.setCell _ _ _ = W7 at B ⊢
    exact run_ptv B
  case neg =>
  rw [HG.out c0 c1 c2 c3]
  have e0 : ((m : Int) == 0) = false := by simpa using c0
  have e1 : ((m : Int) == 124) = false := by simp; omega
  have e2 : ((m : Int) == 41) = false := by simp; omega
  have e3 : ((m : Int) == 36) = false := by simp; omega
  clear c0 c1 c2 c3 HD HG
  go_enter Tryz.func51, Tryz.ntmps51
  go_upto_region 1 with fail
  clear hW
  go_wp2_with (first
    | (go_at_call 68; refine (kp _ HI.out.rd).mono ?_; rintro _ w3 ⟨rfl, g3⟩; have I3 : Hid (AQ s b w i wr ou fu w3) := HI.out.bel g3.below; clear g3)
    | (go_at_call 69; refine (HKA.out i wr ou fu _ HIi.out HLm.out I3.out.rd).mono ?_; rintro _ w4 ⟨⟨r0, ⟨r1, r2, r3⟩, r4, r5, r6⟩, t4, i4, wr4, ou4, fu4, rfl, ho4, hk4, ex4, b4, le4, le5, d4⟩; have I4 : Hid (LQ s b w i4 wr4 ou4 fu4 [t4] ⟨some ⟨w4.heap.size, 0, none⟩, 1, 1⟩ [⟨r0, ⟨r1, r2, r3⟩, r4, r5, r6⟩] (w4.alloc (.cells (encT ⟨r0, ⟨r1, r2, r3⟩, r4, r5, r6⟩).toArray 26))) := LQ.one (I3.out.go ex4 b4) (ho4.low (by have := I3.out.res.lt; omega)) hk4 le5; have D4 : Hid (SepQ false s wr ou fu (listM (itemM alt) 95 2 (s.data.toList.drop i)) (itemM alt) 95 2 [t4] i4 wr4 ou4 fu4) := SepQ.start d4; have L4 : Hid (i ≤ i4) := le4; clear ho4 hk4 ex4 b4 le4 le5 d4))
  clear HI kp e0 e1 e2 e3
  go_loopw [4] (fun v3 wr0 => ∃ (i5 : Nat) (wr5 ou5 fu5 : Bool) (ts : List Tree) (bs : Sl) (rows : List PC), v3 = .slice bs.a bs.n bs.c ∧ Hid (LQ s b w i5 wr5 ou5 fu5 ts bs rows wr0) ∧ Hid (SepQ false s wr ou fu (listM (itemM alt) 95 2 (s.data.toList.drop i)) (itemM alt) 95 2 ts i5 wr5 ou5 fu5) ∧ Hid (i ≤ i5)) (fun _ wr0 => s.size - posOf b wr0)
  case atStart => exact ⟨_, _, _, _, _, ⟨_, _, _⟩, _, rfl, I4, D4, L4⟩
  case round =>
    clear I4 D4 L4
    obtain ⟨i5, wr5, ou5, fu5, ts, ⟨da, dn, dc⟩, rows, rfl, I5, D5, L5⟩ := hrel
    have HP : Hid (posOf b _ = i5) := posOf_blkQ I5.out.ax.rd
    have c2 := I5.out.ax.rd.c 2
    simp at c2
    cases wr5 with
    | true =>
      go_wp2_with (go_at_call 33; refine (rmany_any (k := 2) (P := fun g => w.heap.size + 1 ≤ g ∧ g < wr.heap.size) I5.out.ax.rd (Or.inl rfl) (ok_list' (by have h1 := I5.out.len; have h2 := I5.out.le; have h3 := HS.out; omega) I5.out.rt) I5.out.rt (fun g hg => hg.2) (I5.out.ho 2)).mono ?_; rintro _ w8 ⟨⟨u0, ⟨u1, u2, u3⟩, u4, u5, u6⟩, rfl, ho8, ex8, b8⟩; have A8 : Hid (AQ s b w i5 true ou5 (fu5 || (singleM 2 ts).2) w8) := I5.out.ax.go ex8 b8; have H8 : Hid (HO (fun g => w.heap.size + 1 ≤ g ∧ g < w8.heap.size) w8 (singleM 2 ts).1 ⟨u0, ⟨u1, u2, u3⟩, u4, u5, u6⟩) := ho8.imp' (fun g hg => ⟨hg.1, Nat.lt_of_lt_of_le hg.2 ex8.size⟩); obtain ⟨y0, y1, y2⟩ := BlkT.cs A8.out.res; have z0 := A8.out.res.frozen; clear ho8 ex8 b8)
      refine bodyPost_ret (v := PC.v ⟨u0, ⟨u1, u2, u3⟩, ⟨u4, u5, u6⟩⟩) ?_ rfl (A8.out.fin H8.out (right_single _ _ I5.out.rt) L5.out I5.out.le (wide (D5.out.bad _ _)) _ _ _)
      simp [results, Tryz.results51]
      have B := blk_put3 A8.out.res ⟨u0, ⟨u1, u2, u3⟩, ⟨u4, u5, u6⟩⟩
      simp only at B
      generalize hW7 : World.setCell _ _ _ = W7 at B ⊢
      exact run_ptv B
    | false =>
      cases hc : headIs 95 (s.data.toList.drop i5) with
      | false =>
        have kN : ∀ W, LQ s b w i5 false ou5 fu5 ts ⟨da, dn, dc⟩ rows W → Calls Tryz.prog 28 #[.pointer (some ⟨b, 0, none⟩), .int .u8 95] W fun e w' => e = .returned (.bool false) ∧ LQ s b w i5 false ou5 fu5 ts ⟨da, dn, dc⟩ rows w' := fun W a => (take_no (c := 95) a.le a.ax.rd hc).mono fun _ _ h' => ⟨h'.1, a.bel h'.2.below⟩
        go_wp2_with (first
          | (go_at_call 28; (with_reducible refine (kN _ I5.out).mono ?_); rintro _ w7 ⟨rfl, a2⟩; have I7 : Hid (LQ s b w i5 false ou5 fu5 ts ⟨da, dn, dc⟩ rows w7) := a2; clear a2)
          | (go_at_call 33; refine (rmany_any (k := 2) (P := fun g => w.heap.size + 1 ≤ g ∧ g < w7.heap.size) I7.out.ax.rd (Or.inl rfl) (ok_list' (by have h1 := I7.out.len; have h2 := I7.out.le; have h3 := HS.out; omega) I7.out.rt) I7.out.rt (fun g hg => hg.2) (I7.out.ho 2)).mono ?_; rintro _ w8 ⟨⟨u0, ⟨u1, u2, u3⟩, u4, u5, u6⟩, rfl, ho8, ex8, b8⟩; have A8 : Hid (AQ s b w i5 false ou5 (fu5 || (singleM 2 ts).2) w8) := I7.out.ax.go ex8 b8; have H8 : Hid (HO (fun g => w.heap.size + 1 ≤ g ∧ g < w8.heap.size) w8 (singleM 2 ts).1 ⟨u0, ⟨u1, u2, u3⟩, u4, u5, u6⟩) := ho8.imp' (fun g hg => ⟨hg.1, Nat.lt_of_lt_of_le hg.2 ex8.size⟩); obtain ⟨y0, y1, y2⟩ := BlkT.cs A8.out.res; have z0 := A8.out.res.frozen; clear ho8 ex8 b8))
        refine bodyPost_ret (v := PC.v ⟨u0, ⟨u1, u2, u3⟩, ⟨u4, u5, u6⟩⟩) ?_ rfl (A8.out.fin H8.out (right_single _ _ I7.out.rt) L5.out I7.out.le (wide (D5.out.fin hc)) _ _ _)
        simp [results, Tryz.results51]
        have B := blk_put3 A8.out.res ⟨u0, ⟨u1, u2, u3⟩, ⟨u4, u5, u6⟩⟩
        simp only at B
        generalize hW7 : World.setCell _ _ _ = W7 at B ⊢
        exact run_ptv B
      | true =>
        have kY : ∀ W, LQ s b w i5 false ou5 fu5 ts ⟨da, dn, dc⟩ rows W → Calls Tryz.prog 28 #[.pointer (some ⟨b, 0, none⟩), .int .u8 95] W fun e w' => e = .returned (.bool true) ∧ LQ s b w (i5 + 1) false ou5 fu5 ts ⟨da, dn, dc⟩ rows w' := fun W a => (take_yes (c := 95) HS.out a.ax.rd hc).mono fun _ _ h' => ⟨h'.1, a.go h'.2.1 h'.2.2 (headIs_drop hc).2 (Nat.le_succ _)⟩
        have HLN : Hid (ts.length ≤ i5 + 4) := I5.out.len
        go_wp2_with (first
          | (go_at_call 28; (with_reducible refine (kY _ I5.out).mono ?_); rintro _ w7 ⟨rfl, a2⟩; have I7 : Hid (LQ s b w (i5 + 1) false ou5 fu5 ts ⟨da, dn, dc⟩ rows w7) := a2; have HR7 : Hid (∀ g, (Sl.v ⟨da, dn, dc⟩).ownBlock = some g → g < w7.heap.size) := fun g hg => (I7.out.row.lt hg).2; have HW7 : Hid (w.heap.size + 1 ≤ w7.heap.size) := I7.out.ax.res.lt; clear a2)
          | (go_at_call 69; refine (HKA.out (i5 + 1) false ou5 fu5 _ I7.out.le (by have h1 := HLm.out; have h2 := L5.out; have h3 := (headIs_drop hc).2; omega) I7.out.ax.rd).mono ?_; rintro _ w8 ⟨⟨u0, ⟨u1, u2, u3⟩, u4, u5, u6⟩, t8, i8, wr8, ou8, fu8, rfl, ho8, hk8, ex8, b8, le8, lf8, d8⟩; have I8 : Hid (LQ s b w i8 wr8 ou8 fu8 ts ⟨da, dn, dc⟩ rows w8) := I7.out.go ex8 b8 lf8 le8; have H8 : Hid (HO (fun g => w7.heap.size ≤ g ∧ g < w8.heap.size) w8 t8 ⟨u0, ⟨u1, u2, u3⟩, u4, u5, u6⟩) := ho8; have K8 : Hid (rightT t8 = true) := hk8; have D8 : Hid (DoesQ false s false ou5 fu5 (itemM alt (s.data.toList.drop (i5 + 1))) t8 i8 wr8 ou8 fu8) := d8; have L8 : Hid ((i5 + 1) ≤ i8 ∧ i8 ≤ s.size) := ⟨le8, lf8⟩; clear ho8 hk8 ex8 b8 le8 lf8 d8)
          | (refine wp_appX info26 Tryz.underlying24 encT_len oneT rfl (by decide) (by decide) (by rfl) _ _ (by rfl) 0 (.slice da dn dc) rows (by rfl) ((I8.out.bel (bel_alloc _ (.cells (encT ⟨u0, ⟨u1, u2, u3⟩, u4, u5, u6⟩).toArray 26))).row) ⟨u0, ⟨u1, u2, u3⟩, u4, u5, u6⟩ w8.heap.size (by rfl) (encT ⟨u0, ⟨u1, u2, u3⟩, u4, u5, u6⟩).toArray (Blk.new _ _ _) (by rfl) (by have h1 := I8.out.rlen; have h2 := I8.out.le; have h3 := HS.out; omega) (Nat.zero_le _) ?_; intro g5 cap5 w9 ow9 gr9 hg9 _; have J9 : Hid (LQ s b w i8 wr8 ou8 fu8 (ts ++ [t8]) ⟨some ⟨g5, 0, none⟩, rows.length + 1, cap5⟩ (rows ++ [⟨u0, ⟨u1, u2, u3⟩, u4, u5, u6⟩]) w9) := (I8.out.bel (bel_alloc _ (.cells (encT ⟨u0, ⟨u1, u2, u3⟩, u4, u5, u6⟩).toArray 26))).step (H8.out.bel (bel_alloc _ _)) K8.out HW7.out HR7.out (by have h1 := HLN.out; have h2 := L8.out.1; omega) ow9 gr9 (by simpa using hg9); clear ow9 gr9 hg9))
        go_roundw
        case rel => exact ⟨i8, wr8, ou8, fu8, _, ⟨_, _, _⟩, _, rfl, J9, SepQ.step D5.out (by decide) hc D8.out L8.out.1 L8.out.2, by have h1 := L5.out; have h2 := L8.out.1; exact (by omega : i ≤ i8)⟩
        case measure => rw [posOf_blkQ J9.out.ax.rd, HP.out]; have h2 := L8.out; have h3 := (headIs_drop hc).2; omega

/-- All of them together. -/
theorem qreads_all {s : ByteArray} {b : Nat} (hs : s.size ≤ 3000) : ∀ n, CQ s b 29 true (altN n) n
  | 0 => fun i wr ou fu W hi hlim _ => absurd hlim (by omega)
  | n + 1 => qalt_any hs (qcat_any hs (qitem_any hs (qatom_any hs (qreads_all hs n))))

end Go.Proofs.YtnohkbdmnalmcaaGreatDoor
