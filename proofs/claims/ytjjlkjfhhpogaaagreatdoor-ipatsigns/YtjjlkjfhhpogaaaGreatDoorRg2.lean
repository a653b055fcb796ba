/-
  The Ios dialect's reader, walks: alt, cat, all of them together, pattern, Parse.
-/
import Derived.Test.YtjjlkjfhhpogaaaGreatDoorRg1
import Derived.Test.YtjjlkjfhhpogaaaGreatDoorRj3
namespace Go.Proofs.YtjjlkjfhhpogaaaGreatDoor
open Go.RowKit

set_option maxRecDepth 100000 in
set_option maxHeartbeats 8000000 in
theorem alt_any {s : ByteArray} {b n : Nat} {alt : Bs → Option Rd} (hs : s.size ≤ 3000) (ka : CA s b 67 (catM alt) n) : CA s b 49 (altM alt) n := by
  intro i wr ou fu w hi hlim hb
  have HA := AX.start hb
  have HS : Hid (s.size ≤ 3000) := hs
  have HLm : Hid (s.size - i < n) := hlim
  have HIi : Hid (i ≤ s.size) := hi
  have HKA : Hid (CA s b 67 (catM alt) n) := ka
  have HM : Hid (altM alt (s.data.toList.drop i) = listM (catM alt) 124 3 (s.data.toList.drop i)) := rfl
  rw [HM.out]
  generalize hW : w.alloc (.cells #[.int .i64 0, .slice none 0 0, .slice none 0 0] 26) = W0 at HA
  have HI : Hid (AX s b w i wr ou fu W0) := HA
  clear hb HA hi hs ka hlim HM
  go_enter Tryz.func49, Tryz.ntmps49
  go_upto_region 1 with fail
  clear hW
  go_wp2_with (go_at_call 67; refine (HKA.out i wr ou fu _ HIi.out HLm.out HI.out.rd).mono ?_; rintro _ w4 ⟨⟨r0, ⟨r1, r2, r3⟩, r4, r5, r6⟩, t4, i4, wr4, ou4, fu4, rfl, ho4, hk4, ex4, b4, le4, le5, d4⟩; have I4 : Hid (LR s b w i4 wr4 ou4 fu4 [t4] ⟨some ⟨w4.heap.size, 0, none⟩, 1, 1⟩ [⟨r0, ⟨r1, r2, r3⟩, r4, r5, r6⟩] (w4.alloc (.cells (encT ⟨r0, ⟨r1, r2, r3⟩, r4, r5, r6⟩).toArray 26))) := LR.one (HI.out.go ex4 b4) (ho4.low (by have := HI.out.res.lt; omega)) hk4 le5; have D4 : Hid (SepD s wr ou fu (listM (catM alt) 124 3 (s.data.toList.drop i)) (catM alt) 124 3 [t4] i4 wr4 ou4 fu4) := SepD.start d4; have L4 : Hid (i ≤ i4) := le4; clear ho4 hk4 ex4 b4 le4 le5 d4)
  clear HI
  go_loopw [3] (fun v3 wr0 => ∃ (p : Nat) (wr5 ou5 fu5 : Bool) (ts : List Tree) (bs : Sl) (rows : List PC), v3 = .slice bs.a bs.n bs.c ∧ Hid (LR s b w p wr5 ou5 fu5 ts bs rows wr0) ∧ Hid (SepD s wr ou fu (listM (catM alt) 124 3 (s.data.toList.drop i)) (catM alt) 124 3 ts p wr5 ou5 fu5) ∧ Hid (i ≤ p)) (fun _ wr0 => s.size - posOf b wr0)
  case atStart => exact ⟨_, _, _, _, _, ⟨_, _, _⟩, _, rfl, I4, D4, L4⟩
  case round =>
    clear I4 D4 L4
    obtain ⟨p, wr5, ou5, fu5, ts, ⟨da, dn, dc⟩, rows, rfl, I5, D5, L5⟩ := hrel
    have HP : Hid (posOf b _ = p) := posOf_blk I5.out.ax.rd
    cases hc : headIs 124 (s.data.toList.drop p) with
    | false =>
      have kN : ∀ W, LR s b w p wr5 ou5 fu5 ts ⟨da, dn, dc⟩ rows W → Calls Tryz.prog 46 #[.pointer (some ⟨b, 0, none⟩), .int .u8 124] W fun e w' => e = .returned (.bool false) ∧ LR s b w p wr5 ou5 fu5 ts ⟨da, dn, dc⟩ rows w' := fun W a => (took_no (c := 124) a.le a.ax.rd hc).mono fun _ _ h' => ⟨h'.1, a.bel h'.2.below⟩
      go_wp2_with (first
        | (go_at_call 46; (with_reducible refine (kN _ I5.out).mono ?_); rintro _ w7 ⟨rfl, a2⟩; have I7 : Hid (LR s b w p wr5 ou5 fu5 ts ⟨da, dn, dc⟩ rows w7) := a2; clear a2)
        | (go_at_call 50; refine (joinedR_any (k := 3) (P := fun g => w.heap.size + 1 ≤ g ∧ g < w7.heap.size) I7.out.ax.rd (ok_list' (by have h1 := I7.out.len; have h2 := I7.out.le; have h3 := HS.out; omega) I7.out.rt) (fun g hg => hg.2) (I7.out.ho 3)).mono ?_; rintro _ w8 ⟨⟨u0, ⟨u1, u2, u3⟩, u4, u5, u6⟩, rfl, ho8, ex8, b8⟩; have A8 : Hid (AX s b w p wr5 ou5 (fu5 || (singleM 3 ts).2) w8) := I7.out.ax.go ex8 b8; have H8 : Hid (HO (fun g => w.heap.size + 1 ≤ g ∧ g < w8.heap.size) w8 (singleM 3 ts).1 ⟨u0, ⟨u1, u2, u3⟩, u4, u5, u6⟩) := ho8.imp' (fun g hg => ⟨hg.1, Nat.lt_of_lt_of_le hg.2 ex8.size⟩); obtain ⟨y0, y1, y2⟩ := BlkT.cs A8.out.res; have z0 := A8.out.res.frozen; clear ho8 ex8 b8))
      refine bodyPost_ret (v := PC.v ⟨u0, ⟨u1, u2, u3⟩, ⟨u4, u5, u6⟩⟩) ?_ rfl (A8.out.fin H8.out (right_single _ _ I7.out.rt) L5.out I7.out.le (D5.out.fin hc) _ _ _)
      simp [results, Tryz.results49]
      have B := blk_put3 A8.out.res ⟨u0, ⟨u1, u2, u3⟩, ⟨u4, u5, u6⟩⟩
      simp only at B
      generalize hW7 : World.setCell _ _ _ = W7 at B ⊢
      exact run_ptv B
    | true =>
      have hl7 := (headIs_drop hc).2
      have kY : ∀ W, LR s b w p wr5 ou5 fu5 ts ⟨da, dn, dc⟩ rows W → Calls Tryz.prog 46 #[.pointer (some ⟨b, 0, none⟩), .int .u8 124] W fun e w' => e = .returned (.bool true) ∧ LR s b w (p + 1) wr5 ou5 fu5 ts ⟨da, dn, dc⟩ rows w' := fun W a => (took_yes (c := 124) HS.out a.ax.rd hc).mono fun _ _ h' => ⟨h'.1, a.go h'.2.1 h'.2.2 hl7 (Nat.le_succ _)⟩
      have HLN : Hid (ts.length ≤ p + 4) := I5.out.len
      go_wp2_with (first
        | (go_at_call 46; (with_reducible refine (kY _ I5.out).mono ?_); rintro _ w7 ⟨rfl, a2⟩; have I7 : Hid (LR s b w (p + 1) wr5 ou5 fu5 ts ⟨da, dn, dc⟩ rows w7) := a2; have HR7 : Hid (∀ g, (Sl.v ⟨da, dn, dc⟩).ownBlock = some g → g < w7.heap.size) := fun g hg => (I7.out.row.lt hg).2; have HW7 : Hid (w.heap.size + 1 ≤ w7.heap.size) := I7.out.ax.res.lt; clear a2)
        | (go_at_call 67; refine (HKA.out (p + 1) wr5 ou5 fu5 _ I7.out.le (by have h1 := HLm.out; have h2 := L5.out; omega) I7.out.ax.rd).mono ?_; rintro _ w8 ⟨⟨u0, ⟨u1, u2, u3⟩, u4, u5, u6⟩, t8, i8, wr8, ou8, fu8, rfl, ho8, hk8, ex8, b8, le8, lf8, d8⟩; have I8 : Hid (LR s b w i8 wr8 ou8 fu8 ts ⟨da, dn, dc⟩ rows w8) := I7.out.go ex8 b8 lf8 le8; have H8 : Hid (HO (fun g => w7.heap.size ≤ g ∧ g < w8.heap.size) w8 t8 ⟨u0, ⟨u1, u2, u3⟩, u4, u5, u6⟩) := ho8; have K8 : Hid (rightT t8 = true) := hk8; have D8 : Hid (Does s wr5 ou5 fu5 (catM alt (s.data.toList.drop (p + 1))) t8 i8 wr8 ou8 fu8) := d8; have L8 : Hid ((p + 1) ≤ i8 ∧ i8 ≤ s.size) := ⟨le8, lf8⟩; clear ho8 hk8 ex8 b8 le8 lf8 d8)
        | (refine wp_appX info26 Tryz.underlying24 encT_len oneT rfl (by decide) (by decide) (by rfl) _ _ (by rfl) 0 (.slice da dn dc) rows (by rfl) ((I8.out.bel (bel_alloc _ (.cells (encT ⟨u0, ⟨u1, u2, u3⟩, u4, u5, u6⟩).toArray 26))).row) ⟨u0, ⟨u1, u2, u3⟩, u4, u5, u6⟩ w8.heap.size (by rfl) (encT ⟨u0, ⟨u1, u2, u3⟩, u4, u5, u6⟩).toArray (Blk.new _ _ _) (by rfl) (by have h1 := I8.out.rlen; have h2 := I8.out.le; have h3 := HS.out; omega) (Nat.zero_le _) ?_; intro g5 cap5 w9 ow9 gr9 hg9 _; have J9 : Hid (LR s b w i8 wr8 ou8 fu8 (ts ++ [t8]) ⟨some ⟨g5, 0, none⟩, rows.length + 1, cap5⟩ (rows ++ [⟨u0, ⟨u1, u2, u3⟩, u4, u5, u6⟩]) w9) := (I8.out.bel (bel_alloc _ (.cells (encT ⟨u0, ⟨u1, u2, u3⟩, u4, u5, u6⟩).toArray 26))).step (H8.out.bel (bel_alloc _ _)) K8.out HW7.out HR7.out (by have h1 := HLN.out; have h2 := L8.out.1; omega) ow9 gr9 (by simpa using hg9); clear ow9 gr9 hg9))
      go_roundw
      case rel => exact ⟨i8, wr8, ou8, fu8, _, ⟨_, _, _⟩, _, rfl, J9, SepD.step D5.out hc D8.out L8.out.1 L8.out.2, by have h1 := L5.out; have h2 := L8.out.1; exact (by omega : i ≤ i8)⟩
      case measure => rw [posOf_blk J9.out.ax.rd, HP.out]; have h2 := L8.out; omega

theorem single_nil : singleM 2 [] = (emT, false) := by
  show keptM emT = _
  unfold keptM
  rw [if_pos right_em]
theorem cat_end {alt : Bs → Option Rd} {s : ByteArray} {i : Nat} (he : endsM (s.data.toList.drop i) = true) (wr ou fu : Bool) : Does s wr ou fu (catM alt (s.data.toList.drop i)) (singleM 2 []).1 i wr ou (fu || (singleM 2 []).2) := by
  rw [single_nil]
  refine ⟨id, fun hw => Or.inr ⟨⟨emT, false, false, s.data.toList.drop i⟩, ?_, hw, rfl, rfl, by simp, by simp⟩⟩
  unfold catM
  rw [if_pos he]

set_option maxRecDepth 100000 in
set_option maxHeartbeats 8000000 in
theorem cat_any {s : ByteArray} {b n : Nat} {alt : Bs → Option Rd} (hs : s.size ≤ 3000) (ka : CA s b 83 (itemM alt) n) : CA s b 67 (catM alt) n := by
  intro i wr ou fu w hi hlim hb
  have HA := AX.start hb
  have HS : Hid (s.size ≤ 3000) := hs
  have HLm : Hid (s.size - i < n) := hlim
  have HIi : Hid (i ≤ s.size) := hi
  have HKA : Hid (CA s b 83 (itemM alt) n) := ka
  have kend := fun (q : Bool) (h : endsM (s.data.toList.drop i) = q) (W : World) (hr : BlkR W b s i wr ou fu) => ended_any hi hr h
  generalize hW : w.alloc (.cells #[.int .i64 0, .slice none 0 0, .slice none 0 0] 26) = W0 at HA
  have HI : Hid (AX s b w i wr ou fu W0) := HA
  clear hb HA hi hs ka hlim
  cases he : endsM (s.data.toList.drop i) with
  | true =>
    obtain ⟨ts, hts⟩ : ∃ ts : List Tree, ts = [] := ⟨_, rfl⟩
    obtain ⟨rows, hrows⟩ : ∃ rows : List PC, rows = [] := ⟨_, rfl⟩
    have I1 : Hid (LR s b w i wr ou fu ts ⟨none, 0, 0⟩ rows W0) := by rw [hts, hrows]; exact LR.nil HI.out HIi.out
    have HD : Hid (Does s wr ou fu (catM alt (s.data.toList.drop i)) (singleM 2 ts).1 i wr ou (fu || (singleM 2 ts).2)) := by rw [hts]; exact cat_end he wr ou fu
    have ke := kend true he
    clear kend he hts hrows HI
    go_enter Tryz.func67, Tryz.ntmps67
    go_upto_region 1 with fail
    clear hW
    go_wp2_with (first
      | (go_at_call 82; refine (ke _ I1.out.ax.rd).mono ?_; rintro _ w7 ⟨rfl, g7⟩; have I7 : Hid (LR s b w i wr ou fu ts ⟨none, 0, 0⟩ rows w7) := I1.out.bel g7.below; clear g7)
      | (go_at_call 50; refine (joinedR_any (k := 2) (P := fun g => w.heap.size + 1 ≤ g ∧ g < w7.heap.size) I7.out.ax.rd (ok_list' (by have h1 := I7.out.len; have h2 := I7.out.le; have h3 := HS.out; omega) I7.out.rt) (fun g hg => hg.2) (I7.out.ho 2)).mono ?_; rintro _ w8 ⟨⟨u0, ⟨u1, u2, u3⟩, u4, u5, u6⟩, rfl, ho8, ex8, b8⟩; have A8 : Hid (AX s b w i wr ou (fu || (singleM 2 ts).2) w8) := I7.out.ax.go ex8 b8; have H8 : Hid (HO (fun g => w.heap.size + 1 ≤ g ∧ g < w8.heap.size) w8 (singleM 2 ts).1 ⟨u0, ⟨u1, u2, u3⟩, u4, u5, u6⟩) := ho8.imp' (fun g hg => ⟨hg.1, Nat.lt_of_lt_of_le hg.2 ex8.size⟩); obtain ⟨y0, y1, y2⟩ := BlkT.cs A8.out.res; have z0 := A8.out.res.frozen; clear ho8 ex8 b8))
    refine bodyPost_ret (v := PC.v ⟨u0, ⟨u1, u2, u3⟩, ⟨u4, u5, u6⟩⟩) ?_ rfl (A8.out.fin H8.out (right_single _ _ I7.out.rt) (Nat.le_refl _) I7.out.le HD.out _ _ _)
    simp [results, Tryz.results67]
    have B := blk_put3 A8.out.res ⟨u0, ⟨u1, u2, u3⟩, ⟨u4, u5, u6⟩⟩
    simp only at B
    generalize hW7 : World.setCell _ _ _ = W7 at B ⊢
    exact run_ptv B
  | false =>
    have HM2 : Hid (catM alt (s.data.toList.drop i) = listM (itemM alt) 95 2 (s.data.toList.drop i)) := by show _ = _; unfold catM; rw [if_neg (by rw [he]; decide)]
    rw [HM2.out]
    have ke := kend false he
    clear HM2 kend he
    go_enter Tryz.func67, Tryz.ntmps67
    go_upto_region 1 with fail
    clear hW
    go_upto_region 3 with (go_at_call 82; refine (ke _ HI.out.rd).mono ?_; rintro _ w7 ⟨rfl, g7⟩; have I0 : Hid (LR s b w i wr ou fu [] ⟨none, 0, 0⟩ [] w7) := LR.nil (HI.out.bel g7.below) HIi.out; clear g7)
    clear ke HI
    obtain ⟨ts, hts⟩ : ∃ ts : List Tree, ts = [] := ⟨_, rfl⟩
    obtain ⟨rows, hrows⟩ : ∃ rows : List PC, rows = [] := ⟨_, rfl⟩
    obtain ⟨da, hda⟩ : ∃ da : Option Addr, da = none := ⟨_, rfl⟩
    obtain ⟨dn, hdn⟩ : ∃ dn : Nat, dn = 0 := ⟨_, rfl⟩
    obtain ⟨dc, hdc⟩ : ∃ dc : Nat, dc = 0 := ⟨_, rfl⟩
    have I7 : Hid (LR s b w i wr ou fu ts ⟨da, dn, dc⟩ rows w7) := by rw [hts, hrows, hda, hdn, hdc]; exact I0.out
    have HTS : Hid (ts = []) := hts
    have HR7 : Hid (∀ g, (Sl.v ⟨da, dn, dc⟩).ownBlock = some g → g < w7.heap.size) := fun g hg => (I7.out.row.lt hg).2
    have HW7 : Hid (w.heap.size + 1 ≤ w7.heap.size) := I7.out.ax.res.lt
    have HLN : Hid (ts.length ≤ i) := by show _ ≤ _; rw [hts]; exact Nat.zero_le _
    have L5 : Hid (i ≤ i) := Nat.le_refl _
    have hsl : Value.slice none 0 0 = .slice da dn dc := by rw [hda, hdn, hdc]
    rw [hsl]
    clear I0 hts hrows hda hdn hdc hsl
    go_wp2_with (first
      | (go_at_call 83; refine (HKA.out i wr ou fu _ I7.out.le (by have h1 := HLm.out; have h2 := L5.out; omega) I7.out.ax.rd).mono ?_; rintro _ w8 ⟨⟨u0, ⟨u1, u2, u3⟩, u4, u5, u6⟩, t8, i8, wr8, ou8, fu8, rfl, ho8, hk8, ex8, b8, le8, lf8, d8⟩; have I8 : Hid (LR s b w i8 wr8 ou8 fu8 ts ⟨da, dn, dc⟩ rows w8) := I7.out.go ex8 b8 lf8 le8; have H8 : Hid (HO (fun g => w7.heap.size ≤ g ∧ g < w8.heap.size) w8 t8 ⟨u0, ⟨u1, u2, u3⟩, u4, u5, u6⟩) := ho8; have K8 : Hid (rightT t8 = true) := hk8; have D8 : Hid (Does s wr ou fu (itemM alt (s.data.toList.drop i)) t8 i8 wr8 ou8 fu8) := d8; have L8 : Hid (i ≤ i8 ∧ i8 ≤ s.size) := ⟨le8, lf8⟩; clear ho8 hk8 ex8 b8 le8 lf8 d8)
      | (refine wp_appX info26 Tryz.underlying24 encT_len oneT rfl (by decide) (by decide) (by rfl) _ _ (by rfl) 0 (.slice da dn dc) rows (by rfl) ((I8.out.bel (bel_alloc _ (.cells (encT ⟨u0, ⟨u1, u2, u3⟩, u4, u5, u6⟩).toArray 26))).row) ⟨u0, ⟨u1, u2, u3⟩, u4, u5, u6⟩ w8.heap.size (by rfl) (encT ⟨u0, ⟨u1, u2, u3⟩, u4, u5, u6⟩).toArray (Blk.new _ _ _) (by rfl) (by have h1 := I8.out.rlen; have h2 := I8.out.le; have h3 := HS.out; omega) (Nat.zero_le _) ?_; intro g5 cap5 w9 ow9 gr9 hg9 _; have J9 : Hid (LR s b w i8 wr8 ou8 fu8 (ts ++ [t8]) ⟨some ⟨g5, 0, none⟩, rows.length + 1, cap5⟩ (rows ++ [⟨u0, ⟨u1, u2, u3⟩, u4, u5, u6⟩]) w9) := (I8.out.bel (bel_alloc _ (.cells (encT ⟨u0, ⟨u1, u2, u3⟩, u4, u5, u6⟩).toArray 26))).step (H8.out.bel (bel_alloc _ _)) K8.out HW7.out HR7.out (by have h1 := HLN.out; have h2 := L8.out.1; omega) ow9 gr9 (by simpa using hg9); clear ow9 gr9 hg9))
    have I4 : Hid (LR s b w i8 wr8 ou8 fu8 ([] ++ [t8]) ⟨some ⟨g5, 0, none⟩, rows.length + 1, cap5⟩ (rows ++ [⟨u0, ⟨u1, u2, u3⟩, u4, u5, u6⟩]) w9) := by have h := J9.out; rw [HTS.out] at h; exact h
    have D4 : Hid (SepD s wr ou fu (listM (itemM alt) 95 2 (s.data.toList.drop i)) (itemM alt) 95 2 ([] ++ [t8]) i8 wr8 ou8 fu8) := SepD.start D8.out
    have L4 : Hid (i ≤ i8) := L8.out.1
    clear I7 HTS HR7 HW7 HLN L5 I8 H8 K8 D8 L8 J9
    go_loopw [3] (fun v3 wr0 => ∃ (p : Nat) (wr5 ou5 fu5 : Bool) (ts : List Tree) (bs : Sl) (rows : List PC), v3 = .slice bs.a bs.n bs.c ∧ Hid (LR s b w p wr5 ou5 fu5 ts bs rows wr0) ∧ Hid (SepD s wr ou fu (listM (itemM alt) 95 2 (s.data.toList.drop i)) (itemM alt) 95 2 ts p wr5 ou5 fu5) ∧ Hid (i ≤ p)) (fun _ wr0 => s.size - posOf b wr0)
    case atStart => exact ⟨_, _, _, _, _, ⟨_, _, _⟩, _, rfl, I4, D4, L4⟩
    case round =>
      clear I4 D4 L4
      obtain ⟨p, wr5, ou5, fu5, ts, ⟨da, dn, dc⟩, rows, rfl, I5, D5, L5⟩ := hrel
      have HP : Hid (posOf b _ = p) := posOf_blk I5.out.ax.rd
      cases hc : headIs 95 (s.data.toList.drop p) with
      | false =>
        have kN : ∀ W, LR s b w p wr5 ou5 fu5 ts ⟨da, dn, dc⟩ rows W → Calls Tryz.prog 46 #[.pointer (some ⟨b, 0, none⟩), .int .u8 95] W fun e w' => e = .returned (.bool false) ∧ LR s b w p wr5 ou5 fu5 ts ⟨da, dn, dc⟩ rows w' := fun W a => (took_no (c := 95) a.le a.ax.rd hc).mono fun _ _ h' => ⟨h'.1, a.bel h'.2.below⟩
        go_wp2_with (first
          | (go_at_call 46; (with_reducible refine (kN _ I5.out).mono ?_); rintro _ w7 ⟨rfl, a2⟩; have I7 : Hid (LR s b w p wr5 ou5 fu5 ts ⟨da, dn, dc⟩ rows w7) := a2; clear a2)
          | (go_at_call 50; refine (joinedR_any (k := 2) (P := fun g => w.heap.size + 1 ≤ g ∧ g < w7.heap.size) I7.out.ax.rd (ok_list' (by have h1 := I7.out.len; have h2 := I7.out.le; have h3 := HS.out; omega) I7.out.rt) (fun g hg => hg.2) (I7.out.ho 2)).mono ?_; rintro _ w8 ⟨⟨u0, ⟨u1, u2, u3⟩, u4, u5, u6⟩, rfl, ho8, ex8, b8⟩; have A8 : Hid (AX s b w p wr5 ou5 (fu5 || (singleM 2 ts).2) w8) := I7.out.ax.go ex8 b8; have H8 : Hid (HO (fun g => w.heap.size + 1 ≤ g ∧ g < w8.heap.size) w8 (singleM 2 ts).1 ⟨u0, ⟨u1, u2, u3⟩, u4, u5, u6⟩) := ho8.imp' (fun g hg => ⟨hg.1, Nat.lt_of_lt_of_le hg.2 ex8.size⟩); obtain ⟨y0, y1, y2⟩ := BlkT.cs A8.out.res; have z0 := A8.out.res.frozen; clear ho8 ex8 b8))
        refine bodyPost_ret (v := PC.v ⟨u0, ⟨u1, u2, u3⟩, ⟨u4, u5, u6⟩⟩) ?_ rfl (A8.out.fin H8.out (right_single _ _ I7.out.rt) L5.out I7.out.le (D5.out.fin hc) _ _ _)
        simp [results, Tryz.results67]
        have B := blk_put3 A8.out.res ⟨u0, ⟨u1, u2, u3⟩, ⟨u4, u5, u6⟩⟩
        simp only at B
        generalize hW7 : World.setCell _ _ _ = W7 at B ⊢
        exact run_ptv B
      | true =>
        have hl7 := (headIs_drop hc).2
        have kY : ∀ W, LR s b w p wr5 ou5 fu5 ts ⟨da, dn, dc⟩ rows W → Calls Tryz.prog 46 #[.pointer (some ⟨b, 0, none⟩), .int .u8 95] W fun e w' => e = .returned (.bool true) ∧ LR s b w (p + 1) wr5 ou5 fu5 ts ⟨da, dn, dc⟩ rows w' := fun W a => (took_yes (c := 95) HS.out a.ax.rd hc).mono fun _ _ h' => ⟨h'.1, a.go h'.2.1 h'.2.2 hl7 (Nat.le_succ _)⟩
        have HLN : Hid (ts.length ≤ p + 4) := I5.out.len
        go_wp2_with (first
          | (go_at_call 46; (with_reducible refine (kY _ I5.out).mono ?_); rintro _ w7 ⟨rfl, a2⟩; have I7 : Hid (LR s b w (p + 1) wr5 ou5 fu5 ts ⟨da, dn, dc⟩ rows w7) := a2; have HR7 : Hid (∀ g, (Sl.v ⟨da, dn, dc⟩).ownBlock = some g → g < w7.heap.size) := fun g hg => (I7.out.row.lt hg).2; have HW7 : Hid (w.heap.size + 1 ≤ w7.heap.size) := I7.out.ax.res.lt; clear a2)
          | (go_at_call 83; refine (HKA.out (p + 1) wr5 ou5 fu5 _ I7.out.le (by have h1 := HLm.out; have h2 := L5.out; omega) I7.out.ax.rd).mono ?_; rintro _ w8 ⟨⟨u0, ⟨u1, u2, u3⟩, u4, u5, u6⟩, t8, i8, wr8, ou8, fu8, rfl, ho8, hk8, ex8, b8, le8, lf8, d8⟩; have I8 : Hid (LR s b w i8 wr8 ou8 fu8 ts ⟨da, dn, dc⟩ rows w8) := I7.out.go ex8 b8 lf8 le8; have H8 : Hid (HO (fun g => w7.heap.size ≤ g ∧ g < w8.heap.size) w8 t8 ⟨u0, ⟨u1, u2, u3⟩, u4, u5, u6⟩) := ho8; have K8 : Hid (rightT t8 = true) := hk8; have D8 : Hid (Does s wr5 ou5 fu5 (itemM alt (s.data.toList.drop (p + 1))) t8 i8 wr8 ou8 fu8) := d8; have L8 : Hid ((p + 1) ≤ i8 ∧ i8 ≤ s.size) := ⟨le8, lf8⟩; clear ho8 hk8 ex8 b8 le8 lf8 d8)
          | (refine wp_appX info26 Tryz.underlying24 encT_len oneT rfl (by decide) (by decide) (by rfl) _ _ (by rfl) 0 (.slice da dn dc) rows (by rfl) ((I8.out.bel (bel_alloc _ (.cells (encT ⟨u0, ⟨u1, u2, u3⟩, u4, u5, u6⟩).toArray 26))).row) ⟨u0, ⟨u1, u2, u3⟩, u4, u5, u6⟩ w8.heap.size (by rfl) (encT ⟨u0, ⟨u1, u2, u3⟩, u4, u5, u6⟩).toArray (Blk.new _ _ _) (by rfl) (by have h1 := I8.out.rlen; have h2 := I8.out.le; have h3 := HS.out; omega) (Nat.zero_le _) ?_; intro g5 cap5 w9 ow9 gr9 hg9 _; have J9 : Hid (LR s b w i8 wr8 ou8 fu8 (ts ++ [t8]) ⟨some ⟨g5, 0, none⟩, rows.length + 1, cap5⟩ (rows ++ [⟨u0, ⟨u1, u2, u3⟩, u4, u5, u6⟩]) w9) := (I8.out.bel (bel_alloc _ (.cells (encT ⟨u0, ⟨u1, u2, u3⟩, u4, u5, u6⟩).toArray 26))).step (H8.out.bel (bel_alloc _ _)) K8.out HW7.out HR7.out (by have h1 := HLN.out; have h2 := L8.out.1; omega) ow9 gr9 (by simpa using hg9); clear ow9 gr9 hg9))
        go_roundw
        case rel => exact ⟨i8, wr8, ou8, fu8, _, ⟨_, _, _⟩, _, rfl, J9, SepD.step D5.out hc D8.out L8.out.1 L8.out.2, by have h1 := L5.out; have h2 := L8.out.1; exact (by omega : i ≤ i8)⟩
        case measure => rw [posOf_blk J9.out.ax.rd, HP.out]; have h2 := L8.out; omega

/-- All of them together. -/
theorem reads_all {s : ByteArray} {b : Nat} (hs : s.size ≤ 3000) : ∀ n, CA s b 49 (altN n) n
  | 0 => fun i wr ou fu W hi hlim _ => absurd hlim (by omega)
  | n + 1 => alt_any hs (cat_any hs (item_any hs (atom_any hs (reads_all hs n))))

theorem kept_stAll : keptM (stT allT) = (stT allT, false) := by unfold keptM; rw [if_pos right_stAll]
theorem single_whole (b e : Bool) (x : Tree) : singleM 2 (wholeL b e x) = wholeM b e x := by
  cases b <;> cases e <;> rfl
theorem tailIf_drop (s : ByteArray) (c : UInt8) (i : Nat) : tailIf (headIs c (s.data.toList.drop i)) (s.data.toList.drop i) = s.data.toList.drop (if headIs c (s.data.toList.drop i) = true then i + 1 else i) := by
  cases h : headIs c (s.data.toList.drop i) with
  | true =>
    have := (headIs_drop h).1
    simp only [tailIf, if_true]
    rw [this]; rfl
  | false => simp [tailIf]

/-- What pattern comes to. -/
def PatD (s : ByteArray) (t : Tree) (i : Nat) (wr ou fu : Bool) : Prop :=
  (altN (s.size + 1) (tailIf (headIs 94 (s.data.toList.drop 0)) (s.data.toList.drop 0)) = none ∧ wr = true) ∨
  ∃ x, altN (s.size + 1) (tailIf (headIs 94 (s.data.toList.drop 0)) (s.data.toList.drop 0)) = some x ∧ wr = false ∧ s.data.toList.drop i = tailIf (headIs 36 x.r) x.r ∧ t = (wholeM (headIs 94 (s.data.toList.drop 0)) (headIs 36 x.r) x.t).1 ∧ ou = x.o ∧ fu = (x.f || (wholeM (headIs 94 (s.data.toList.drop 0)) (headIs 36 x.r) x.t).2)
theorem pat_does {s : ByteArray} {i1 i4 i6 : Nat} {q1 q6 : Bool} {t4 : Tree} {wr4 ou4 fu4 : Bool} (hq1 : headIs 94 (s.data.toList.drop 0) = q1) (hi1 : i1 = if q1 = true then 0 + 1 else 0) (hd : Does s false false false (altN (s.size + 1) (s.data.toList.drop i1)) t4 i4 wr4 ou4 fu4) (hq6 : headIs 36 (s.data.toList.drop i4) = q6) (hi6 : i6 = if q6 = true then i4 + 1 else i4) : PatD s (singleM 2 (wholeL q1 q6 t4)).1 i6 wr4 ou4 (fu4 || (singleM 2 (wholeL q1 q6 t4)).2) := by
  rw [single_whole]
  have e1 := tailIf_drop s 94 0
  rw [hq1, ← hi1] at e1
  unfold PatD
  rw [hq1, e1]
  rcases hd.2 rfl with ⟨h1, h2⟩ | ⟨x, h1, h2, h3, h4, h5, h6⟩
  · exact Or.inl ⟨h1, h2⟩
  · right
    have e2 := tailIf_drop s 36 i4
    rw [hq6, ← hi6] at e2
    rw [h4] at hq6 e2
    simp at h5 h6
    refine ⟨x, h1, h2, ?_, ?_, h5, ?_⟩
    · rw [hq6, e2]
    · rw [hq6, h3]
    · rw [hq6, h3, h6]
theorem done_ios {s : ByteArray} {t : Tree} {i : Nat} {wr ou fu : Bool} (h2 : ¬ 2000 < s.size) (hi : i ≤ s.size) (h : PatD s t i wr ou fu) : doneM s i wr ou fu t = parseM s.data.toList := by
  have hlen : s.data.toList.length = s.size := by rw [Array.length_toList]; rfl
  unfold doneM parseM patM
  rw [hlen, if_neg h2]
  unfold PatD at h
  rw [List.drop_zero] at h
  rcases h with ⟨h3, h4⟩ | ⟨x, h3, h4, h5, h6, h7, h8⟩
  · rw [h3, if_pos (Or.inl h4)]
  · rw [h3]
    simp only
    have e := drop_len (s := s) i
    rw [h5] at e
    by_cases hr : tailIf (headIs 36 x.r) x.r = []
    · rw [hr] at e
      have : ¬ i < s.size := by simp at e; omega
      rw [if_neg (show ¬ (wr = true ∨ i < s.size) by simp [h4, this]), if_pos hr]
      simp only
      rw [h7, h8, h6]
    · have : i < s.size := by
        rcases Nat.lt_or_ge i s.size with h | h
        · exact h
        · exact absurd (List.length_eq_zero_iff.1 (by omega)) hr
      rw [if_pos (Or.inr this), if_neg hr]

/-- What pattern comes to, in memory. -/
def PatP (s : ByteArray) (b : Nat) (w : World) (e : Ending) (w' : World) : Prop :=
  ∃ (r : PC) (t : Tree) (i' : Nat) (wr' ou' fu' : Bool), e = .returned r.v ∧ HO (fun g => w.heap.size ≤ g ∧ g < w'.heap.size) w' t r ∧ rightT t = true ∧ Ex b w w' ∧ BlkR w' b s i' wr' ou' fu' ∧ i' ≤ s.size ∧ PatD s t i' wr' ou' fu'
theorem AX.finP {s : ByteArray} {b : Nat} {w : World} {i : Nat} {wr ou fu : Bool} {W : World} (h : AX s b w i wr ou fu W) {t : Tree} {r : PC} (hr : HO (fun g => w.heap.size + 1 ≤ g ∧ g < W.heap.size) W t r) (hk : rightT t = true) (h2 : i ≤ s.size) (hd : PatD s t i wr ou fu) (v0 v1 v2 : Value) :
    PatP s b w (.returned r.v) (((W.setCell ⟨w.heap.size, 0, none⟩ v0).setCell ⟨w.heap.size, 1, none⟩ v1).setCell ⟨w.heap.size, 2, none⟩ v2) :=
  ⟨r, t, i, wr, ou, fu, rfl, HO.same (fun g hg => ⟨by omega, by simpa using hg.2⟩) (fun g hg => heap_set3 (by omega) _ _ _) hr, hk, set3_ex h.ex (Nat.le_refl _) _ _ _, h.rd.set3 (by have := h.lt; omega) _ _ _, h2, hd⟩
theorem LR.drew {s : ByteArray} {b : Nat} {w : World} {i : Nat} {wr ou fu : Bool} {ts : List Tree} {bs : Sl} {rows : List PC} {W : World} (h : LR s b w i wr ou fu ts bs rows W) (n : Nat) : LR s b w i wr ou fu ts bs rows (W.drewN n) := h.bel (below_drewN (Below.refl _ _) n)

set_option maxRecDepth 100000 in
set_option maxHeartbeats 8000000 in
theorem pattern_any {s : ByteArray} {b : Nat} {w : World} (hs : s.size ≤ 3000) (hb : BlkR w b s 0 false false false) :
    Calls Tryz.prog 27 #[.pointer (some ⟨b, 0, none⟩)] w fun e w' => PatP s b w e w' := by
  have HA := AX.start hb
  have HS : Hid (s.size ≤ 3000) := hs
  have HAll : Hid (CA s b 49 (altN (s.size + 1)) (s.size + 1)) := reads_all hs _
  have kn := fun W => any_any W
  generalize hW : w.alloc (.cells #[.int .i64 0, .slice none 0 0, .slice none 0 0] 26) = W0 at HA
  have HI : Hid (AX s b w 0 false false false W0) := HA
  clear hb HA hs
  cases h94 : headIs 94 (s.data.toList.drop 0) with
  | true =>
    have k94 : ∀ W, AX s b w 0 false false false W → Calls Tryz.prog 46 #[.pointer (some ⟨b, 0, none⟩), .int .u8 94] W fun e w' => e = .returned (.bool true) ∧ AX s b w (0 + 1) false false false w' := fun W a => (took_yes (c := 94) HS.out a.rd h94).mono fun _ _ h => ⟨h.1, a.go h.2.1 h.2.2⟩
    go_enter Tryz.func27, Tryz.ntmps27
    go_upto_region 1 with fail
    clear hW
    go_upto_region 4 with (go_at_call 46; (with_reducible refine (k94 _ HI.out).mono ?_); rintro _ w7 ⟨rfl, a7⟩; have I0 : Hid (LR s b w (0 + 1) false false false [] ⟨none, 0, 0⟩ [] w7) := LR.nil a7 (headIs_drop h94).2; clear a7)
    clear k94 HI
    obtain ⟨ts, hts⟩ : ∃ ts : List Tree, ts = [] := ⟨_, rfl⟩
    obtain ⟨rows, hrows⟩ : ∃ rows : List PC, rows = [] := ⟨_, rfl⟩
    obtain ⟨da, hda⟩ : ∃ da : Option Addr, da = none := ⟨_, rfl⟩
    obtain ⟨dn, hdn⟩ : ∃ dn : Nat, dn = 0 := ⟨_, rfl⟩
    obtain ⟨dc, hdc⟩ : ∃ dc : Nat, dc = 0 := ⟨_, rfl⟩
    have I2 : Hid (LR s b w (0 + 1) false false false ts ⟨da, dn, dc⟩ rows w7) := by rw [hts, hrows, hda, hdn, hdc]; exact I0.out
    have hsl : Value.slice none 0 0 = .slice da dn dc := by rw [hda, hdn, hdc]
    have HTS : Hid (∀ q6 t, wholeL true q6 t = ts ++ [t] ++ (if q6 then [] else [stT allT])) := by show ∀ _, _; intro q6 t; rw [hts]; cases q6 <;> rfl
    have HLN : Hid (ts.length ≤ 1) := by show _ ≤ _; rw [hts]; exact Nat.zero_le _
    obtain ⟨i1, hi1⟩ : ∃ i1 : Nat, i1 = 0 + 1 := ⟨_, rfl⟩
    have HI1 : Hid (i1 = if true = true then 0 + 1 else 0) := hi1
    rw [← hi1] at I2
    rw [hsl]
    clear I0 hts hrows hda hdn hdc hsl hi1
    have h94' := h94
    have HR7 : Hid (∀ g, (Sl.v ⟨da, dn, dc⟩).ownBlock = some g → g < w7.heap.size) := fun g hg => (I2.out.row.lt hg).2
    have HW7 : Hid (w.heap.size + 1 ≤ w7.heap.size) := I2.out.ax.res.lt
    have HL1 : Hid (i1 ≤ s.size) := I2.out.le
    go_upto_region 5 with (first
      | (go_at_call 49; refine (HAll.out i1 false false false _ HL1.out (by omega) I2.out.ax.rd).mono ?_; rintro _ w8 ⟨⟨u0, ⟨u1, u2, u3⟩, u4, u5, u6⟩, t8, i8, wr8, ou8, fu8, rfl, ho8, hk8, ex8, b8, le8, lf8, d8⟩; have I8 : Hid (LR s b w i8 wr8 ou8 fu8 ts ⟨da, dn, dc⟩ rows w8) := I2.out.go ex8 b8 lf8 le8; have H8 : Hid (HO (fun g => w7.heap.size ≤ g ∧ g < w8.heap.size) w8 t8 ⟨u0, ⟨u1, u2, u3⟩, u4, u5, u6⟩) := ho8; have K8 : Hid (rightT t8 = true) := hk8; have D8 : Hid (Does s false false false (altN (s.size + 1) (s.data.toList.drop i1)) t8 i8 wr8 ou8 fu8) := d8; have L8 : Hid (i1 ≤ i8 ∧ i8 ≤ s.size) := ⟨le8, lf8⟩; clear ho8 hk8 ex8 b8 le8 lf8 d8)
      | (refine wp_appX info26 Tryz.underlying24 encT_len oneT rfl (by decide) (by decide) (by rfl) _ _ (by rfl) 0 (.slice da dn dc) rows (by rfl) ((I8.out.bel (bel_alloc _ (.cells (encT ⟨u0, ⟨u1, u2, u3⟩, u4, u5, u6⟩).toArray 26))).row) ⟨u0, ⟨u1, u2, u3⟩, u4, u5, u6⟩ w8.heap.size (by rfl) (encT ⟨u0, ⟨u1, u2, u3⟩, u4, u5, u6⟩).toArray (Blk.new _ _ _) (by rfl) (by have h1 := I8.out.rlen; have h2 := I8.out.le; have h3 := HS.out; omega) (Nat.zero_le _) ?_; intro g5 cap5 w9 ow9 gr9 hg9 _; have J9 : Hid (LR s b w i8 wr8 ou8 fu8 (ts ++ [t8]) ⟨some ⟨g5, 0, none⟩, rows.length + 1, cap5⟩ (rows ++ [⟨u0, ⟨u1, u2, u3⟩, u4, u5, u6⟩]) w9) := (I8.out.bel (bel_alloc _ (.cells (encT ⟨u0, ⟨u1, u2, u3⟩, u4, u5, u6⟩).toArray 26))).step (H8.out.bel (bel_alloc _ _)) K8.out HW7.out HR7.out (by have h1 := HLN.out; omega) ow9 gr9 (by simpa using hg9); clear ow9 gr9 hg9))
    clear I2 HR7 HW7 HL1 I8 H8 K8
    obtain ⟨da, hda⟩ : ∃ da : Option Addr, da = some ⟨g5, 0, none⟩ := ⟨_, rfl⟩
    obtain ⟨dn, hdn⟩ : ∃ dn : Nat, dn = rows.length + 1 := ⟨_, rfl⟩
    have J10 := J9.out
    rw [← hda, ← hdn] at J10
    rw [← hda, ← hdn]
    clear hda hdn J9
    generalize rows ++ [⟨u0, ⟨u1, u2, u3⟩, u4, u5, u6⟩] = rows at *
    generalize w9 = w7 at *
    generalize cap5 = dc at *
    have I2 : Hid (LR s b w i8 wr8 ou8 fu8 (ts ++ [t8]) ⟨da, dn, dc⟩ rows w7) := J10
    clear J10
    cases h36 : headIs 36 (s.data.toList.drop i8) with
    | true =>
      have k36 : ∀ W, LR s b w i8 wr8 ou8 fu8 (ts ++ [t8]) ⟨da, dn, dc⟩ rows W → Calls Tryz.prog 46 #[.pointer (some ⟨b, 0, none⟩), .int .u8 36] W fun e w' => e = .returned (.bool true) ∧ LR s b w (i8 + 1) wr8 ou8 fu8 (ts ++ [t8]) ⟨da, dn, dc⟩ rows w' := fun W a => (took_yes (c := 36) HS.out a.ax.rd h36).mono fun _ _ h' => ⟨h'.1, a.go h'.2.1 h'.2.2 (headIs_drop h36).2 (Nat.le_succ _)⟩
      have HPD : Hid (PatD s (singleM 2 (ts ++ [t8])).1 (i8 + 1) wr8 ou8 (fu8 || (singleM 2 (ts ++ [t8])).2)) := by
        have h := pat_does h94' HI1.out D8.out h36 rfl
        rw [HTS.out, if_pos rfl, if_pos rfl, List.append_nil] at h
        exact h
      generalize ts ++ [t8] = tl at *
      go_wp2_with (first
        | (go_at_call 46; (with_reducible refine (k36 _ I2.out).mono ?_); rintro _ wa ⟨rfl, a2⟩; have I7 : Hid (LR s b w (i8 + 1) wr8 ou8 fu8 tl ⟨da, dn, dc⟩ rows wa) := a2; clear a2)
        | (go_at_call 50; refine (joinedR_any (k := 2) (P := fun g => w.heap.size + 1 ≤ g ∧ g < wa.heap.size) I7.out.ax.rd (ok_list' (by have h1 := I7.out.len; have h2 := I7.out.le; have h3 := HS.out; omega) I7.out.rt) (fun g hg => hg.2) (I7.out.ho 2)).mono ?_; rintro _ wb ⟨⟨p0, ⟨p1, p2, p3⟩, p4, p5, p6⟩, rfl, ho8, ex8, b8⟩; have A8 : Hid (AX s b w (i8 + 1) wr8 ou8 (fu8 || (singleM 2 tl).2) wb) := I7.out.ax.go ex8 b8; have H8 : Hid (HO (fun g => w.heap.size + 1 ≤ g ∧ g < wb.heap.size) wb (singleM 2 tl).1 ⟨p0, ⟨p1, p2, p3⟩, p4, p5, p6⟩) := ho8.imp' (fun g hg => ⟨hg.1, Nat.lt_of_lt_of_le hg.2 ex8.size⟩); obtain ⟨y0, y1, y2⟩ := BlkT.cs A8.out.res; have z0 := A8.out.res.frozen; clear ho8 ex8 b8))
      refine bodyPost_ret (v := PC.v ⟨p0, ⟨p1, p2, p3⟩, ⟨p4, p5, p6⟩⟩) ?_ rfl (A8.out.finP H8.out (right_single _ _ I7.out.rt) I7.out.le HPD.out _ _ _)
      simp [results, Tryz.results27]
      have B := blk_put3 A8.out.res ⟨p0, ⟨p1, p2, p3⟩, ⟨p4, p5, p6⟩⟩
      simp only at B
      generalize hW7 : World.setCell _ _ _ = W7 at B ⊢
      exact run_ptv B
    | false =>
      have k36 : ∀ W, LR s b w i8 wr8 ou8 fu8 (ts ++ [t8]) ⟨da, dn, dc⟩ rows W → Calls Tryz.prog 46 #[.pointer (some ⟨b, 0, none⟩), .int .u8 36] W fun e w' => e = .returned (.bool false) ∧ LR s b w i8 wr8 ou8 fu8 (ts ++ [t8]) ⟨da, dn, dc⟩ rows w' := fun W a => (took_no (c := 36) a.le a.ax.rd h36).mono fun _ _ h' => ⟨h'.1, a.bel h'.2.below⟩
      have HPD : Hid (PatD s (singleM 2 ((ts ++ [t8]) ++ [stT allT])).1 i8 wr8 ou8 (fu8 || (singleM 2 ((ts ++ [t8]) ++ [stT allT])).2)) := by
        have h := pat_does h94' HI1.out D8.out h36 rfl
        rw [HTS.out] at h
        exact h
      have HLN2 : Hid ((ts ++ [t8]).length + 1 ≤ i8 + 4) := by show _ ≤ _; have := HLN.out; simp; omega
      generalize ts ++ [t8] = tl at *
      clear HTS HLN
      go_upto_region 6 with (go_at_call 46; (with_reducible refine (k36 _ I2.out).mono ?_); rintro _ wa ⟨rfl, a2⟩; have I7 : Hid (LR s b w i8 wr8 ou8 fu8 tl ⟨da, dn, dc⟩ rows wa) := a2; clear a2)
      clear I2 k36
      generalize wa = w7 at *
      have I2 := I7
      clear I7
      have HR7 : Hid (∀ g, (Sl.v ⟨da, dn, dc⟩).ownBlock = some g → g < w7.heap.size) := fun g hg => (I2.out.row.lt hg).2
      have HW7 : Hid (w.heap.size + 1 ≤ w7.heap.size) := I2.out.ax.res.lt
      go_region_law
        (first
            | (go_simp; go_at_call 48; refine (kn _).mono ?_; rintro _ w3 ⟨⟨r0, ⟨r1, r2, r3⟩, r4, r5, r6⟩, rfl, ho3, bb3⟩; have I3 : Hid (LR s b w i8 wr8 ou8 fu8 tl ⟨da, dn, dc⟩ rows w3) := (I2.out.drew 1).bel bb3; have H3 : Hid (HO (fun g => w7.heap.size ≤ g ∧ g < w3.heap.size) w3 allT ⟨r0, ⟨r1, r2, r3⟩, r4, r5, r6⟩) := ho3.low (by simp); have N3 : Hid (w7.heap.size ≤ w3.heap.size) := bb3.size; clear ho3 bb3)
            | (go_simp; go_at_call 47; refine (starR_P (P := fun g => w7.heap.size ≤ g ∧ g < w3.heap.size) I3.out.ax.rd right_all (fun g hg => hg.2) H3.out).mono ?_; rintro _ wc ⟨⟨v0, ⟨v1, v2, v3⟩, v4, v5, v6⟩, rfl, ho8, ex8, sz8, b8⟩; rw [kept_stAll] at ho8 b8; simp only [Bool.or_false] at b8; have I8 : Hid (LR s b w i8 wr8 ou8 fu8 tl ⟨da, dn, dc⟩ rows wc) := I3.out.go ex8 b8 I3.out.le (Nat.le_refl _); have H8 : Hid (HO (fun g => w7.heap.size ≤ g ∧ g < wc.heap.size) wc (stT allT) ⟨v0, ⟨v1, v2, v3⟩, v4, v5, v6⟩) := ho8.imp' (by intro g hg; have h4 := ex8.size; have h5 := N3.out; rcases hg with hg | hg <;> omega); clear ho8 ex8 sz8 b8)
            | (refine step_appT (by rfl) _ _ (by rfl) 0 (.slice da dn dc) rows (by rfl) (I8.out.row.alloc _) ⟨v0, ⟨v1, v2, v3⟩, v4, v5, v6⟩ wc.heap.size (by rfl) (Blk.new' _ _ _ _ (by simp)) (by have h1 := I8.out.rlen; have h2 := I8.out.le; have h3 := HS.out; omega) (Nat.zero_le _) (wc.heap.size + 1) (by simp) ?_; intro g5 cap5 w9 ow9 gr9 hg9; have I9 : Hid (LR s b w i8 wr8 ou8 fu8 (tl ++ [stT allT]) ⟨some ⟨g5, 0, none⟩, rows.length + 1, cap5⟩ (rows ++ [⟨v0, ⟨v1, v2, v3⟩, v4, v5, v6⟩]) w9) := (I8.out.bel (bel_alloc _ (.cells (encT ⟨v0, ⟨v1, v2, v3⟩, v4, v5, v6⟩).toArray 26))).step (H8.out.bel (bel_alloc _ _)) right_stAll HW7.out HR7.out (by have h1 := HLN2.out; omega) ow9 gr9 (by simpa using hg9); clear ow9 gr9 hg9))
      all_goals
        have I7' := I9.out
        clear I2 I3 I8 I9 HR7 HW7 H3 H8
        generalize tl ++ [stT allT] = tm at *
        generalize rows ++ [⟨v0, ⟨v1, v2, v3⟩, v4, v5, v6⟩] = rows2 at *
        have I7 : Hid (LR s b w i8 wr8 ou8 fu8 tm ⟨some ⟨g5, 0, none⟩, rows.length + 1, cap5⟩ rows2 w9) := I7'
        clear I7'
        go_wp2_with (go_at_call 50; refine (joinedR_any (k := 2) (P := fun g => w.heap.size + 1 ≤ g ∧ g < w9.heap.size) I7.out.ax.rd (ok_list' (by have h1 := I7.out.len; have h2 := I7.out.le; have h3 := HS.out; omega) I7.out.rt) (fun g hg => hg.2) (I7.out.ho 2)).mono ?_; rintro _ wb ⟨⟨p0, ⟨p1, p2, p3⟩, p4, p5, p6⟩, rfl, ho8, ex8, b8⟩; have A8 : Hid (AX s b w i8 wr8 ou8 (fu8 || (singleM 2 tm).2) wb) := I7.out.ax.go ex8 b8; have H8 : Hid (HO (fun g => w.heap.size + 1 ≤ g ∧ g < wb.heap.size) wb (singleM 2 tm).1 ⟨p0, ⟨p1, p2, p3⟩, p4, p5, p6⟩) := ho8.imp' (fun g hg => ⟨hg.1, Nat.lt_of_lt_of_le hg.2 ex8.size⟩); obtain ⟨y0, y1, y2⟩ := BlkT.cs A8.out.res; have z0 := A8.out.res.frozen; clear ho8 ex8 b8)
        refine bodyPost_ret (v := PC.v ⟨p0, ⟨p1, p2, p3⟩, ⟨p4, p5, p6⟩⟩) ?_ rfl (A8.out.finP H8.out (right_single _ _ I7.out.rt) I7.out.le HPD.out _ _ _)
        simp [results, Tryz.results27]
        have B := blk_put3 A8.out.res ⟨p0, ⟨p1, p2, p3⟩, ⟨p4, p5, p6⟩⟩
        simp only at B
        generalize hW7 : World.setCell _ _ _ = W7 at B ⊢
        exact run_ptv B
  | false =>
    have k94 : ∀ W, AX s b w 0 false false false W → Calls Tryz.prog 46 #[.pointer (some ⟨b, 0, none⟩), .int .u8 94] W fun e w' => e = .returned (.bool false) ∧ AX s b w 0 false false false w' := fun W a => (took_no (c := 94) (Nat.zero_le _) a.rd h94).mono fun _ _ h => ⟨h.1, a.bel h.2.below⟩
    go_enter Tryz.func27, Tryz.ntmps27
    go_upto_region 1 with fail
    clear hW
    go_upto_region 3 with (go_at_call 46; (with_reducible refine (k94 _ HI.out).mono ?_); rintro _ w7 ⟨rfl, a7⟩; have I0 : Hid (LR s b w 0 false false false [] ⟨none, 0, 0⟩ [] w7) := LR.nil a7 (Nat.zero_le _); clear a7)
    clear k94 HI
    obtain ⟨ts, hts⟩ : ∃ ts : List Tree, ts = [] := ⟨_, rfl⟩
    obtain ⟨rows, hrows⟩ : ∃ rows : List PC, rows = [] := ⟨_, rfl⟩
    obtain ⟨da, hda⟩ : ∃ da : Option Addr, da = none := ⟨_, rfl⟩
    obtain ⟨dn, hdn⟩ : ∃ dn : Nat, dn = 0 := ⟨_, rfl⟩
    obtain ⟨dc, hdc⟩ : ∃ dc : Nat, dc = 0 := ⟨_, rfl⟩
    have I2 : Hid (LR s b w 0 false false false ts ⟨da, dn, dc⟩ rows w7) := by rw [hts, hrows, hda, hdn, hdc]; exact I0.out
    have hsl : Value.slice none 0 0 = .slice da dn dc := by rw [hda, hdn, hdc]
    have HTS0 : Hid (ts = []) := hts
    have HLN0 : Hid (ts.length ≤ 0) := by show _ ≤ _; rw [hts]; exact Nat.zero_le _
    have HR7 : Hid (∀ g, (Sl.v ⟨da, dn, dc⟩).ownBlock = some g → g < w7.heap.size) := fun g hg => (I2.out.row.lt hg).2
    have HW7 : Hid (w.heap.size + 1 ≤ w7.heap.size) := I2.out.ax.res.lt
    rw [hsl]
    clear I0 hts hrows hda hdn hdc hsl
    go_region_law
      (first
        | (go_simp; go_at_call 48; refine (kn _).mono ?_; rintro _ w3 ⟨⟨r0, ⟨r1, r2, r3⟩, r4, r5, r6⟩, rfl, ho3, bb3⟩; have I3 : Hid (LR s b w 0 false false false ts ⟨da, dn, dc⟩ rows w3) := (I2.out.drew 1).bel bb3; have H3 : Hid (HO (fun g => w7.heap.size ≤ g ∧ g < w3.heap.size) w3 allT ⟨r0, ⟨r1, r2, r3⟩, r4, r5, r6⟩) := ho3.low (by simp); have N3 : Hid (w7.heap.size ≤ w3.heap.size) := bb3.size; clear ho3 bb3)
        | (go_simp; go_at_call 47; refine (starR_P (P := fun g => w7.heap.size ≤ g ∧ g < w3.heap.size) I3.out.ax.rd right_all (fun g hg => hg.2) H3.out).mono ?_; rintro _ w8 ⟨⟨u0, ⟨u1, u2, u3⟩, u4, u5, u6⟩, rfl, ho8, ex8, sz8, b8⟩; rw [kept_stAll] at ho8 b8; simp only [Bool.or_false] at b8; have I8 : Hid (LR s b w 0 false false false ts ⟨da, dn, dc⟩ rows w8) := I3.out.go ex8 b8 I3.out.le (Nat.le_refl _); have H8 : Hid (HO (fun g => w7.heap.size ≤ g ∧ g < w8.heap.size) w8 (stT allT) ⟨u0, ⟨u1, u2, u3⟩, u4, u5, u6⟩) := ho8.imp' (by intro g hg; have h4 := ex8.size; have h5 := N3.out; rcases hg with hg | hg <;> omega); clear ho8 ex8 sz8 b8)
        | (refine step_appT (by rfl) _ _ (by rfl) 0 (.slice da dn dc) rows (by rfl) (I8.out.row.alloc _) ⟨u0, ⟨u1, u2, u3⟩, u4, u5, u6⟩ w8.heap.size (by rfl) (Blk.new' _ _ _ _ (by simp)) (by have h1 := I8.out.rlen; have h2 := I8.out.le; have h3 := HS.out; omega) (Nat.zero_le _) (w8.heap.size + 1) (by simp) ?_; intro g5 cap5 w9 ow9 gr9 hg9; have I9 : Hid (LR s b w 0 false false false (ts ++ [stT allT]) ⟨some ⟨g5, 0, none⟩, rows.length + 1, cap5⟩ (rows ++ [⟨u0, ⟨u1, u2, u3⟩, u4, u5, u6⟩]) w9) := (I8.out.bel (bel_alloc _ (.cells (encT ⟨u0, ⟨u1, u2, u3⟩, u4, u5, u6⟩).toArray 26))).step (H8.out.bel (bel_alloc _ _)) right_stAll HW7.out HR7.out (by have h1 := HLN0.out; omega) ow9 gr9 (by simpa using hg9); clear ow9 gr9 hg9))
    all_goals
      have HTS : Hid (∀ q6 t, wholeL false q6 t = (ts ++ [stT allT]) ++ [t] ++ (if q6 then [] else [stT allT])) := by show ∀ _, _; intro q6 t; rw [HTS0.out]; cases q6 <;> rfl
      have HLN : Hid ((ts ++ [stT allT]).length ≤ 1) := by show _ ≤ _; rw [List.length_append]; have := HLN0.out; simp only [List.length_cons, List.length_nil]; omega
      have HI1 : Hid (0 = if false = true then 0 + 1 else 0) := rfl
      have I2' := I9.out
      clear HTS0 HLN0 I2 I3 I8 I9 HR7 HW7 H3 H8
      generalize ts ++ [stT allT] = ts at *
      obtain ⟨da, hda⟩ : ∃ da : Option Addr, da = some ⟨g5, 0, none⟩ := ⟨_, rfl⟩
      obtain ⟨dn, hdn⟩ : ∃ dn : Nat, dn = rows.length + 1 := ⟨_, rfl⟩
      rw [← hda, ← hdn] at I2'
      rw [← hda, ← hdn]
      clear hda hdn
      generalize rows ++ [⟨u0, ⟨u1, u2, u3⟩, u4, u5, u6⟩] = rows at *
      generalize w9 = w7 at *
      generalize cap5 = dc at *
      obtain ⟨i1, hi1⟩ : ∃ i1 : Nat, i1 = 0 := ⟨_, rfl⟩
      rw [← hi1] at I2'
      have HI1 : Hid (i1 = if false = true then 0 + 1 else 0) := hi1
      have I2 : Hid (LR s b w i1 false false false ts ⟨da, dn, dc⟩ rows w7) := I2'
      clear hi1 I2'
      have h94' := h94
      have HR7 : Hid (∀ g, (Sl.v ⟨da, dn, dc⟩).ownBlock = some g → g < w7.heap.size) := fun g hg => (I2.out.row.lt hg).2
      have HW7 : Hid (w.heap.size + 1 ≤ w7.heap.size) := I2.out.ax.res.lt
      have HL1 : Hid (i1 ≤ s.size) := I2.out.le
      go_upto_region 5 with (first
        | (go_at_call 49; refine (HAll.out i1 false false false _ HL1.out (by omega) I2.out.ax.rd).mono ?_; rintro _ w8 ⟨⟨u0, ⟨u1, u2, u3⟩, u4, u5, u6⟩, t8, i8, wr8, ou8, fu8, rfl, ho8, hk8, ex8, b8, le8, lf8, d8⟩; have I8 : Hid (LR s b w i8 wr8 ou8 fu8 ts ⟨da, dn, dc⟩ rows w8) := I2.out.go ex8 b8 lf8 le8; have H8 : Hid (HO (fun g => w7.heap.size ≤ g ∧ g < w8.heap.size) w8 t8 ⟨u0, ⟨u1, u2, u3⟩, u4, u5, u6⟩) := ho8; have K8 : Hid (rightT t8 = true) := hk8; have D8 : Hid (Does s false false false (altN (s.size + 1) (s.data.toList.drop i1)) t8 i8 wr8 ou8 fu8) := d8; have L8 : Hid (i1 ≤ i8 ∧ i8 ≤ s.size) := ⟨le8, lf8⟩; clear ho8 hk8 ex8 b8 le8 lf8 d8)
        | (refine wp_appX info26 Tryz.underlying24 encT_len oneT rfl (by decide) (by decide) (by rfl) _ _ (by rfl) 0 (.slice da dn dc) rows (by rfl) ((I8.out.bel (bel_alloc _ (.cells (encT ⟨u0, ⟨u1, u2, u3⟩, u4, u5, u6⟩).toArray 26))).row) ⟨u0, ⟨u1, u2, u3⟩, u4, u5, u6⟩ w8.heap.size (by rfl) (encT ⟨u0, ⟨u1, u2, u3⟩, u4, u5, u6⟩).toArray (Blk.new _ _ _) (by rfl) (by have h1 := I8.out.rlen; have h2 := I8.out.le; have h3 := HS.out; omega) (Nat.zero_le _) ?_; intro g5 cap5 w9 ow9 gr9 hg9 _; have J9 : Hid (LR s b w i8 wr8 ou8 fu8 (ts ++ [t8]) ⟨some ⟨g5, 0, none⟩, rows.length + 1, cap5⟩ (rows ++ [⟨u0, ⟨u1, u2, u3⟩, u4, u5, u6⟩]) w9) := (I8.out.bel (bel_alloc _ (.cells (encT ⟨u0, ⟨u1, u2, u3⟩, u4, u5, u6⟩).toArray 26))).step (H8.out.bel (bel_alloc _ _)) K8.out HW7.out HR7.out (by have h1 := HLN.out; omega) ow9 gr9 (by simpa using hg9); clear ow9 gr9 hg9))
      clear I2 HR7 HW7 HL1 I8 H8 K8
      obtain ⟨da, hda⟩ : ∃ da : Option Addr, da = some ⟨g5, 0, none⟩ := ⟨_, rfl⟩
      obtain ⟨dn, hdn⟩ : ∃ dn : Nat, dn = rows.length + 1 := ⟨_, rfl⟩
      have J10 := J9.out
      rw [← hda, ← hdn] at J10
      rw [← hda, ← hdn]
      clear hda hdn J9
      generalize rows ++ [⟨u0, ⟨u1, u2, u3⟩, u4, u5, u6⟩] = rows at *
      generalize w9 = w7 at *
      generalize cap5 = dc at *
      have I2 : Hid (LR s b w i8 wr8 ou8 fu8 (ts ++ [t8]) ⟨da, dn, dc⟩ rows w7) := J10
      clear J10
      cases h36 : headIs 36 (s.data.toList.drop i8) with
      | true =>
        have k36 : ∀ W, LR s b w i8 wr8 ou8 fu8 (ts ++ [t8]) ⟨da, dn, dc⟩ rows W → Calls Tryz.prog 46 #[.pointer (some ⟨b, 0, none⟩), .int .u8 36] W fun e w' => e = .returned (.bool true) ∧ LR s b w (i8 + 1) wr8 ou8 fu8 (ts ++ [t8]) ⟨da, dn, dc⟩ rows w' := fun W a => (took_yes (c := 36) HS.out a.ax.rd h36).mono fun _ _ h' => ⟨h'.1, a.go h'.2.1 h'.2.2 (headIs_drop h36).2 (Nat.le_succ _)⟩
        have HPD : Hid (PatD s (singleM 2 (ts ++ [t8])).1 (i8 + 1) wr8 ou8 (fu8 || (singleM 2 (ts ++ [t8])).2)) := by
          have h := pat_does h94' HI1.out D8.out h36 rfl
          rw [HTS.out, if_pos rfl, if_pos rfl, List.append_nil] at h
          exact h
        generalize ts ++ [t8] = tl at *
        go_wp2_with (first
          | (go_at_call 46; (with_reducible refine (k36 _ I2.out).mono ?_); rintro _ wa ⟨rfl, a2⟩; have I7 : Hid (LR s b w (i8 + 1) wr8 ou8 fu8 tl ⟨da, dn, dc⟩ rows wa) := a2; clear a2)
          | (go_at_call 50; refine (joinedR_any (k := 2) (P := fun g => w.heap.size + 1 ≤ g ∧ g < wa.heap.size) I7.out.ax.rd (ok_list' (by have h1 := I7.out.len; have h2 := I7.out.le; have h3 := HS.out; omega) I7.out.rt) (fun g hg => hg.2) (I7.out.ho 2)).mono ?_; rintro _ wb ⟨⟨p0, ⟨p1, p2, p3⟩, p4, p5, p6⟩, rfl, ho8, ex8, b8⟩; have A8 : Hid (AX s b w (i8 + 1) wr8 ou8 (fu8 || (singleM 2 tl).2) wb) := I7.out.ax.go ex8 b8; have H8 : Hid (HO (fun g => w.heap.size + 1 ≤ g ∧ g < wb.heap.size) wb (singleM 2 tl).1 ⟨p0, ⟨p1, p2, p3⟩, p4, p5, p6⟩) := ho8.imp' (fun g hg => ⟨hg.1, Nat.lt_of_lt_of_le hg.2 ex8.size⟩); obtain ⟨y0, y1, y2⟩ := BlkT.cs A8.out.res; have z0 := A8.out.res.frozen; clear ho8 ex8 b8))
        refine bodyPost_ret (v := PC.v ⟨p0, ⟨p1, p2, p3⟩, ⟨p4, p5, p6⟩⟩) ?_ rfl (A8.out.finP H8.out (right_single _ _ I7.out.rt) I7.out.le HPD.out _ _ _)
        simp [results, Tryz.results27]
        have B := blk_put3 A8.out.res ⟨p0, ⟨p1, p2, p3⟩, ⟨p4, p5, p6⟩⟩
        simp only at B
        generalize hW7 : World.setCell _ _ _ = W7 at B ⊢
        exact run_ptv B
      | false =>
        have k36 : ∀ W, LR s b w i8 wr8 ou8 fu8 (ts ++ [t8]) ⟨da, dn, dc⟩ rows W → Calls Tryz.prog 46 #[.pointer (some ⟨b, 0, none⟩), .int .u8 36] W fun e w' => e = .returned (.bool false) ∧ LR s b w i8 wr8 ou8 fu8 (ts ++ [t8]) ⟨da, dn, dc⟩ rows w' := fun W a => (took_no (c := 36) a.le a.ax.rd h36).mono fun _ _ h' => ⟨h'.1, a.bel h'.2.below⟩
        have HPD : Hid (PatD s (singleM 2 ((ts ++ [t8]) ++ [stT allT])).1 i8 wr8 ou8 (fu8 || (singleM 2 ((ts ++ [t8]) ++ [stT allT])).2)) := by
          have h := pat_does h94' HI1.out D8.out h36 rfl
          rw [HTS.out] at h
          exact h
        have HLN2 : Hid ((ts ++ [t8]).length + 1 ≤ i8 + 4) := by show _ ≤ _; have := HLN.out; simp; omega
        generalize ts ++ [t8] = tl at *
        clear HTS HLN
        go_upto_region 6 with (go_at_call 46; (with_reducible refine (k36 _ I2.out).mono ?_); rintro _ wa ⟨rfl, a2⟩; have I7 : Hid (LR s b w i8 wr8 ou8 fu8 tl ⟨da, dn, dc⟩ rows wa) := a2; clear a2)
        clear I2 k36
        generalize wa = w7 at *
        have I2 := I7
        clear I7
        have HR7 : Hid (∀ g, (Sl.v ⟨da, dn, dc⟩).ownBlock = some g → g < w7.heap.size) := fun g hg => (I2.out.row.lt hg).2
        have HW7 : Hid (w.heap.size + 1 ≤ w7.heap.size) := I2.out.ax.res.lt
        go_region_law
          (first
              | (go_simp; go_at_call 48; refine (kn _).mono ?_; rintro _ w3 ⟨⟨r0, ⟨r1, r2, r3⟩, r4, r5, r6⟩, rfl, ho3, bb3⟩; have I3 : Hid (LR s b w i8 wr8 ou8 fu8 tl ⟨da, dn, dc⟩ rows w3) := (I2.out.drew 1).bel bb3; have H3 : Hid (HO (fun g => w7.heap.size ≤ g ∧ g < w3.heap.size) w3 allT ⟨r0, ⟨r1, r2, r3⟩, r4, r5, r6⟩) := ho3.low (by simp); have N3 : Hid (w7.heap.size ≤ w3.heap.size) := bb3.size; clear ho3 bb3)
              | (go_simp; go_at_call 47; refine (starR_P (P := fun g => w7.heap.size ≤ g ∧ g < w3.heap.size) I3.out.ax.rd right_all (fun g hg => hg.2) H3.out).mono ?_; rintro _ wc ⟨⟨v0, ⟨v1, v2, v3⟩, v4, v5, v6⟩, rfl, ho8, ex8, sz8, b8⟩; rw [kept_stAll] at ho8 b8; simp only [Bool.or_false] at b8; have I8 : Hid (LR s b w i8 wr8 ou8 fu8 tl ⟨da, dn, dc⟩ rows wc) := I3.out.go ex8 b8 I3.out.le (Nat.le_refl _); have H8 : Hid (HO (fun g => w7.heap.size ≤ g ∧ g < wc.heap.size) wc (stT allT) ⟨v0, ⟨v1, v2, v3⟩, v4, v5, v6⟩) := ho8.imp' (by intro g hg; have h4 := ex8.size; have h5 := N3.out; rcases hg with hg | hg <;> omega); clear ho8 ex8 sz8 b8)
              | (refine step_appT (by rfl) _ _ (by rfl) 0 (.slice da dn dc) rows (by rfl) (I8.out.row.alloc _) ⟨v0, ⟨v1, v2, v3⟩, v4, v5, v6⟩ wc.heap.size (by rfl) (Blk.new' _ _ _ _ (by simp)) (by have h1 := I8.out.rlen; have h2 := I8.out.le; have h3 := HS.out; omega) (Nat.zero_le _) (wc.heap.size + 1) (by simp) ?_; intro g5 cap5 w9 ow9 gr9 hg9; have I9 : Hid (LR s b w i8 wr8 ou8 fu8 (tl ++ [stT allT]) ⟨some ⟨g5, 0, none⟩, rows.length + 1, cap5⟩ (rows ++ [⟨v0, ⟨v1, v2, v3⟩, v4, v5, v6⟩]) w9) := (I8.out.bel (bel_alloc _ (.cells (encT ⟨v0, ⟨v1, v2, v3⟩, v4, v5, v6⟩).toArray 26))).step (H8.out.bel (bel_alloc _ _)) right_stAll HW7.out HR7.out (by have h1 := HLN2.out; omega) ow9 gr9 (by simpa using hg9); clear ow9 gr9 hg9))
        all_goals
          have I7' := I9.out
          clear I2 I3 I8 I9 HR7 HW7 H3 H8
          generalize tl ++ [stT allT] = tm at *
          generalize rows ++ [⟨v0, ⟨v1, v2, v3⟩, v4, v5, v6⟩] = rows2 at *
          have I7 : Hid (LR s b w i8 wr8 ou8 fu8 tm ⟨some ⟨g5, 0, none⟩, rows.length + 1, cap5⟩ rows2 w9) := I7'
          clear I7'
          go_wp2_with (go_at_call 50; refine (joinedR_any (k := 2) (P := fun g => w.heap.size + 1 ≤ g ∧ g < w9.heap.size) I7.out.ax.rd (ok_list' (by have h1 := I7.out.len; have h2 := I7.out.le; have h3 := HS.out; omega) I7.out.rt) (fun g hg => hg.2) (I7.out.ho 2)).mono ?_; rintro _ wb ⟨⟨p0, ⟨p1, p2, p3⟩, p4, p5, p6⟩, rfl, ho8, ex8, b8⟩; have A8 : Hid (AX s b w i8 wr8 ou8 (fu8 || (singleM 2 tm).2) wb) := I7.out.ax.go ex8 b8; have H8 : Hid (HO (fun g => w.heap.size + 1 ≤ g ∧ g < wb.heap.size) wb (singleM 2 tm).1 ⟨p0, ⟨p1, p2, p3⟩, p4, p5, p6⟩) := ho8.imp' (fun g hg => ⟨hg.1, Nat.lt_of_lt_of_le hg.2 ex8.size⟩); obtain ⟨y0, y1, y2⟩ := BlkT.cs A8.out.res; have z0 := A8.out.res.frozen; clear ho8 ex8 b8)
          refine bodyPost_ret (v := PC.v ⟨p0, ⟨p1, p2, p3⟩, ⟨p4, p5, p6⟩⟩) ?_ rfl (A8.out.finP H8.out (right_single _ _ I7.out.rt) I7.out.le HPD.out _ _ _)
          simp [results, Tryz.results27]
          have B := blk_put3 A8.out.res ⟨p0, ⟨p1, p2, p3⟩, ⟨p4, p5, p6⟩⟩
          simp only at B
          generalize hW7 : World.setCell _ _ _ = W7 at B ⊢
          exact run_ptv B

set_option maxRecDepth 100000 in
set_option maxHeartbeats 4000000 in
theorem parse_any (s : ByteArray) (w : World) : Calls Tryz.prog 11 #[.string s] w fun e w' => PostT (parseM s.data.toList) w e w' ∧ ((parseM s.data.toList).2 = 0 → rightT (parseM s.data.toList).1 = true) := by
  have hlen : s.data.toList.length = s.size := by rw [Array.length_toList]; rfl
  by_cases c : 2000 < s.size
  · have e1 : decide ((2000 : Int) < (s.size : Int)) = true := by simp <;> omega
    have HP : Hid (parseM s.data.toList = (zeT, 6)) := by show _ = _; unfold parseM; rw [hlen, if_pos c]
    rw [HP.out]
    clear hlen HP
    go_enter Tryz.func11, Tryz.ntmps11
    go_wp2_with fail
    refine bodyPost_ret (v := .tuple #[PC.v ⟨0, ⟨none, 0, 0⟩, ⟨none, 0, 0⟩⟩, .int .i64 6]) ?_ rfl ⟨⟨_, rfl, HO_none 0, ?_⟩, fun h => by cases h⟩
    · simp [results, Tryz.results11, go_sem]
    · exact bel_alloc _ _
  · have e1 : decide ((2000 : Int) < (s.size : Int)) = false := by simp <;> omega
    have kp : ∀ (W : World) (b : Nat), BlkR W b s 0 false false false → Calls Tryz.prog 27 #[.pointer (some ⟨b, 0, none⟩)] W fun e w' => PatP s b W e w' := fun W b h => pattern_any (by omega) h
    have HC : Hid (¬ 2000 < s.size) := c
    have HQ0 : QP w (w.alloc (.cells #[.int .i64 0, .slice none 0 0, .slice none 0 0] 26)) := ⟨bel_alloc _ _, Blk.new _ _ _⟩
    have HQ : Hid (QP w (w.alloc (.cells #[.int .i64 0, .slice none 0 0, .slice none 0 0] 26))) := HQ0
    clear hlen c HQ0
    go_enter Tryz.func11, Tryz.ntmps11
    go_wp2_with (first
      | (go_at_call 25; refine (newReader_any s _).mono ?_; rintro _ w2 ⟨rfl, bb2⟩; have Q2 : Hid (QP w w2) := HQ.out.go bb2; have Q3 : Hid (QP w (w2.alloc (.cells #[.string s, .int .i64 0, .bool false, .bool false, .bool false] 49))) := Q2.out.go (bel_alloc _ _); have R3 : Hid (BlkR (w2.alloc (.cells #[.string s, .int .i64 0, .bool false, .bool false, .bool false] 49)) w2.heap.size s 0 false false false) := ⟨49, Blk.new _ _ _⟩; clear bb2)
      | (go_at_call 27; refine (kp _ _ R3.out).mono ?_; rintro _ w4 ⟨⟨r0, ⟨r1, r2, r3⟩, r4, r5, r6⟩, t4, i4, wr4, ou4, fu4, rfl, ho4, hk4, ex4, b4, le5, d4⟩; have N4 : Hid (w.heap.size < w2.heap.size) := Q2.out.res.lt; have Q4 : Hid (QP w w4) := ⟨ex4.toBel Q3.out.bel (Nat.le_of_lt N4.out), Blk.ex ex4 Q3.out.res (by have := N4.out; omega)⟩; have H4 : Hid (HO (fun g => w.heap.size + 1 ≤ g ∧ g < w4.heap.size) w4 t4 ⟨r0, ⟨r1, r2, r3⟩, r4, r5, r6⟩) := ho4.low (by have := N4.out; simp; omega); have K4 : Hid (rightT t4 = true) := hk4; have B4 : Hid (BlkR w4 w2.heap.size s i4 wr4 ou4 fu4) := b4; have D4 : Hid (doneM s i4 wr4 ou4 fu4 t4 = parseM s.data.toList) := done_ios HC.out le5 d4; clear ho4 hk4 ex4 b4 le5 d4)
      | (go_at_call 26; refine (done_any (P := fun g => w.heap.size + 1 ≤ g ∧ g < w4.heap.size) B4.out (fun g hg => hg.2) H4.out).mono ?_; rintro _ w5 ⟨⟨u0, ⟨u1, u2, u3⟩, u4, u5, u6⟩, rfl, ho5, bb5⟩; have Q5 : Hid (QP w w5) := Q4.out.go bb5; have H5 : Hid (HO (fun g => w.heap.size + 1 ≤ g ∧ g < w5.heap.size) w5 (doneM s i4 wr4 ou4 fu4 t4).1 ⟨u0, ⟨u1, u2, u3⟩, u4, u5, u6⟩) := ho5.imp' (fun g hg => ⟨hg.1, Nat.lt_of_lt_of_le hg.2 bb5.size⟩); obtain ⟨y0, y1, y2⟩ := BlkT.cs Q5.out.res; have z0 := Q5.out.res.frozen; clear ho5 bb5))
    rw [← D4.out]
    refine bodyPost_ret (v := .tuple #[PC.v ⟨u0, ⟨u1, u2, u3⟩, ⟨u4, u5, u6⟩⟩, .int .i64 (doneM s i4 wr4 ou4 fu4 t4).2]) ?_ rfl ⟨⟨⟨u0, ⟨u1, u2, u3⟩, u4, u5, u6⟩, rfl, HO.same (fun g hg => ⟨by omega, by simpa using hg.2⟩) (fun g hg => heap_set3 (by omega) _ _ _) H5.out, set3_bel Q5.out.bel (Nat.le_refl _) _ _ _⟩, done_right K4.out⟩
    have B := blk_put3 Q5.out.res ⟨u0, ⟨u1, u2, u3⟩, u4, u5, u6⟩
    simp only at B
    generalize hW7 : World.setCell _ _ _ = W7 at B ⊢
    obtain ⟨b0, b1, b2⟩ := BlkT.cs B
    simp only at b0 b1 b2
    simp [results, Tryz.results11, go_sem, b0, b1, b2]

end Go.Proofs.YtjjlkjfhhpogaaaGreatDoor
