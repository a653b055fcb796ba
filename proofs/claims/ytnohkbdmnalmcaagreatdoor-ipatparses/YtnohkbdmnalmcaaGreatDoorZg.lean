/-
  The walk of the document's Parse.
-/
import Derived.Test.YtnohkbdmnalmcaaGreatDoorZf
namespace Go.Proofs.YtnohkbdmnalmcaaGreatDoor
open Go.RowKit

/-- A pattern in new memory, and a number beside it. -/
def PostW (q : Tree × Int) (w : World) (e : Ending) (w' : World) : Prop := ∃ r : PC, e = .returned (.tuple #[r.v, .int .i64 q.2]) ∧ HT w' q.1 r ∧ Below w.heap.size w w'

set_option maxRecDepth 100000 in
set_option maxHeartbeats 16000000 in
theorem rparse_any (s : ByteArray) (w : World) : Calls Tryz.prog 12 #[.string s] w fun e w' => PostW (parseM s.data.toList) w e w' := by
  have hlen : s.data.toList.length = s.size := by rw [Array.length_toList]; rfl
  by_cases c : 2000 < s.size
  · have e1 : decide ((2000 : Int) < (s.size : Int)) = true := by simp <;> omega
    have HP : Hid (parseM s.data.toList = (zeT, 6)) := by show _ = _; unfold parseM; rw [hlen, if_pos c]
    rw [HP.out]
    clear HP hlen c
    go_enter Tryz.func12, Tryz.ntmps12
    go_wp2_with fail
    refine bodyPost_ret (v := .tuple #[PC.v ⟨0, ⟨none, 0, 0⟩, ⟨none, 0, 0⟩⟩, .int .i64 6]) ?_ rfl ⟨_, rfl, (HO_none (P := fun _ => True) 0).held, ?_⟩
    · simp [results, Tryz.results12, go_sem]
    · exact bel_alloc _ _
  have e1 : decide ((2000 : Int) < (s.size : Int)) = false := by simp <;> omega
  have HSz : Hid (s.size ≤ 2000) := by show _ ≤ _; omega
  have HK := qreads_all (s := s) (b := w.heap.size + 1) (by omega) (s.size + 1)
  have HKA : Hid (CQ s (w.heap.size + 1) 29 true (altN (s.size + 1)) (s.size + 1)) := HK
  have HB0 : Hid (BlkQ ((w.alloc (.cells #[.int .i64 0, .slice none 0 0, .slice none 0 0] 26)).alloc (.cells #[.string s, .int .i64 0, .bool false, .bool false, .bool false] 56)) (w.heap.size + 1) s 0 false false false) := Blk.new' _ _ _ _ (by simp)
  have HR0 : Hid (Blk ((w.alloc (.cells #[.int .i64 0, .slice none 0 0, .slice none 0 0] 26)).alloc (.cells #[.string s, .int .i64 0, .bool false, .bool false, .bool false] 56)) w.heap.size (encT ⟨0, ⟨none, 0, 0⟩, ⟨none, 0, 0⟩⟩).toArray 26) := (Blk.new _ _ _).alloc _
  have HW0 : Hid (Below w.heap.size w ((w.alloc (.cells #[.int .i64 0, .slice none 0 0, .slice none 0 0] 26)).alloc (.cells #[.string s, .int .i64 0, .bool false, .bool false, .bool false] 56)) ∧ ((w.alloc (.cells #[.int .i64 0, .slice none 0 0, .slice none 0 0] 26)).alloc (.cells #[.string s, .int .i64 0, .bool false, .bool false, .bool false] 56)).heap.size = w.heap.size + 2) := ⟨bstep (bel_alloc _ _) (bel_alloc _ _), by simp⟩
  generalize hW : (w.alloc (.cells #[.int .i64 0, .slice none 0 0, .slice none 0 0] 26)).alloc (.cells #[.string s, .int .i64 0, .bool false, .bool false, .bool false] 56) = W0 at HB0 HR0 HW0
  clear HK hlen c
  cases hfr : headIs 94 s.data.toList with
  | true =>
    have kF : ∀ W, BlkQ W (w.heap.size + 1) s 0 false false false → _ := fun W h => take_yes (c := 94) (by have := HSz.out; omega) h (by rw [List.drop_zero]; exact hfr)
    have HFR : Hid (headIs 94 s.data.toList = true) := hfr
    have hi1 : Hid (1 ≤ s.size) := (headIs_drop (i := 0) (by rw [List.drop_zero]; exact hfr)).2
    clear hfr
    go_enter Tryz.func12, Tryz.ntmps12
    go_upto_region 4 with fail
    clear hW
    go_upto_region 6 with (first
      | (go_at_call 28; refine (kF _ HB0.out).mono ?_; rintro _ w1 ⟨rfl, ex1, b1⟩; have E1 : Hid (Ex (w.heap.size + 1) W0 w1) := ex1; have B1 : Hid (BlkQ w1 (w.heap.size + 1) s 1 false false false) := b1; clear ex1 b1)
      | (go_at_call 29; refine (HKA.out 1 false false false _ hi1.out (by omega) B1.out).mono ?_; rintro _ w4 ⟨⟨x0, ⟨x1, x2, x3⟩, x4, x5, x6⟩, t4, i4, wr4, ou4, fu4, rfl, ho4, hk4, ex4, b4, le4, le5, d4⟩; have I4 : Hid (PQ s w w4.heap.size i4 wr4 ou4 fu4 t4 ⟨x0, ⟨x1, x2, x3⟩, x4, x5, x6⟩ [] ⟨none, 0, 0⟩ [] (w4.alloc (.cells #[.int .i64 x0, .slice x1 x2 x3, .slice x4 x5 x6] 26))) := ⟨bstep ((E1.out.trans ex4).toBel HW0.out.1 (by omega)) (bel_alloc _ _), (Blk.ex (E1.out.trans ex4) HR0.out (by omega)).alloc _, b4.alloc _, Blk.new _ _ _, HO.same (fun g hg => ⟨by have h1 := E1.out.size; have h2 := HW0.out.2; omega, hg.2⟩) (fun q hq => (bel_alloc _ _).block q hq.2) ho4, by (have h1 := E1.out.size; have h2 := HW0.out.2; have h3 := ex4.size; omega), OwnX.nil _ _ _ _ _, (fun g hg => by cases hg), (HOs_nil _ _ _).2 rfl, (fun t ht => by cases ht), by simp⟩; have D4 : Hid (DoesQ true s false false false (altN (s.size + 1) (s.data.toList.drop 1)) t4 i4 wr4 ou4 fu4) := d4; have L4 : Hid (i4 ≤ s.size) := le5; have K4 : Hid (rightT t4 = true) := hk4; clear ho4 hk4 ex4 b4 le4 le5 d4))
    clear HKA HB0 HR0 HW0 E1 B1 kF hi1
    generalize w4.heap.size = b6 at I4 ⊢
    cases hbk : headIs 36 (s.data.toList.drop i4) with
    | true =>
      have kB : ∀ W, BlkQ W (w.heap.size + 1) s i4 wr4 ou4 fu4 → _ := fun W h => take_yes (c := 36) (by have := HSz.out; omega) h hbk
      have HFin : Hid (∀ k, doneK s (i4 + 1) wr4 ou4 (fu4 || (singleM 2 (wholeL true true t4)).2) = k → (parseM s.data.toList).2 = k ∧ (k = 0 → (parseM s.data.toList).1 = (singleM 2 (wholeL true true t4)).1) ∧ (k ≠ 0 → (parseM s.data.toList).1 = zeT)) := fun k hk => parse_fin HSz.out HFR.out D4.out hbk L4.out hk
      have HI6 : Hid ((i4 + 1) ≤ s.size) := (headIs_drop hbk).2
      clear hbk
      go_upto_region 10 with (go_at_call 28; refine (kB _ I4.out.rd).mono ?_; rintro _ w5 ⟨rfl, ex5, b5⟩; have I5 : Hid (PQ s w b6 (i4 + 1) wr4 ou4 fu4 t4 ⟨x0, ⟨x1, x2, x3⟩, x4, x5, x6⟩ [] ⟨none, 0, 0⟩ [] w5) := I4.out.go ex5 b5; clear ex5 b5)
      clear I4 kB
      generalize (i4 + 1) = i6 at HFin HI6 I5 ⊢
      obtain ⟨rows0, hrows0⟩ : ∃ rows0 : List PC, rows0 = [] := ⟨_, rfl⟩
      have HE0 : Hid (rows0 = []) := hrows0
      rw [← hrows0] at I5
      clear hrows0
      obtain ⟨m0, m1, m2⟩ := BlkT.cs I5.out.pb
      simp only at m0 m1 m2
      have LLp : Hid (b6 < w5.heap.size) := I5.out.pb.lt
      go_upto_region 13 with (refine wp_appX info26 Tryz.underlying24 encT_len oneT rfl (by decide) (by decide) (by rfl) _ _ (by rfl) 0 (.slice none 0 0) rows0 (by rfl) ((I5.out.bel' (bel_alloc _ (.cells (encT ⟨x0, ⟨x1, x2, x3⟩, x4, x5, x6⟩).toArray 26))).row) ⟨x0, ⟨x1, x2, x3⟩, x4, x5, x6⟩ w5.heap.size (by rfl) (encT ⟨x0, ⟨x1, x2, x3⟩, x4, x5, x6⟩).toArray (Blk.new _ _ _) (by rfl) (by have h1 := I5.out.rlen; omega) (Nat.zero_le _) ?_; intro gp capp wp ow9 gr9 hg9 _; have Kp : Hid (PQ s w b6 i6 wr4 ou4 fu4 t4 ⟨x0, ⟨x1, x2, x3⟩, x4, x5, x6⟩ (([] : List Tree) ++ [t4]) ⟨some ⟨gp, 0, none⟩, (rows0).length + 1, capp⟩ (rows0 ++ [⟨x0, ⟨x1, x2, x3⟩, x4, x5, x6⟩]) wp) := (I5.out.bel' (bel_alloc _ (.cells (encT ⟨x0, ⟨x1, x2, x3⟩, x4, x5, x6⟩).toArray 26))).step (HO.same (fun _ h => h) (fun q hq => (bel_alloc _ _).block q (by have := LLp.out; omega)) I5.out.ph) (fun q hq => ⟨hq.1, by have := LLp.out; simp; omega, fun e => by have := I5.out.rowQ q e; omega⟩) K4.out (by simp) ow9 gr9 (by simpa using hg9); clear ow9 gr9 hg9)
      clear m0 m1 m2
      obtain ⟨rows2, hrows2⟩ : ∃ rows2 : List PC, rows2 = (rows0 ++ [⟨x0, ⟨x1, x2, x3⟩, x4, x5, x6⟩]) := ⟨_, rfl⟩
      rw [← hrows2] at Kp
      clear hrows2 LLp I5
      have KF : Hid (PQ s w b6 i6 wr4 ou4 fu4 t4 ⟨x0, ⟨x1, x2, x3⟩, x4, x5, x6⟩ (wholeL true true t4) ⟨some ⟨gp, 0, none⟩, (rows0).length + 1, capp⟩ rows2 wp) := by first | exact Kp.out | (have := Kp.out; rw [HE0.out] at this; exact this)
      have HF : Hid _ := HFin.out _ rfl
      have KR : Hid (rightT (singleM 2 (wholeL true true t4)).1 = true) := right_single _ _ KF.out.rt
      go_wp2_with (first
        | (go_at_call 33; refine (rmany_any (k := 2) (P := fun g => w.heap.size + 2 ≤ g ∧ g < wp.heap.size) KF.out.rd (Or.inl rfl) (ok_list' (by have := KF.out.len; omega) KF.out.rt) KF.out.rt (fun g hg => hg.2) KF.out.ho).mono ?_; rintro _ wa ⟨⟨r0, ⟨r1, r2, r3⟩, r4, r5, r6⟩, rfl, hoa, exa, ba⟩; have BA : Hid (Below w.heap.size w wa) := exa.toBel KF.out.bel (by omega); have RA : Hid (Blk wa w.heap.size (encT ⟨0, ⟨none, 0, 0⟩, ⟨none, 0, 0⟩⟩).toArray 26) := Blk.ex exa KF.out.res (by omega); have QA : Hid (BlkQ wa (w.heap.size + 1) s i6 wr4 ou4 (fu4 || (singleM 2 (wholeL true true t4)).2)) := ba; have HA : Hid (HO (fun g => w.heap.size + 2 ≤ g ∧ g < wa.heap.size) wa (singleM 2 (wholeL true true t4)).1 ⟨r0, ⟨r1, r2, r3⟩, r4, r5, r6⟩) := hoa.imp' (fun g hg => ⟨hg.1, Nat.lt_of_lt_of_le hg.2 exa.size⟩); clear hoa exa ba)
        | (go_at_call 32; refine (doneQ_any QA.out HI6.out KR.out HA.out.held).mono ?_; rintro _ wb ⟨⟨d0, ⟨d1, d2, d3⟩, d4, d5, d6⟩, rfl, hd1, hd2, gb⟩; have BB : Hid (Below w.heap.size w wb) := bstep BA.out gb; have RB : Hid (Blk wb w.heap.size (encT ⟨0, ⟨none, 0, 0⟩, ⟨none, 0, 0⟩⟩).toArray 26) := RA.out.bel gb; have HBf : Hid (HO (fun g => w.heap.size + 2 ≤ g ∧ g < wa.heap.size) wb (singleM 2 (wholeL true true t4)).1 ⟨r0, ⟨r1, r2, r3⟩, r4, r5, r6⟩) := HO.same (fun _ h => h) (fun q hq => gb.block q hq.2) HA.out; have HD : Hid ((doneK s i6 wr4 ou4 (fu4 || (singleM 2 (wholeL true true t4)).2) = 0 → (⟨d0, ⟨d1, d2, d3⟩, d4, d5, d6⟩ : PC) = ⟨r0, ⟨r1, r2, r3⟩, r4, r5, r6⟩) ∧ (doneK s i6 wr4 ou4 (fu4 || (singleM 2 (wholeL true true t4)).2) ≠ 0 → (⟨d0, ⟨d1, d2, d3⟩, d4, d5, d6⟩ : PC) = ⟨0, ⟨none, 0, 0⟩, ⟨none, 0, 0⟩⟩)) := ⟨hd1, hd2⟩; obtain ⟨y0, y1, y2⟩ := BlkT.cs RB.out; have z0 := RB.out.frozen; clear hd1 hd2 gb))
      obtain ⟨f1, f2, f3⟩ := HF.out
      obtain ⟨g1', g2'⟩ := HD.out
      generalize doneK s i6 wr4 ou4 (fu4 || (singleM 2 (wholeL true true t4)).2) = k at f1 f2 f3 g1' g2' ⊢
      refine bodyPost_ret (v := .tuple #[PC.v ⟨d0, ⟨d1, d2, d3⟩, ⟨d4, d5, d6⟩⟩, .int .i64 k]) ?_ rfl ⟨⟨d0, ⟨d1, d2, d3⟩, ⟨d4, d5, d6⟩⟩, by rw [f1], ?_, set3_bel BB.out (Nat.le_refl _) _ _ _⟩
      · have B := blk_put3 RB.out ⟨d0, ⟨d1, d2, d3⟩, ⟨d4, d5, d6⟩⟩
        simp only at B
        generalize hW7 : World.setCell _ _ _ = W7 at B ⊢
        obtain ⟨b0, b1, b2⟩ := BlkT.cs B
        simp only at b0 b1 b2
        simp [results, Tryz.results12, go_sem, b0, b1, b2]
      · by_cases hk0 : k = 0
        · rw [f2 hk0, g1' hk0]
          exact (HO.same (Q := fun g => w.heap.size + 2 ≤ g ∧ g < wa.heap.size) (fun _ h => h) (fun q hq => heap_set3 (by omega) _ _ _) HBf.out).held
        · rw [f3 hk0, g2' hk0]
          exact (HO_none (P := fun _ => True) 0).held
    | false =>
      have kB : ∀ W, BlkQ W (w.heap.size + 1) s i4 wr4 ou4 fu4 → _ := fun W h => take_no (c := 36) L4.out h hbk
      have HFin : Hid (∀ k, doneK s i4 wr4 ou4 (fu4 || (singleM 2 (wholeL true false t4)).2) = k → (parseM s.data.toList).2 = k ∧ (k = 0 → (parseM s.data.toList).1 = (singleM 2 (wholeL true false t4)).1) ∧ (k ≠ 0 → (parseM s.data.toList).1 = zeT)) := fun k hk => parse_fin HSz.out HFR.out D4.out hbk L4.out hk
      have HI6 : Hid (i4 ≤ s.size) := L4.out
      clear hbk
      go_upto_region 10 with (go_at_call 28; refine (kB _ I4.out.rd).mono ?_; rintro _ w5 ⟨rfl, ex5⟩; have I5 : Hid (PQ s w b6 i4 wr4 ou4 fu4 t4 ⟨x0, ⟨x1, x2, x3⟩, x4, x5, x6⟩ [] ⟨none, 0, 0⟩ [] w5) := I4.out.bel' ex5.below; clear ex5 )
      clear I4 kB
      generalize i4 = i6 at HFin HI6 I5 ⊢
      obtain ⟨rows0, hrows0⟩ : ∃ rows0 : List PC, rows0 = [] := ⟨_, rfl⟩
      have HE0 : Hid (rows0 = []) := hrows0
      rw [← hrows0] at I5
      clear hrows0
      obtain ⟨m0, m1, m2⟩ := BlkT.cs I5.out.pb
      simp only at m0 m1 m2
      have LLp : Hid (b6 < w5.heap.size) := I5.out.pb.lt
      go_upto_region 12 with (refine wp_appX info26 Tryz.underlying24 encT_len oneT rfl (by decide) (by decide) (by rfl) _ _ (by rfl) 0 (.slice none 0 0) rows0 (by rfl) ((I5.out.bel' (bel_alloc _ (.cells (encT ⟨x0, ⟨x1, x2, x3⟩, x4, x5, x6⟩).toArray 26))).row) ⟨x0, ⟨x1, x2, x3⟩, x4, x5, x6⟩ w5.heap.size (by rfl) (encT ⟨x0, ⟨x1, x2, x3⟩, x4, x5, x6⟩).toArray (Blk.new _ _ _) (by rfl) (by have h1 := I5.out.rlen; omega) (Nat.zero_le _) ?_; intro gp capp wp ow9 gr9 hg9 _; have Kp : Hid (PQ s w b6 i6 wr4 ou4 fu4 t4 ⟨x0, ⟨x1, x2, x3⟩, x4, x5, x6⟩ (([] : List Tree) ++ [t4]) ⟨some ⟨gp, 0, none⟩, (rows0).length + 1, capp⟩ (rows0 ++ [⟨x0, ⟨x1, x2, x3⟩, x4, x5, x6⟩]) wp) := (I5.out.bel' (bel_alloc _ (.cells (encT ⟨x0, ⟨x1, x2, x3⟩, x4, x5, x6⟩).toArray 26))).step (HO.same (fun _ h => h) (fun q hq => (bel_alloc _ _).block q (by have := LLp.out; omega)) I5.out.ph) (fun q hq => ⟨hq.1, by have := LLp.out; simp; omega, fun e => by have := I5.out.rowQ q e; omega⟩) K4.out (by simp) ow9 gr9 (by simpa using hg9); clear ow9 gr9 hg9)
      clear m0 m1 m2
      obtain ⟨rows2, hrows2⟩ : ∃ rows2 : List PC, rows2 = (rows0 ++ [⟨x0, ⟨x1, x2, x3⟩, x4, x5, x6⟩]) := ⟨_, rfl⟩
      rw [← hrows2] at Kp
      clear hrows2 LLp I5
      have J52 : Hid (PQ s w b6 i6 wr4 ou4 fu4 t4 ⟨x0, ⟨x1, x2, x3⟩, x4, x5, x6⟩ (([] : List Tree) ++ [t4]) ⟨some ⟨gp, 0, none⟩, (rows0).length + 1, capp⟩ rows2 (wp.drewN 1)) := Kp.out.bel' (below_drewN (Below.refl _ _) 1)
      have LL2 : Hid (b6 < wp.heap.size ∧ ∀ g, (Sl.v ⟨some ⟨gp, 0, none⟩, (rows0).length + 1, capp⟩).ownBlock = some g → g < wp.heap.size) := ⟨Kp.out.pb.lt, fun g hg => (Kp.out.row.lt hg).2⟩
      go_region_law
        (first
          | (go_simp; go_at_call 31; refine (all_any _).mono ?_; rintro _ w72 ⟨⟨a20, ⟨a21, a22, a23⟩, a24, a25, a26⟩, rfl, ho7, g7⟩; have J72 : Hid (PQ s w b6 i6 wr4 ou4 fu4 t4 ⟨x0, ⟨x1, x2, x3⟩, x4, x5, x6⟩ (([] : List Tree) ++ [t4]) ⟨some ⟨gp, 0, none⟩, (rows0).length + 1, capp⟩ rows2 w72) := J52.out.bel' g7.below; have S72 : Hid (wp.heap.size ≤ w72.heap.size) := g7.below.size; have H72 : Hid (HO (fun g => wp.heap.size ≤ g ∧ g < w72.heap.size) w72 allT ⟨a20, ⟨a21, a22, a23⟩, a24, a25, a26⟩) := ho7; clear ho7 g7)
          | (go_simp; go_at_call 30; refine (rstar_any (P := fun g => wp.heap.size ≤ g ∧ g < w72.heap.size) J72.out.rd right_all (fun g hg => hg.2) H72.out).mono ?_; rintro _ w82 ⟨⟨u20, ⟨u21, u22, u23⟩, u24, u25, u26⟩, rfl, ho8, ex8, b8⟩; rw [kept_all] at ho8 b8; have J82 : Hid (PQ s w b6 i6 wr4 ou4 fu4 t4 ⟨x0, ⟨x1, x2, x3⟩, x4, x5, x6⟩ (([] : List Tree) ++ [t4]) ⟨some ⟨gp, 0, none⟩, (rows0).length + 1, capp⟩ rows2 w82) := J72.out.go ex8 (by rw [Bool.or_false] at b8; exact b8); have H82 : Hid (HO (fun g => wp.heap.size ≤ g ∧ g < w82.heap.size) w82 (stT allT) ⟨u20, ⟨u21, u22, u23⟩, u24, u25, u26⟩) := ho8.imp' (fun g hg => (by have h1 := ex8.size; have h3 := S72.out; omega)); clear ho8 ex8 b8)
          | (refine step_appT (by rfl) _ _ (by rfl) 0 (.slice (some ⟨gp, 0, none⟩) ((rows0).length + 1) capp) rows2 (by rfl) (J82.out.row.alloc _) ⟨u20, ⟨u21, u22, u23⟩, u24, u25, u26⟩ w82.heap.size (by rfl) (Blk.new' _ _ _ _ (by simp)) (by have h1 := J82.out.rlen; omega) (Nat.zero_le _) (w82.heap.size + 1) (by simp) ?_; intro g2 cap2 wz2 ow9 gr9 hg9; have Kx2 : Hid (PQ s w b6 i6 wr4 ou4 fu4 t4 ⟨x0, ⟨x1, x2, x3⟩, x4, x5, x6⟩ ((([] : List Tree) ++ [t4]) ++ [stT allT]) ⟨some ⟨g2, 0, none⟩, (rows2).length + 1, cap2⟩ (rows2 ++ [⟨u20, ⟨u21, u22, u23⟩, u24, u25, u26⟩]) wz2) := (J82.out.bel' (bel_alloc _ (.cells (encT ⟨u20, ⟨u21, u22, u23⟩, u24, u25, u26⟩).toArray 26))).step (H82.out.bel (bel_alloc _ _)) (fun q hq => ⟨by have h1 := LL2.out.1; have h2 := J82.out.hb6; omega, hq.2, fun e => by have := LL2.out.2 q e; omega⟩) right_stAll (by simp) ow9 gr9 (by simpa using hg9); clear ow9 gr9 hg9))
      all_goals
        clear J52 J72 J82 H72 H82 LL2 S72 Kp
        have KF : Hid (PQ s w b6 i6 wr4 ou4 fu4 t4 ⟨x0, ⟨x1, x2, x3⟩, x4, x5, x6⟩ (wholeL true false t4) ⟨some ⟨g2, 0, none⟩, (rows2).length + 1, cap2⟩ (rows2 ++ [⟨u20, ⟨u21, u22, u23⟩, u24, u25, u26⟩]) wz2) := by first | exact Kx2.out | (have := Kx2.out; rw [HE0.out] at this; exact this)
        have HF : Hid _ := HFin.out _ rfl
        have KR : Hid (rightT (singleM 2 (wholeL true false t4)).1 = true) := right_single _ _ KF.out.rt
        go_wp2_with (first
          | (go_at_call 33; refine (rmany_any (k := 2) (P := fun g => w.heap.size + 2 ≤ g ∧ g < wz2.heap.size) KF.out.rd (Or.inl rfl) (ok_list' (by have := KF.out.len; omega) KF.out.rt) KF.out.rt (fun g hg => hg.2) KF.out.ho).mono ?_; rintro _ wa ⟨⟨r0, ⟨r1, r2, r3⟩, r4, r5, r6⟩, rfl, hoa, exa, ba⟩; have BA : Hid (Below w.heap.size w wa) := exa.toBel KF.out.bel (by omega); have RA : Hid (Blk wa w.heap.size (encT ⟨0, ⟨none, 0, 0⟩, ⟨none, 0, 0⟩⟩).toArray 26) := Blk.ex exa KF.out.res (by omega); have QA : Hid (BlkQ wa (w.heap.size + 1) s i6 wr4 ou4 (fu4 || (singleM 2 (wholeL true false t4)).2)) := ba; have HA : Hid (HO (fun g => w.heap.size + 2 ≤ g ∧ g < wa.heap.size) wa (singleM 2 (wholeL true false t4)).1 ⟨r0, ⟨r1, r2, r3⟩, r4, r5, r6⟩) := hoa.imp' (fun g hg => ⟨hg.1, Nat.lt_of_lt_of_le hg.2 exa.size⟩); clear hoa exa ba)
          | (go_at_call 32; refine (doneQ_any QA.out HI6.out KR.out HA.out.held).mono ?_; rintro _ wb ⟨⟨d0, ⟨d1, d2, d3⟩, d4, d5, d6⟩, rfl, hd1, hd2, gb⟩; have BB : Hid (Below w.heap.size w wb) := bstep BA.out gb; have RB : Hid (Blk wb w.heap.size (encT ⟨0, ⟨none, 0, 0⟩, ⟨none, 0, 0⟩⟩).toArray 26) := RA.out.bel gb; have HBf : Hid (HO (fun g => w.heap.size + 2 ≤ g ∧ g < wa.heap.size) wb (singleM 2 (wholeL true false t4)).1 ⟨r0, ⟨r1, r2, r3⟩, r4, r5, r6⟩) := HO.same (fun _ h => h) (fun q hq => gb.block q hq.2) HA.out; have HD : Hid ((doneK s i6 wr4 ou4 (fu4 || (singleM 2 (wholeL true false t4)).2) = 0 → (⟨d0, ⟨d1, d2, d3⟩, d4, d5, d6⟩ : PC) = ⟨r0, ⟨r1, r2, r3⟩, r4, r5, r6⟩) ∧ (doneK s i6 wr4 ou4 (fu4 || (singleM 2 (wholeL true false t4)).2) ≠ 0 → (⟨d0, ⟨d1, d2, d3⟩, d4, d5, d6⟩ : PC) = ⟨0, ⟨none, 0, 0⟩, ⟨none, 0, 0⟩⟩)) := ⟨hd1, hd2⟩; obtain ⟨y0, y1, y2⟩ := BlkT.cs RB.out; have z0 := RB.out.frozen; clear hd1 hd2 gb))
        obtain ⟨f1, f2, f3⟩ := HF.out
        obtain ⟨g1', g2'⟩ := HD.out
        generalize doneK s i6 wr4 ou4 (fu4 || (singleM 2 (wholeL true false t4)).2) = k at f1 f2 f3 g1' g2' ⊢
        refine bodyPost_ret (v := .tuple #[PC.v ⟨d0, ⟨d1, d2, d3⟩, ⟨d4, d5, d6⟩⟩, .int .i64 k]) ?_ rfl ⟨⟨d0, ⟨d1, d2, d3⟩, ⟨d4, d5, d6⟩⟩, by rw [f1], ?_, set3_bel BB.out (Nat.le_refl _) _ _ _⟩
        · have B := blk_put3 RB.out ⟨d0, ⟨d1, d2, d3⟩, ⟨d4, d5, d6⟩⟩
          simp only at B
          generalize hW7 : World.setCell _ _ _ = W7 at B ⊢
          obtain ⟨b0, b1, b2⟩ := BlkT.cs B
          simp only at b0 b1 b2
          simp [results, Tryz.results12, go_sem, b0, b1, b2]
        · by_cases hk0 : k = 0
          · rw [f2 hk0, g1' hk0]
            exact (HO.same (Q := fun g => w.heap.size + 2 ≤ g ∧ g < wa.heap.size) (fun _ h => h) (fun q hq => heap_set3 (by omega) _ _ _) HBf.out).held
          · rw [f3 hk0, g2' hk0]
            exact (HO_none (P := fun _ => True) 0).held
  | false =>
    have kF : ∀ W, BlkQ W (w.heap.size + 1) s 0 false false false → _ := fun W h => take_no (c := 94) (Nat.zero_le _) h (by rw [List.drop_zero]; exact hfr)
    have HFR : Hid (headIs 94 s.data.toList = false) := hfr
    have hi1 : Hid (0 ≤ s.size) := Nat.zero_le _
    clear hfr
    go_enter Tryz.func12, Tryz.ntmps12
    go_upto_region 4 with fail
    clear hW
    go_upto_region 6 with (first
      | (go_at_call 28; refine (kF _ HB0.out).mono ?_; rintro _ w1 ⟨rfl, ex1⟩; have E1 : Hid (Ex (w.heap.size + 1) W0 w1) := Ex.of_gr ex1; have B1 : Hid (BlkQ w1 (w.heap.size + 1) s 0 false false false) := HB0.out.gr ex1; clear ex1 )
      | (go_at_call 29; refine (HKA.out 0 false false false _ hi1.out (by omega) B1.out).mono ?_; rintro _ w4 ⟨⟨x0, ⟨x1, x2, x3⟩, x4, x5, x6⟩, t4, i4, wr4, ou4, fu4, rfl, ho4, hk4, ex4, b4, le4, le5, d4⟩; have I4 : Hid (PQ s w w4.heap.size i4 wr4 ou4 fu4 t4 ⟨x0, ⟨x1, x2, x3⟩, x4, x5, x6⟩ [] ⟨none, 0, 0⟩ [] (w4.alloc (.cells #[.int .i64 x0, .slice x1 x2 x3, .slice x4 x5 x6] 26))) := ⟨bstep ((E1.out.trans ex4).toBel HW0.out.1 (by omega)) (bel_alloc _ _), (Blk.ex (E1.out.trans ex4) HR0.out (by omega)).alloc _, b4.alloc _, Blk.new _ _ _, HO.same (fun g hg => ⟨by have h1 := E1.out.size; have h2 := HW0.out.2; omega, hg.2⟩) (fun q hq => (bel_alloc _ _).block q hq.2) ho4, by (have h1 := E1.out.size; have h2 := HW0.out.2; have h3 := ex4.size; omega), OwnX.nil _ _ _ _ _, (fun g hg => by cases hg), (HOs_nil _ _ _).2 rfl, (fun t ht => by cases ht), by simp⟩; have D4 : Hid (DoesQ true s false false false (altN (s.size + 1) (s.data.toList.drop 0)) t4 i4 wr4 ou4 fu4) := d4; have L4 : Hid (i4 ≤ s.size) := le5; have K4 : Hid (rightT t4 = true) := hk4; clear ho4 hk4 ex4 b4 le4 le5 d4))
    clear HKA HB0 HR0 HW0 E1 B1 kF hi1
    generalize w4.heap.size = b6 at I4 ⊢
    cases hbk : headIs 36 (s.data.toList.drop i4) with
    | true =>
      have kB : ∀ W, BlkQ W (w.heap.size + 1) s i4 wr4 ou4 fu4 → _ := fun W h => take_yes (c := 36) (by have := HSz.out; omega) h hbk
      have HFin : Hid (∀ k, doneK s (i4 + 1) wr4 ou4 (fu4 || (singleM 2 (wholeL false true t4)).2) = k → (parseM s.data.toList).2 = k ∧ (k = 0 → (parseM s.data.toList).1 = (singleM 2 (wholeL false true t4)).1) ∧ (k ≠ 0 → (parseM s.data.toList).1 = zeT)) := fun k hk => parse_fin HSz.out HFR.out D4.out hbk L4.out hk
      have HI6 : Hid ((i4 + 1) ≤ s.size) := (headIs_drop hbk).2
      clear hbk
      go_upto_region 9 with (go_at_call 28; refine (kB _ I4.out.rd).mono ?_; rintro _ w5 ⟨rfl, ex5, b5⟩; have I5 : Hid (PQ s w b6 (i4 + 1) wr4 ou4 fu4 t4 ⟨x0, ⟨x1, x2, x3⟩, x4, x5, x6⟩ [] ⟨none, 0, 0⟩ [] w5) := I4.out.go ex5 b5; clear ex5 b5)
      clear I4 kB
      generalize (i4 + 1) = i6 at HFin HI6 I5 ⊢
      obtain ⟨rows0, hrows0⟩ : ∃ rows0 : List PC, rows0 = [] := ⟨_, rfl⟩
      have HE0 : Hid (rows0 = []) := hrows0
      rw [← hrows0] at I5
      clear hrows0
      have J51 : Hid (PQ s w b6 i6 wr4 ou4 fu4 t4 ⟨x0, ⟨x1, x2, x3⟩, x4, x5, x6⟩ ([] : List Tree) ⟨none, 0, 0⟩ rows0 (w5.drewN 1)) := I5.out.bel' (below_drewN (Below.refl _ _) 1)
      have LL1 : Hid (b6 < w5.heap.size ∧ ∀ g, (Sl.v ⟨none, 0, 0⟩).ownBlock = some g → g < w5.heap.size) := ⟨I5.out.pb.lt, fun g hg => (I5.out.row.lt hg).2⟩
      go_region_law
        (first
          | (go_simp; go_at_call 31; refine (all_any _).mono ?_; rintro _ w71 ⟨⟨a10, ⟨a11, a12, a13⟩, a14, a15, a16⟩, rfl, ho7, g7⟩; have J71 : Hid (PQ s w b6 i6 wr4 ou4 fu4 t4 ⟨x0, ⟨x1, x2, x3⟩, x4, x5, x6⟩ ([] : List Tree) ⟨none, 0, 0⟩ rows0 w71) := J51.out.bel' g7.below; have S71 : Hid (w5.heap.size ≤ w71.heap.size) := g7.below.size; have H71 : Hid (HO (fun g => w5.heap.size ≤ g ∧ g < w71.heap.size) w71 allT ⟨a10, ⟨a11, a12, a13⟩, a14, a15, a16⟩) := ho7; clear ho7 g7)
          | (go_simp; go_at_call 30; refine (rstar_any (P := fun g => w5.heap.size ≤ g ∧ g < w71.heap.size) J71.out.rd right_all (fun g hg => hg.2) H71.out).mono ?_; rintro _ w81 ⟨⟨u10, ⟨u11, u12, u13⟩, u14, u15, u16⟩, rfl, ho8, ex8, b8⟩; rw [kept_all] at ho8 b8; have J81 : Hid (PQ s w b6 i6 wr4 ou4 fu4 t4 ⟨x0, ⟨x1, x2, x3⟩, x4, x5, x6⟩ ([] : List Tree) ⟨none, 0, 0⟩ rows0 w81) := J71.out.go ex8 (by rw [Bool.or_false] at b8; exact b8); have H81 : Hid (HO (fun g => w5.heap.size ≤ g ∧ g < w81.heap.size) w81 (stT allT) ⟨u10, ⟨u11, u12, u13⟩, u14, u15, u16⟩) := ho8.imp' (fun g hg => (by have h1 := ex8.size; have h3 := S71.out; omega)); clear ho8 ex8 b8)
          | (refine step_appT (by rfl) _ _ (by rfl) 0 (.slice none 0 0) rows0 (by rfl) (J81.out.row.alloc _) ⟨u10, ⟨u11, u12, u13⟩, u14, u15, u16⟩ w81.heap.size (by rfl) (Blk.new' _ _ _ _ (by simp)) (by have h1 := J81.out.rlen; omega) (Nat.zero_le _) (w81.heap.size + 1) (by simp) ?_; intro g1 cap1 wz1 ow9 gr9 hg9; have Kx1 : Hid (PQ s w b6 i6 wr4 ou4 fu4 t4 ⟨x0, ⟨x1, x2, x3⟩, x4, x5, x6⟩ (([] : List Tree) ++ [stT allT]) ⟨some ⟨g1, 0, none⟩, (rows0).length + 1, cap1⟩ (rows0 ++ [⟨u10, ⟨u11, u12, u13⟩, u14, u15, u16⟩]) wz1) := (J81.out.bel' (bel_alloc _ (.cells (encT ⟨u10, ⟨u11, u12, u13⟩, u14, u15, u16⟩).toArray 26))).step (H81.out.bel (bel_alloc _ _)) (fun q hq => ⟨by have h1 := LL1.out.1; have h2 := J81.out.hb6; omega, hq.2, fun e => by have := LL1.out.2 q e; omega⟩) right_stAll (by simp) ow9 gr9 (by simpa using hg9); clear ow9 gr9 hg9))
      all_goals
        clear J51 J71 J81 H71 H81 LL1 S71 I5
        obtain ⟨rows1, hrows1⟩ : ∃ rows1 : List PC, rows1 = (rows0 ++ [⟨u10, ⟨u11, u12, u13⟩, u14, u15, u16⟩]) := ⟨_, rfl⟩
        rw [← hrows1] at Kx1
        clear hrows1
        obtain ⟨m0, m1, m2⟩ := BlkT.cs Kx1.out.pb
        simp only at m0 m1 m2
        have LLp : Hid (b6 < wz1.heap.size) := Kx1.out.pb.lt
        go_upto_region 13 with (refine wp_appX info26 Tryz.underlying24 encT_len oneT rfl (by decide) (by decide) (by rfl) _ _ (by rfl) 0 (.slice (some ⟨g1, 0, none⟩) ((rows0).length + 1) cap1) rows1 (by rfl) ((Kx1.out.bel' (bel_alloc _ (.cells (encT ⟨x0, ⟨x1, x2, x3⟩, x4, x5, x6⟩).toArray 26))).row) ⟨x0, ⟨x1, x2, x3⟩, x4, x5, x6⟩ wz1.heap.size (by rfl) (encT ⟨x0, ⟨x1, x2, x3⟩, x4, x5, x6⟩).toArray (Blk.new _ _ _) (by rfl) (by have h1 := Kx1.out.rlen; omega) (Nat.zero_le _) ?_; intro gp capp wp ow9 gr9 hg9 _; have Kp : Hid (PQ s w b6 i6 wr4 ou4 fu4 t4 ⟨x0, ⟨x1, x2, x3⟩, x4, x5, x6⟩ ((([] : List Tree) ++ [stT allT]) ++ [t4]) ⟨some ⟨gp, 0, none⟩, (rows1).length + 1, capp⟩ (rows1 ++ [⟨x0, ⟨x1, x2, x3⟩, x4, x5, x6⟩]) wp) := (Kx1.out.bel' (bel_alloc _ (.cells (encT ⟨x0, ⟨x1, x2, x3⟩, x4, x5, x6⟩).toArray 26))).step (HO.same (fun _ h => h) (fun q hq => (bel_alloc _ _).block q (by have := LLp.out; omega)) Kx1.out.ph) (fun q hq => ⟨hq.1, by have := LLp.out; simp; omega, fun e => by have := Kx1.out.rowQ q e; omega⟩) K4.out (by simp) ow9 gr9 (by simpa using hg9); clear ow9 gr9 hg9)
        clear m0 m1 m2
        obtain ⟨rows2, hrows2⟩ : ∃ rows2 : List PC, rows2 = (rows1 ++ [⟨x0, ⟨x1, x2, x3⟩, x4, x5, x6⟩]) := ⟨_, rfl⟩
        rw [← hrows2] at Kp
        clear hrows2 LLp Kx1
        have KF : Hid (PQ s w b6 i6 wr4 ou4 fu4 t4 ⟨x0, ⟨x1, x2, x3⟩, x4, x5, x6⟩ (wholeL false true t4) ⟨some ⟨gp, 0, none⟩, (rows1).length + 1, capp⟩ rows2 wp) := by first | exact Kp.out | (have := Kp.out; rw [HE0.out] at this; exact this)
        have HF : Hid _ := HFin.out _ rfl
        have KR : Hid (rightT (singleM 2 (wholeL false true t4)).1 = true) := right_single _ _ KF.out.rt
        go_wp2_with (first
          | (go_at_call 33; refine (rmany_any (k := 2) (P := fun g => w.heap.size + 2 ≤ g ∧ g < wp.heap.size) KF.out.rd (Or.inl rfl) (ok_list' (by have := KF.out.len; omega) KF.out.rt) KF.out.rt (fun g hg => hg.2) KF.out.ho).mono ?_; rintro _ wa ⟨⟨r0, ⟨r1, r2, r3⟩, r4, r5, r6⟩, rfl, hoa, exa, ba⟩; have BA : Hid (Below w.heap.size w wa) := exa.toBel KF.out.bel (by omega); have RA : Hid (Blk wa w.heap.size (encT ⟨0, ⟨none, 0, 0⟩, ⟨none, 0, 0⟩⟩).toArray 26) := Blk.ex exa KF.out.res (by omega); have QA : Hid (BlkQ wa (w.heap.size + 1) s i6 wr4 ou4 (fu4 || (singleM 2 (wholeL false true t4)).2)) := ba; have HA : Hid (HO (fun g => w.heap.size + 2 ≤ g ∧ g < wa.heap.size) wa (singleM 2 (wholeL false true t4)).1 ⟨r0, ⟨r1, r2, r3⟩, r4, r5, r6⟩) := hoa.imp' (fun g hg => ⟨hg.1, Nat.lt_of_lt_of_le hg.2 exa.size⟩); clear hoa exa ba)
          | (go_at_call 32; refine (doneQ_any QA.out HI6.out KR.out HA.out.held).mono ?_; rintro _ wb ⟨⟨d0, ⟨d1, d2, d3⟩, d4, d5, d6⟩, rfl, hd1, hd2, gb⟩; have BB : Hid (Below w.heap.size w wb) := bstep BA.out gb; have RB : Hid (Blk wb w.heap.size (encT ⟨0, ⟨none, 0, 0⟩, ⟨none, 0, 0⟩⟩).toArray 26) := RA.out.bel gb; have HBf : Hid (HO (fun g => w.heap.size + 2 ≤ g ∧ g < wa.heap.size) wb (singleM 2 (wholeL false true t4)).1 ⟨r0, ⟨r1, r2, r3⟩, r4, r5, r6⟩) := HO.same (fun _ h => h) (fun q hq => gb.block q hq.2) HA.out; have HD : Hid ((doneK s i6 wr4 ou4 (fu4 || (singleM 2 (wholeL false true t4)).2) = 0 → (⟨d0, ⟨d1, d2, d3⟩, d4, d5, d6⟩ : PC) = ⟨r0, ⟨r1, r2, r3⟩, r4, r5, r6⟩) ∧ (doneK s i6 wr4 ou4 (fu4 || (singleM 2 (wholeL false true t4)).2) ≠ 0 → (⟨d0, ⟨d1, d2, d3⟩, d4, d5, d6⟩ : PC) = ⟨0, ⟨none, 0, 0⟩, ⟨none, 0, 0⟩⟩)) := ⟨hd1, hd2⟩; obtain ⟨y0, y1, y2⟩ := BlkT.cs RB.out; have z0 := RB.out.frozen; clear hd1 hd2 gb))
        obtain ⟨f1, f2, f3⟩ := HF.out
        obtain ⟨g1', g2'⟩ := HD.out
        generalize doneK s i6 wr4 ou4 (fu4 || (singleM 2 (wholeL false true t4)).2) = k at f1 f2 f3 g1' g2' ⊢
        refine bodyPost_ret (v := .tuple #[PC.v ⟨d0, ⟨d1, d2, d3⟩, ⟨d4, d5, d6⟩⟩, .int .i64 k]) ?_ rfl ⟨⟨d0, ⟨d1, d2, d3⟩, ⟨d4, d5, d6⟩⟩, by rw [f1], ?_, set3_bel BB.out (Nat.le_refl _) _ _ _⟩
        · have B := blk_put3 RB.out ⟨d0, ⟨d1, d2, d3⟩, ⟨d4, d5, d6⟩⟩
          simp only at B
          generalize hW7 : World.setCell _ _ _ = W7 at B ⊢
          obtain ⟨b0, b1, b2⟩ := BlkT.cs B
          simp only at b0 b1 b2
          simp [results, Tryz.results12, go_sem, b0, b1, b2]
        · by_cases hk0 : k = 0
          · rw [f2 hk0, g1' hk0]
            exact (HO.same (Q := fun g => w.heap.size + 2 ≤ g ∧ g < wa.heap.size) (fun _ h => h) (fun q hq => heap_set3 (by omega) _ _ _) HBf.out).held
          · rw [f3 hk0, g2' hk0]
            exact (HO_none (P := fun _ => True) 0).held
    | false =>
      have kB : ∀ W, BlkQ W (w.heap.size + 1) s i4 wr4 ou4 fu4 → _ := fun W h => take_no (c := 36) L4.out h hbk
      have HFin : Hid (∀ k, doneK s i4 wr4 ou4 (fu4 || (singleM 2 (wholeL false false t4)).2) = k → (parseM s.data.toList).2 = k ∧ (k = 0 → (parseM s.data.toList).1 = (singleM 2 (wholeL false false t4)).1) ∧ (k ≠ 0 → (parseM s.data.toList).1 = zeT)) := fun k hk => parse_fin HSz.out HFR.out D4.out hbk L4.out hk
      have HI6 : Hid (i4 ≤ s.size) := L4.out
      clear hbk
      go_upto_region 9 with (go_at_call 28; refine (kB _ I4.out.rd).mono ?_; rintro _ w5 ⟨rfl, ex5⟩; have I5 : Hid (PQ s w b6 i4 wr4 ou4 fu4 t4 ⟨x0, ⟨x1, x2, x3⟩, x4, x5, x6⟩ [] ⟨none, 0, 0⟩ [] w5) := I4.out.bel' ex5.below; clear ex5 )
      clear I4 kB
      generalize i4 = i6 at HFin HI6 I5 ⊢
      obtain ⟨rows0, hrows0⟩ : ∃ rows0 : List PC, rows0 = [] := ⟨_, rfl⟩
      have HE0 : Hid (rows0 = []) := hrows0
      rw [← hrows0] at I5
      clear hrows0
      have J51 : Hid (PQ s w b6 i6 wr4 ou4 fu4 t4 ⟨x0, ⟨x1, x2, x3⟩, x4, x5, x6⟩ ([] : List Tree) ⟨none, 0, 0⟩ rows0 (w5.drewN 1)) := I5.out.bel' (below_drewN (Below.refl _ _) 1)
      have LL1 : Hid (b6 < w5.heap.size ∧ ∀ g, (Sl.v ⟨none, 0, 0⟩).ownBlock = some g → g < w5.heap.size) := ⟨I5.out.pb.lt, fun g hg => (I5.out.row.lt hg).2⟩
      go_region_law
        (first
          | (go_simp; go_at_call 31; refine (all_any _).mono ?_; rintro _ w71 ⟨⟨a10, ⟨a11, a12, a13⟩, a14, a15, a16⟩, rfl, ho7, g7⟩; have J71 : Hid (PQ s w b6 i6 wr4 ou4 fu4 t4 ⟨x0, ⟨x1, x2, x3⟩, x4, x5, x6⟩ ([] : List Tree) ⟨none, 0, 0⟩ rows0 w71) := J51.out.bel' g7.below; have S71 : Hid (w5.heap.size ≤ w71.heap.size) := g7.below.size; have H71 : Hid (HO (fun g => w5.heap.size ≤ g ∧ g < w71.heap.size) w71 allT ⟨a10, ⟨a11, a12, a13⟩, a14, a15, a16⟩) := ho7; clear ho7 g7)
          | (go_simp; go_at_call 30; refine (rstar_any (P := fun g => w5.heap.size ≤ g ∧ g < w71.heap.size) J71.out.rd right_all (fun g hg => hg.2) H71.out).mono ?_; rintro _ w81 ⟨⟨u10, ⟨u11, u12, u13⟩, u14, u15, u16⟩, rfl, ho8, ex8, b8⟩; rw [kept_all] at ho8 b8; have J81 : Hid (PQ s w b6 i6 wr4 ou4 fu4 t4 ⟨x0, ⟨x1, x2, x3⟩, x4, x5, x6⟩ ([] : List Tree) ⟨none, 0, 0⟩ rows0 w81) := J71.out.go ex8 (by rw [Bool.or_false] at b8; exact b8); have H81 : Hid (HO (fun g => w5.heap.size ≤ g ∧ g < w81.heap.size) w81 (stT allT) ⟨u10, ⟨u11, u12, u13⟩, u14, u15, u16⟩) := ho8.imp' (fun g hg => (by have h1 := ex8.size; have h3 := S71.out; omega)); clear ho8 ex8 b8)
          | (refine step_appT (by rfl) _ _ (by rfl) 0 (.slice none 0 0) rows0 (by rfl) (J81.out.row.alloc _) ⟨u10, ⟨u11, u12, u13⟩, u14, u15, u16⟩ w81.heap.size (by rfl) (Blk.new' _ _ _ _ (by simp)) (by have h1 := J81.out.rlen; omega) (Nat.zero_le _) (w81.heap.size + 1) (by simp) ?_; intro g1 cap1 wz1 ow9 gr9 hg9; have Kx1 : Hid (PQ s w b6 i6 wr4 ou4 fu4 t4 ⟨x0, ⟨x1, x2, x3⟩, x4, x5, x6⟩ (([] : List Tree) ++ [stT allT]) ⟨some ⟨g1, 0, none⟩, (rows0).length + 1, cap1⟩ (rows0 ++ [⟨u10, ⟨u11, u12, u13⟩, u14, u15, u16⟩]) wz1) := (J81.out.bel' (bel_alloc _ (.cells (encT ⟨u10, ⟨u11, u12, u13⟩, u14, u15, u16⟩).toArray 26))).step (H81.out.bel (bel_alloc _ _)) (fun q hq => ⟨by have h1 := LL1.out.1; have h2 := J81.out.hb6; omega, hq.2, fun e => by have := LL1.out.2 q e; omega⟩) right_stAll (by simp) ow9 gr9 (by simpa using hg9); clear ow9 gr9 hg9))
      all_goals
        clear J51 J71 J81 H71 H81 LL1 S71 I5
        obtain ⟨rows1, hrows1⟩ : ∃ rows1 : List PC, rows1 = (rows0 ++ [⟨u10, ⟨u11, u12, u13⟩, u14, u15, u16⟩]) := ⟨_, rfl⟩
        rw [← hrows1] at Kx1
        clear hrows1
        obtain ⟨m0, m1, m2⟩ := BlkT.cs Kx1.out.pb
        simp only at m0 m1 m2
        have LLp : Hid (b6 < wz1.heap.size) := Kx1.out.pb.lt
        go_upto_region 12 with (refine wp_appX info26 Tryz.underlying24 encT_len oneT rfl (by decide) (by decide) (by rfl) _ _ (by rfl) 0 (.slice (some ⟨g1, 0, none⟩) ((rows0).length + 1) cap1) rows1 (by rfl) ((Kx1.out.bel' (bel_alloc _ (.cells (encT ⟨x0, ⟨x1, x2, x3⟩, x4, x5, x6⟩).toArray 26))).row) ⟨x0, ⟨x1, x2, x3⟩, x4, x5, x6⟩ wz1.heap.size (by rfl) (encT ⟨x0, ⟨x1, x2, x3⟩, x4, x5, x6⟩).toArray (Blk.new _ _ _) (by rfl) (by have h1 := Kx1.out.rlen; omega) (Nat.zero_le _) ?_; intro gp capp wp ow9 gr9 hg9 _; have Kp : Hid (PQ s w b6 i6 wr4 ou4 fu4 t4 ⟨x0, ⟨x1, x2, x3⟩, x4, x5, x6⟩ ((([] : List Tree) ++ [stT allT]) ++ [t4]) ⟨some ⟨gp, 0, none⟩, (rows1).length + 1, capp⟩ (rows1 ++ [⟨x0, ⟨x1, x2, x3⟩, x4, x5, x6⟩]) wp) := (Kx1.out.bel' (bel_alloc _ (.cells (encT ⟨x0, ⟨x1, x2, x3⟩, x4, x5, x6⟩).toArray 26))).step (HO.same (fun _ h => h) (fun q hq => (bel_alloc _ _).block q (by have := LLp.out; omega)) Kx1.out.ph) (fun q hq => ⟨hq.1, by have := LLp.out; simp; omega, fun e => by have := Kx1.out.rowQ q e; omega⟩) K4.out (by simp) ow9 gr9 (by simpa using hg9); clear ow9 gr9 hg9)
        clear m0 m1 m2
        obtain ⟨rows2, hrows2⟩ : ∃ rows2 : List PC, rows2 = (rows1 ++ [⟨x0, ⟨x1, x2, x3⟩, x4, x5, x6⟩]) := ⟨_, rfl⟩
        rw [← hrows2] at Kp
        clear hrows2 LLp Kx1
        have J52 : Hid (PQ s w b6 i6 wr4 ou4 fu4 t4 ⟨x0, ⟨x1, x2, x3⟩, x4, x5, x6⟩ ((([] : List Tree) ++ [stT allT]) ++ [t4]) ⟨some ⟨gp, 0, none⟩, (rows1).length + 1, capp⟩ rows2 (wp.drewN 1)) := Kp.out.bel' (below_drewN (Below.refl _ _) 1)
        have LL2 : Hid (b6 < wp.heap.size ∧ ∀ g, (Sl.v ⟨some ⟨gp, 0, none⟩, (rows1).length + 1, capp⟩).ownBlock = some g → g < wp.heap.size) := ⟨Kp.out.pb.lt, fun g hg => (Kp.out.row.lt hg).2⟩
        go_region_law
          (first
            | (go_simp; go_at_call 31; refine (all_any _).mono ?_; rintro _ w72 ⟨⟨a20, ⟨a21, a22, a23⟩, a24, a25, a26⟩, rfl, ho7, g7⟩; have J72 : Hid (PQ s w b6 i6 wr4 ou4 fu4 t4 ⟨x0, ⟨x1, x2, x3⟩, x4, x5, x6⟩ ((([] : List Tree) ++ [stT allT]) ++ [t4]) ⟨some ⟨gp, 0, none⟩, (rows1).length + 1, capp⟩ rows2 w72) := J52.out.bel' g7.below; have S72 : Hid (wp.heap.size ≤ w72.heap.size) := g7.below.size; have H72 : Hid (HO (fun g => wp.heap.size ≤ g ∧ g < w72.heap.size) w72 allT ⟨a20, ⟨a21, a22, a23⟩, a24, a25, a26⟩) := ho7; clear ho7 g7)
            | (go_simp; go_at_call 30; refine (rstar_any (P := fun g => wp.heap.size ≤ g ∧ g < w72.heap.size) J72.out.rd right_all (fun g hg => hg.2) H72.out).mono ?_; rintro _ w82 ⟨⟨u20, ⟨u21, u22, u23⟩, u24, u25, u26⟩, rfl, ho8, ex8, b8⟩; rw [kept_all] at ho8 b8; have J82 : Hid (PQ s w b6 i6 wr4 ou4 fu4 t4 ⟨x0, ⟨x1, x2, x3⟩, x4, x5, x6⟩ ((([] : List Tree) ++ [stT allT]) ++ [t4]) ⟨some ⟨gp, 0, none⟩, (rows1).length + 1, capp⟩ rows2 w82) := J72.out.go ex8 (by rw [Bool.or_false] at b8; exact b8); have H82 : Hid (HO (fun g => wp.heap.size ≤ g ∧ g < w82.heap.size) w82 (stT allT) ⟨u20, ⟨u21, u22, u23⟩, u24, u25, u26⟩) := ho8.imp' (fun g hg => (by have h1 := ex8.size; have h3 := S72.out; omega)); clear ho8 ex8 b8)
            | (refine step_appT (by rfl) _ _ (by rfl) 0 (.slice (some ⟨gp, 0, none⟩) ((rows1).length + 1) capp) rows2 (by rfl) (J82.out.row.alloc _) ⟨u20, ⟨u21, u22, u23⟩, u24, u25, u26⟩ w82.heap.size (by rfl) (Blk.new' _ _ _ _ (by simp)) (by have h1 := J82.out.rlen; omega) (Nat.zero_le _) (w82.heap.size + 1) (by simp) ?_; intro g2 cap2 wz2 ow9 gr9 hg9; have Kx2 : Hid (PQ s w b6 i6 wr4 ou4 fu4 t4 ⟨x0, ⟨x1, x2, x3⟩, x4, x5, x6⟩ (((([] : List Tree) ++ [stT allT]) ++ [t4]) ++ [stT allT]) ⟨some ⟨g2, 0, none⟩, (rows2).length + 1, cap2⟩ (rows2 ++ [⟨u20, ⟨u21, u22, u23⟩, u24, u25, u26⟩]) wz2) := (J82.out.bel' (bel_alloc _ (.cells (encT ⟨u20, ⟨u21, u22, u23⟩, u24, u25, u26⟩).toArray 26))).step (H82.out.bel (bel_alloc _ _)) (fun q hq => ⟨by have h1 := LL2.out.1; have h2 := J82.out.hb6; omega, hq.2, fun e => by have := LL2.out.2 q e; omega⟩) right_stAll (by simp) ow9 gr9 (by simpa using hg9); clear ow9 gr9 hg9))
        all_goals
          clear J52 J72 J82 H72 H82 LL2 S72 Kp
          have KF : Hid (PQ s w b6 i6 wr4 ou4 fu4 t4 ⟨x0, ⟨x1, x2, x3⟩, x4, x5, x6⟩ (wholeL false false t4) ⟨some ⟨g2, 0, none⟩, (rows2).length + 1, cap2⟩ (rows2 ++ [⟨u20, ⟨u21, u22, u23⟩, u24, u25, u26⟩]) wz2) := by first | exact Kx2.out | (have := Kx2.out; rw [HE0.out] at this; exact this)
          have HF : Hid _ := HFin.out _ rfl
          have KR : Hid (rightT (singleM 2 (wholeL false false t4)).1 = true) := right_single _ _ KF.out.rt
          go_wp2_with (first
            | (go_at_call 33; refine (rmany_any (k := 2) (P := fun g => w.heap.size + 2 ≤ g ∧ g < wz2.heap.size) KF.out.rd (Or.inl rfl) (ok_list' (by have := KF.out.len; omega) KF.out.rt) KF.out.rt (fun g hg => hg.2) KF.out.ho).mono ?_; rintro _ wa ⟨⟨r0, ⟨r1, r2, r3⟩, r4, r5, r6⟩, rfl, hoa, exa, ba⟩; have BA : Hid (Below w.heap.size w wa) := exa.toBel KF.out.bel (by omega); have RA : Hid (Blk wa w.heap.size (encT ⟨0, ⟨none, 0, 0⟩, ⟨none, 0, 0⟩⟩).toArray 26) := Blk.ex exa KF.out.res (by omega); have QA : Hid (BlkQ wa (w.heap.size + 1) s i6 wr4 ou4 (fu4 || (singleM 2 (wholeL false false t4)).2)) := ba; have HA : Hid (HO (fun g => w.heap.size + 2 ≤ g ∧ g < wa.heap.size) wa (singleM 2 (wholeL false false t4)).1 ⟨r0, ⟨r1, r2, r3⟩, r4, r5, r6⟩) := hoa.imp' (fun g hg => ⟨hg.1, Nat.lt_of_lt_of_le hg.2 exa.size⟩); clear hoa exa ba)
            | (go_at_call 32; refine (doneQ_any QA.out HI6.out KR.out HA.out.held).mono ?_; rintro _ wb ⟨⟨d0, ⟨d1, d2, d3⟩, d4, d5, d6⟩, rfl, hd1, hd2, gb⟩; have BB : Hid (Below w.heap.size w wb) := bstep BA.out gb; have RB : Hid (Blk wb w.heap.size (encT ⟨0, ⟨none, 0, 0⟩, ⟨none, 0, 0⟩⟩).toArray 26) := RA.out.bel gb; have HBf : Hid (HO (fun g => w.heap.size + 2 ≤ g ∧ g < wa.heap.size) wb (singleM 2 (wholeL false false t4)).1 ⟨r0, ⟨r1, r2, r3⟩, r4, r5, r6⟩) := HO.same (fun _ h => h) (fun q hq => gb.block q hq.2) HA.out; have HD : Hid ((doneK s i6 wr4 ou4 (fu4 || (singleM 2 (wholeL false false t4)).2) = 0 → (⟨d0, ⟨d1, d2, d3⟩, d4, d5, d6⟩ : PC) = ⟨r0, ⟨r1, r2, r3⟩, r4, r5, r6⟩) ∧ (doneK s i6 wr4 ou4 (fu4 || (singleM 2 (wholeL false false t4)).2) ≠ 0 → (⟨d0, ⟨d1, d2, d3⟩, d4, d5, d6⟩ : PC) = ⟨0, ⟨none, 0, 0⟩, ⟨none, 0, 0⟩⟩)) := ⟨hd1, hd2⟩; obtain ⟨y0, y1, y2⟩ := BlkT.cs RB.out; have z0 := RB.out.frozen; clear hd1 hd2 gb))
          obtain ⟨f1, f2, f3⟩ := HF.out
          obtain ⟨g1', g2'⟩ := HD.out
          generalize doneK s i6 wr4 ou4 (fu4 || (singleM 2 (wholeL false false t4)).2) = k at f1 f2 f3 g1' g2' ⊢
          refine bodyPost_ret (v := .tuple #[PC.v ⟨d0, ⟨d1, d2, d3⟩, ⟨d4, d5, d6⟩⟩, .int .i64 k]) ?_ rfl ⟨⟨d0, ⟨d1, d2, d3⟩, ⟨d4, d5, d6⟩⟩, by rw [f1], ?_, set3_bel BB.out (Nat.le_refl _) _ _ _⟩
          · have B := blk_put3 RB.out ⟨d0, ⟨d1, d2, d3⟩, ⟨d4, d5, d6⟩⟩
            simp only at B
            generalize hW7 : World.setCell _ _ _ = W7 at B ⊢
            obtain ⟨b0, b1, b2⟩ := BlkT.cs B
            simp only at b0 b1 b2
            simp [results, Tryz.results12, go_sem, b0, b1, b2]
          · by_cases hk0 : k = 0
            · rw [f2 hk0, g1' hk0]
              exact (HO.same (Q := fun g => w.heap.size + 2 ≤ g ∧ g < wa.heap.size) (fun _ h => h) (fun q hq => heap_set3 (by omega) _ _ _) HBf.out).held
            · rw [f3 hk0, g2' hk0]
              exact (HO_none (P := fun _ => True) 0).held

end Go.Proofs.YtnohkbdmnalmcaaGreatDoor
