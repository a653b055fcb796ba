/-
  The walk of the document's Meet.
-/
import Derived.Test.YtdilnelfkbeamaaW6
namespace Go.Proofs.Ytdilnelfkbeamaa
open Go.RowKit

set_option maxHeartbeats 8000000 in
theorem rmeet_any (a b : Rg) (ha : Num a.addr) (hb : Num b.addr) (w : World) :
    Calls Try.prog 18 #[gv a, gv b] w fun e' w' => e' = .returned (.tuple #[gv (if meetOk a b then meetX a b else ⟨0, 0, 0, 0⟩), .bool (meetOk a b)]) ∧ Gr w w' := by
  obtain ⟨a0, a1, a2, a3⟩ := a
  obtain ⟨b0, b1, b2, b3⟩ := b
  simp only at ha hb
  obtain ⟨mk, hmk⟩ : ∃ mk, mk = meetOk ⟨a0, a1, a2, a3⟩ ⟨b0, b1, b2, b3⟩ := ⟨_, rfl⟩
  obtain ⟨mv, hmv⟩ : ∃ mv, mv = if meetOk ⟨a0, a1, a2, a3⟩ ⟨b0, b1, b2, b3⟩ then meetX ⟨a0, a1, a2, a3⟩ ⟨b0, b1, b2, b3⟩ else ⟨0, 0, 0, 0⟩ := ⟨_, rfl⟩
  have HNO1 : Hid (meetOk ⟨a0, a1, a2, a3⟩ ⟨b0, b1, b2, b3⟩ = false → mk = false ∧ mv = ⟨0, 0, 0, 0⟩) := fun h => by
    rw [hmk, hmv, h]
    exact ⟨rfl, rfl⟩
  have HYES : Hid (meetOk ⟨a0, a1, a2, a3⟩ ⟨b0, b1, b2, b3⟩ = true → mk = true ∧ mv = meetX ⟨a0, a1, a2, a3⟩ ⟨b0, b1, b2, b3⟩) := fun h => by
    rw [hmk, hmv, h]
    exact ⟨rfl, rfl⟩
  rw [← hmv, ← hmk]
  clear hmv hmk
  have k1 := fun W => rrightR_any a0 a1 a2 a3 ha W
  have k2 := fun W => rrightR_any b0 b1 b2 b3 hb W
  have hmx : Try.prog.follows .mixedOrders = true := by kernel_rfl
  obtain ⟨W, hW⟩ : ∃ W, W = ((w.alloc (.cells #[.int .u32 a0, .int .i64 a1, .int .i64 a2, .int .i64 a3] 28)).alloc (.cells #[.int .u32 b0, .int .i64 b1, .int .i64 b2, .int .i64 b3] 28)).alloc (.cells #[.int .u32 0, .int .i64 0, .int .i64 0, .int .i64 0] 28) := ⟨_, rfl⟩
  have HA : Hid (BlkG W w.heap.size a0 a1 a2 a3) := by rw [hW]; exact ((Blk.new _ _ _).alloc _).alloc _
  have HB : Hid (BlkG W (w.heap.size + 1) b0 b1 b2 b3) := by rw [hW]; exact (Blk.new' _ _ _ _ (by simp)).alloc _
  have HZ : Hid (BlkG W (w.heap.size + 1 + 1) 0 0 0 0) := by rw [hW]; exact Blk.new' _ _ _ _ (by simp)
  have HW0 : Hid (Gr w W) := by rw [hW]; exact (((Gr.refl _).alloc _).alloc _).alloc _
  have HW2 : Hid (((w.alloc (.cells #[.int .u32 a0, .int .i64 a1, .int .i64 a2, .int .i64 a3] 28)).alloc (.cells #[.int .u32 b0, .int .i64 b1, .int .i64 b2, .int .i64 b3] 28)).alloc (.cells #[.int .u32 0, .int .i64 0, .int .i64 0, .int .i64 0] 28) = W) := hW.symm
  clear hW
  have HNA : Hid (rightR ⟨a0, a1, a2, a3⟩ = false → meetOk ⟨a0, a1, a2, a3⟩ ⟨b0, b1, b2, b3⟩ = false) := fun h => by
    cases hm : meetOk ⟨a0, a1, a2, a3⟩ ⟨b0, b1, b2, b3⟩
    · rfl
    · rw [(meetOk_iff.1 hm).1] at h; cases h
  have HNB : Hid (rightR ⟨b0, b1, b2, b3⟩ = false → meetOk ⟨a0, a1, a2, a3⟩ ⟨b0, b1, b2, b3⟩ = false) := fun h => by
    cases hm : meetOk ⟨a0, a1, a2, a3⟩ ⟨b0, b1, b2, b3⟩
    · rfl
    · rw [(meetOk_iff.1 hm).2.1] at h; cases h
  obtain ⟨qa, hqa⟩ : ∃ qa, qa = rightR ⟨a0, a1, a2, a3⟩ := ⟨_, rfl⟩
  obtain ⟨qb, hqb⟩ : ∃ qb, qb = rightR ⟨b0, b1, b2, b3⟩ := ⟨_, rfl⟩
  rw [← hqa] at k1
  rw [← hqb] at k2
  have HQA : Hid (qa = rightR ⟨a0, a1, a2, a3⟩) := hqa
  have HQB : Hid (qb = rightR ⟨b0, b1, b2, b3⟩) := hqb
  clear hqa hqb
  go_enter Try.func18, Try.ntmps18
  go_wp2_with fail
  rw [HW2.out]
  clear HW2
  refine (k1 W).mono ?_
  rintro _ w1 ⟨rfl, gw⟩
  have G1 : Hid (Gr W w1) := gw
  clear gw
  cases qa
  case false =>
    obtain ⟨z0, z1, z2, z3⟩ := BlkG.cs (HZ.out.gr G1.out)
    have zf := (HZ.out.gr G1.out).frozen
    go_wp2_with fail
    refine bodyPost_ret (v := .tuple #[.agg #[.int .u32 0, .int .i64 0, .int .i64 0, .int .i64 0], .bool false]) (by simp [results, Try.results18, go_sem, z0, z1, z2, z3]) rfl ⟨?_, set4_gr (HW0.out.trans G1.out) (by omega) _ _ _ _⟩
    obtain ⟨e1, e2⟩ := HNO1.out (HNA.out HQA.out.symm)
    rw [e1, e2]
  obtain ⟨x0, x1, x2, x3⟩ := BlkG.cs (HB.out.gr G1.out)
  cases qb
  case false =>
    go_wp2_with (go_at_call 12; refine (k2 _).mono ?_; rintro _ w2 ⟨rfl, gw⟩; have G2 : Hid (Gr W w2) := G1.out.trans gw; clear gw; obtain ⟨z0, z1, z2, z3⟩ := BlkG.cs (HZ.out.gr G2.out); have zf := (HZ.out.gr G2.out).frozen)
    refine bodyPost_ret (v := .tuple #[.agg #[.int .u32 0, .int .i64 0, .int .i64 0, .int .i64 0], .bool false]) (by simp [results, Try.results18, go_sem, z0, z1, z2, z3]) rfl ⟨?_, set4_gr (HW0.out.trans G2.out) (by omega) _ _ _ _⟩
    obtain ⟨e1, e2⟩ := HNO1.out (HNB.out HQB.out.symm)
    rw [e1, e2]
  have HRA : Hid (rightR ⟨a0, a1, a2, a3⟩ = true) := HQA.out.symm
  have HRB : Hid (rightR ⟨b0, b1, b2, b3⟩ = true) := HQB.out.symm
  go_wp2_with fail
  refine (k2 _).mono ?_
  rintro _ w2 ⟨rfl, gw⟩
  have HW : Hid (Gr w w2) := (HW0.out.trans G1.out).trans gw
  have HA2 : Hid (BlkG w2 w.heap.size a0 a1 a2 a3) := (HA.out.gr G1.out).gr gw
  have HB2 : Hid (BlkG w2 (w.heap.size + 1) b0 b1 b2 b3) := (HB.out.gr G1.out).gr gw
  have HZ2 : Hid (BlkG w2 (w.heap.size + 1 + 1) 0 0 0 0) := (HZ.out.gr G1.out).gr gw
  clear gw G1 HA HB HZ HW0 HNA HNB HQA HQB k1 k2 x0 x1 x2 x3
  obtain ⟨x0, x1, x2, x3⟩ := BlkG.cs HA2.out
  obtain ⟨y0, y1, y2, y3⟩ := BlkG.cs HB2.out
  have lt0 := HA2.out.lt
  have lt1 := HB2.out.lt
  have lt2 := HZ2.out.lt
  by_cases hab : a1 < b1
  · obtain ⟨G, hG⟩ : ∃ G, G = max (max a2 b2) b1 := ⟨_, rfl⟩
    obtain ⟨E, hE⟩ : ∃ E, E = min a3 b3 := ⟨_, rfl⟩
    have hmax := fun W => max3_any a2 b2 b1 W
    have hmin := fun W => min2_any a3 b3 W
    rw [← hG] at hmax
    rw [← hE] at hmin
    have ka := fun W => cut_any b0 a1 hb W
    have kb := fun W => cut_any b0 b1 hb W
    have HX : Hid (meetX ⟨a0, a1, a2, a3⟩ ⟨b0, b1, b2, b3⟩ = ⟨b0, b1, G, E⟩) := by
      unfold Hid meetX
      simp [hab, hG, hE]
    have HOK : Hid ((¬ (maskA b0 a1 = a0 ∧ maskA b0 b1 = b0 ∧ G ≤ E) → mk = false ∧ mv = ⟨0, 0, 0, 0⟩) ∧ ((maskA b0 a1 = a0 ∧ maskA b0 b1 = b0 ∧ G ≤ E) → mk = true ∧ mv = ⟨b0, b1, G, E⟩)) := by
      have := meetOk_iff (a := ⟨a0, a1, a2, a3⟩) (b := ⟨b0, b1, b2, b3⟩)
      rw [HX.out] at this
      refine ⟨fun h => HNO1.out ?_, fun h => ?_⟩
      · cases hm : meetOk ⟨a0, a1, a2, a3⟩ ⟨b0, b1, b2, b3⟩
        · rfl
        · exact absurd (this.1 hm).2.2 h
      · have := HYES.out (this.2 ⟨HRA.out, HRB.out, h⟩)
        rw [HX.out] at this
        exact this
    clear hG hE HX HYES HNO1
    obtain ⟨W3, hW3⟩ : ∃ W3, W3 = (w2.alloc (.cells #[.int .u32 b0, .int .i64 b1] 25)).alloc (.cells #[.int .u32 b0, .int .i64 b1, .int .i64 G, .int .i64 E] 28) := ⟨_, rfl⟩
    have HW32 : Hid ((w2.alloc (.cells #[.int .u32 b0, .int .i64 b1] 25)).alloc (.cells #[.int .u32 b0, .int .i64 b1, .int .i64 G, .int .i64 E] 28) = W3) := hW3.symm
    have HA3 : Hid (BlkG W3 w.heap.size a0 a1 a2 a3) := by rw [hW3]; exact (HA2.out.alloc _).alloc _
    have HB3 : Hid (BlkG W3 (w.heap.size + 1) b0 b1 b2 b3) := by rw [hW3]; exact (HB2.out.alloc _).alloc _
    have HZ : Hid (BlkG W3 (w.heap.size + 1 + 1) 0 0 0 0) := by rw [hW3]; exact (HZ2.out.alloc _).alloc _
    have HBs : Hid (BlkP W3 w2.heap.size b0 b1) := by rw [hW3]; exact (Blk.new _ _ _).alloc _
    have HM : Hid (BlkG W3 (w2.heap.size + 1) b0 b1 G E) := by rw [hW3]; exact Blk.new' _ _ _ _ (by simp)
    have HW3 : Hid (Gr w W3) := by rw [hW3]; exact (HW.out.alloc _).alloc _
    clear hW3
    go_wp2_with fail
    rw [HW32.out]
    clear HW32 x0 x1 x2 x3 y0 y1 y2 y3
    have c1 := fun n os => (BlkP.cs (HBs.out.grow n os)).1
    have c2 := fun n os => (BlkG.cs (HA3.out.grow n os)).1
    have c3 := fun n os => (BlkG.cs (HA3.out.grow n os)).2.1
    have c4 := fun n os => (BlkG.cs (HB3.out.grow n os)).1
    have c5 := fun n os => (BlkG.cs (HB3.out.grow n os)).2.1
    have c6 := fun n os => (BlkG.cs (HM.out.grow n os)).2.2.1
    have c7 := fun n os => (BlkG.cs (HM.out.grow n os)).2.2.2
    have c8 := hmx
    generalize maskA b0 a1 = za at *
    generalize maskA b0 b1 = zb at *
    by_cases hna : za = a0
    case neg =>
      have ha' : (za == a0) = false := by simpa using hna
      have HNO : Hid (¬ (za = a0 ∧ zb = b0 ∧ G ≤ E)) := fun h => hna h.1
      refine wp_region_quiet_grownB (by assumption) (by kernel_rfl) ?_
      repeat (refine wpQuiet_stepB (fun K hK => ?_); go_simp; first | (refine hK _ ?_; clear hK K) | (apply Exists.intro; refine ⟨fun _ => ?_, hK _ ?_⟩; (first | (go_at_call 31; with_reducible refine Calls.grown_of (ka _)) | (go_at_call 31; with_reducible refine Calls.grown_of (kb _))); clear hK K))
      refine wpQuiet_nilB ?_
      intro _ hw'
      obtain ⟨⟨nq, osq⟩, hw''⟩ := hw'
      subst hw''
      have hgq : Gr W3 (Sort.grow (W3.drewN nq) osq) := ⟨_, _, rfl⟩
      obtain ⟨z0, z1, z2, z3⟩ := BlkG.cs (HZ.out.gr hgq)
      have zf := (HZ.out.gr hgq).frozen
      obtain ⟨y0, y1, y2, y3⟩ := BlkG.cs (HM.out.gr hgq)
      have HGq : Hid (Gr w (Sort.grow (W3.drewN nq) osq)) := HW3.out.trans hgq
      clear hgq
      generalize Sort.grow (W3.drewN nq) osq = W4 at *
      clear c1 c2 c3 c4 c5 c6 c7 c8
      go_wp2_with fail
      refine bodyPost_ret (v := .tuple #[.agg #[.int .u32 0, .int .i64 0, .int .i64 0, .int .i64 0], .bool false]) (by simp [results, Try.results18, go_sem, z0, z1, z2, z3]) rfl ⟨?_, set4_gr HGq.out (by omega) _ _ _ _⟩
      obtain ⟨e1, e2⟩ := HOK.out.1 HNO.out
      rw [e1, e2]
    by_cases hnb : zb = b0
    case neg =>
      have ha' : (za == a0) = true := by simpa using hna
      have hb' : (zb == b0) = false := by simpa using hnb
      have HNO : Hid (¬ (za = a0 ∧ zb = b0 ∧ G ≤ E)) := fun h => hnb h.2.1
      refine wp_region_quiet_grownB (by assumption) (by kernel_rfl) ?_
      repeat (refine wpQuiet_stepB (fun K hK => ?_); go_simp; first | (refine hK _ ?_; clear hK K) | (apply Exists.intro; refine ⟨fun _ => ?_, hK _ ?_⟩; (first | (go_at_call 31; with_reducible refine Calls.grown_of (ka _)) | (go_at_call 31; with_reducible refine Calls.grown_of (kb _))); clear hK K))
      refine wpQuiet_nilB ?_
      intro _ hw'
      obtain ⟨⟨nq, osq⟩, hw''⟩ := hw'
      subst hw''
      have hgq : Gr W3 (Sort.grow (W3.drewN nq) osq) := ⟨_, _, rfl⟩
      obtain ⟨z0, z1, z2, z3⟩ := BlkG.cs (HZ.out.gr hgq)
      have zf := (HZ.out.gr hgq).frozen
      obtain ⟨y0, y1, y2, y3⟩ := BlkG.cs (HM.out.gr hgq)
      have HGq : Hid (Gr w (Sort.grow (W3.drewN nq) osq)) := HW3.out.trans hgq
      clear hgq
      generalize Sort.grow (W3.drewN nq) osq = W4 at *
      clear c1 c2 c3 c4 c5 c6 c7 c8
      go_wp2_with fail
      refine bodyPost_ret (v := .tuple #[.agg #[.int .u32 0, .int .i64 0, .int .i64 0, .int .i64 0], .bool false]) (by simp [results, Try.results18, go_sem, z0, z1, z2, z3]) rfl ⟨?_, set4_gr HGq.out (by omega) _ _ _ _⟩
      obtain ⟨e1, e2⟩ := HOK.out.1 HNO.out
      rw [e1, e2]
    have ha' : (za == a0) = true := by simpa using hna
    have hb' : (zb == b0) = true := by simpa using hnb
    by_cases hge : G ≤ E
    case neg =>
      have hE : E < G := by omega
      have HNO : Hid (¬ (za = a0 ∧ zb = b0 ∧ G ≤ E)) := fun h => hge h.2.2
      refine wp_region_quiet_grownB (by assumption) (by kernel_rfl) ?_
      repeat (refine wpQuiet_stepB (fun K hK => ?_); go_simp; first | (refine hK _ ?_; clear hK K) | (apply Exists.intro; refine ⟨fun _ => ?_, hK _ ?_⟩; (first | (go_at_call 31; with_reducible refine Calls.grown_of (ka _)) | (go_at_call 31; with_reducible refine Calls.grown_of (kb _))); clear hK K))
      refine wpQuiet_nilB ?_
      intro _ hw'
      obtain ⟨⟨nq, osq⟩, hw''⟩ := hw'
      subst hw''
      have hgq : Gr W3 (Sort.grow (W3.drewN nq) osq) := ⟨_, _, rfl⟩
      obtain ⟨z0, z1, z2, z3⟩ := BlkG.cs (HZ.out.gr hgq)
      have zf := (HZ.out.gr hgq).frozen
      obtain ⟨y0, y1, y2, y3⟩ := BlkG.cs (HM.out.gr hgq)
      have HGq : Hid (Gr w (Sort.grow (W3.drewN nq) osq)) := HW3.out.trans hgq
      clear hgq
      generalize Sort.grow (W3.drewN nq) osq = W4 at *
      clear c1 c2 c3 c4 c5 c6 c7 c8
      go_wp2_with fail
      refine bodyPost_ret (v := .tuple #[.agg #[.int .u32 0, .int .i64 0, .int .i64 0, .int .i64 0], .bool false]) (by simp [results, Try.results18, go_sem, z0, z1, z2, z3]) rfl ⟨?_, set4_gr HGq.out (by omega) _ _ _ _⟩
      obtain ⟨e1, e2⟩ := HOK.out.1 HNO.out
      rw [e1, e2]
    refine wp_region_quiet_grownB (by assumption) (by kernel_rfl) ?_
    repeat (refine wpQuiet_stepB (fun K hK => ?_); go_simp; first | (refine hK _ ?_; clear hK K) | (apply Exists.intro; refine ⟨fun _ => ?_, hK _ ?_⟩; (first | (go_at_call 31; with_reducible refine Calls.grown_of (ka _)) | (go_at_call 31; with_reducible refine Calls.grown_of (kb _))); clear hK K))
    refine wpQuiet_nilB ?_
    intro _ hw'
    obtain ⟨⟨nq, osq⟩, hw''⟩ := hw'
    subst hw''
    have hgq : Gr W3 (Sort.grow (W3.drewN nq) osq) := ⟨_, _, rfl⟩
    obtain ⟨z0, z1, z2, z3⟩ := BlkG.cs (HZ.out.gr hgq)
    have zf := (HZ.out.gr hgq).frozen
    obtain ⟨y0, y1, y2, y3⟩ := BlkG.cs (HM.out.gr hgq)
    have HGq : Hid (Gr w (Sort.grow (W3.drewN nq) osq)) := HW3.out.trans hgq
    clear hgq
    generalize Sort.grow (W3.drewN nq) osq = W4 at *
    clear c1 c2 c3 c4 c5 c6 c7 c8
    go_wp2_with fail
    refine bodyPost_ret (v := .tuple #[.agg #[.int .u32 b0, .int .i64 b1, .int .i64 G, .int .i64 E], .bool true]) (by simp [results, Try.results18, go_sem, z0, z1, z2, z3]) rfl ⟨?_, set4_gr HGq.out (by omega) _ _ _ _⟩
    obtain ⟨e1, e2⟩ := HOK.out.2 ⟨hna, hnb, hge⟩
    rw [e1, e2]
  · obtain ⟨G, hG⟩ : ∃ G, G = max (max a2 b2) a1 := ⟨_, rfl⟩
    obtain ⟨E, hE⟩ : ∃ E, E = min a3 b3 := ⟨_, rfl⟩
    have hmax := fun W => max3_any a2 b2 a1 W
    have hmin := fun W => min2_any a3 b3 W
    rw [← hG] at hmax
    rw [← hE] at hmin
    have ka := fun W => cut_any a0 a1 ha W
    have kb := fun W => cut_any a0 b1 ha W
    have HX : Hid (meetX ⟨a0, a1, a2, a3⟩ ⟨b0, b1, b2, b3⟩ = ⟨a0, a1, G, E⟩) := by
      unfold Hid meetX
      simp [hab, hG, hE]
    have HOK : Hid ((¬ (maskA a0 a1 = a0 ∧ maskA a0 b1 = b0 ∧ G ≤ E) → mk = false ∧ mv = ⟨0, 0, 0, 0⟩) ∧ ((maskA a0 a1 = a0 ∧ maskA a0 b1 = b0 ∧ G ≤ E) → mk = true ∧ mv = ⟨a0, a1, G, E⟩)) := by
      have := meetOk_iff (a := ⟨a0, a1, a2, a3⟩) (b := ⟨b0, b1, b2, b3⟩)
      rw [HX.out] at this
      refine ⟨fun h => HNO1.out ?_, fun h => ?_⟩
      · cases hm : meetOk ⟨a0, a1, a2, a3⟩ ⟨b0, b1, b2, b3⟩
        · rfl
        · exact absurd (this.1 hm).2.2 h
      · have := HYES.out (this.2 ⟨HRA.out, HRB.out, h⟩)
        rw [HX.out] at this
        exact this
    clear hG hE HX HYES HNO1
    obtain ⟨W3, hW3⟩ : ∃ W3, W3 = (w2.alloc (.cells #[.int .u32 a0, .int .i64 a1] 25)).alloc (.cells #[.int .u32 a0, .int .i64 a1, .int .i64 G, .int .i64 E] 28) := ⟨_, rfl⟩
    have HW32 : Hid ((w2.alloc (.cells #[.int .u32 a0, .int .i64 a1] 25)).alloc (.cells #[.int .u32 a0, .int .i64 a1, .int .i64 G, .int .i64 E] 28) = W3) := hW3.symm
    have HA3 : Hid (BlkG W3 w.heap.size a0 a1 a2 a3) := by rw [hW3]; exact (HA2.out.alloc _).alloc _
    have HB3 : Hid (BlkG W3 (w.heap.size + 1) b0 b1 b2 b3) := by rw [hW3]; exact (HB2.out.alloc _).alloc _
    have HZ : Hid (BlkG W3 (w.heap.size + 1 + 1) 0 0 0 0) := by rw [hW3]; exact (HZ2.out.alloc _).alloc _
    have HBs : Hid (BlkP W3 w2.heap.size a0 a1) := by rw [hW3]; exact (Blk.new _ _ _).alloc _
    have HM : Hid (BlkG W3 (w2.heap.size + 1) a0 a1 G E) := by rw [hW3]; exact Blk.new' _ _ _ _ (by simp)
    have HW3 : Hid (Gr w W3) := by rw [hW3]; exact (HW.out.alloc _).alloc _
    clear hW3
    go_wp2_with fail
    rw [HW32.out]
    clear HW32 x0 x1 x2 x3 y0 y1 y2 y3
    have c1 := fun n os => (BlkP.cs (HBs.out.grow n os)).1
    have c2 := fun n os => (BlkG.cs (HA3.out.grow n os)).1
    have c3 := fun n os => (BlkG.cs (HA3.out.grow n os)).2.1
    have c4 := fun n os => (BlkG.cs (HB3.out.grow n os)).1
    have c5 := fun n os => (BlkG.cs (HB3.out.grow n os)).2.1
    have c6 := fun n os => (BlkG.cs (HM.out.grow n os)).2.2.1
    have c7 := fun n os => (BlkG.cs (HM.out.grow n os)).2.2.2
    have c8 := hmx
    generalize maskA a0 a1 = za at *
    generalize maskA a0 b1 = zb at *
    by_cases hna : za = a0
    case neg =>
      have ha' : (za == a0) = false := by simpa using hna
      have HNO : Hid (¬ (za = a0 ∧ zb = b0 ∧ G ≤ E)) := fun h => hna h.1
      refine wp_region_quiet_grownB (by assumption) (by kernel_rfl) ?_
      repeat (refine wpQuiet_stepB (fun K hK => ?_); go_simp; first | (refine hK _ ?_; clear hK K) | (apply Exists.intro; refine ⟨fun _ => ?_, hK _ ?_⟩; (first | (go_at_call 31; with_reducible refine Calls.grown_of (ka _)) | (go_at_call 31; with_reducible refine Calls.grown_of (kb _))); clear hK K))
      refine wpQuiet_nilB ?_
      intro _ hw'
      obtain ⟨⟨nq, osq⟩, hw''⟩ := hw'
      subst hw''
      have hgq : Gr W3 (Sort.grow (W3.drewN nq) osq) := ⟨_, _, rfl⟩
      obtain ⟨z0, z1, z2, z3⟩ := BlkG.cs (HZ.out.gr hgq)
      have zf := (HZ.out.gr hgq).frozen
      obtain ⟨y0, y1, y2, y3⟩ := BlkG.cs (HM.out.gr hgq)
      have HGq : Hid (Gr w (Sort.grow (W3.drewN nq) osq)) := HW3.out.trans hgq
      clear hgq
      generalize Sort.grow (W3.drewN nq) osq = W4 at *
      clear c1 c2 c3 c4 c5 c6 c7 c8
      go_wp2_with fail
      refine bodyPost_ret (v := .tuple #[.agg #[.int .u32 0, .int .i64 0, .int .i64 0, .int .i64 0], .bool false]) (by simp [results, Try.results18, go_sem, z0, z1, z2, z3]) rfl ⟨?_, set4_gr HGq.out (by omega) _ _ _ _⟩
      obtain ⟨e1, e2⟩ := HOK.out.1 HNO.out
      rw [e1, e2]
    by_cases hnb : zb = b0
    case neg =>
      have ha' : (za == a0) = true := by simpa using hna
      have hb' : (zb == b0) = false := by simpa using hnb
      have HNO : Hid (¬ (za = a0 ∧ zb = b0 ∧ G ≤ E)) := fun h => hnb h.2.1
      refine wp_region_quiet_grownB (by assumption) (by kernel_rfl) ?_
      repeat (refine wpQuiet_stepB (fun K hK => ?_); go_simp; first | (refine hK _ ?_; clear hK K) | (apply Exists.intro; refine ⟨fun _ => ?_, hK _ ?_⟩; (first | (go_at_call 31; with_reducible refine Calls.grown_of (ka _)) | (go_at_call 31; with_reducible refine Calls.grown_of (kb _))); clear hK K))
      refine wpQuiet_nilB ?_
      intro _ hw'
      obtain ⟨⟨nq, osq⟩, hw''⟩ := hw'
      subst hw''
      have hgq : Gr W3 (Sort.grow (W3.drewN nq) osq) := ⟨_, _, rfl⟩
      obtain ⟨z0, z1, z2, z3⟩ := BlkG.cs (HZ.out.gr hgq)
      have zf := (HZ.out.gr hgq).frozen
      obtain ⟨y0, y1, y2, y3⟩ := BlkG.cs (HM.out.gr hgq)
      have HGq : Hid (Gr w (Sort.grow (W3.drewN nq) osq)) := HW3.out.trans hgq
      clear hgq
      generalize Sort.grow (W3.drewN nq) osq = W4 at *
      clear c1 c2 c3 c4 c5 c6 c7 c8
      go_wp2_with fail
      refine bodyPost_ret (v := .tuple #[.agg #[.int .u32 0, .int .i64 0, .int .i64 0, .int .i64 0], .bool false]) (by simp [results, Try.results18, go_sem, z0, z1, z2, z3]) rfl ⟨?_, set4_gr HGq.out (by omega) _ _ _ _⟩
      obtain ⟨e1, e2⟩ := HOK.out.1 HNO.out
      rw [e1, e2]
    have ha' : (za == a0) = true := by simpa using hna
    have hb' : (zb == b0) = true := by simpa using hnb
    by_cases hge : G ≤ E
    case neg =>
      have hE : E < G := by omega
      have HNO : Hid (¬ (za = a0 ∧ zb = b0 ∧ G ≤ E)) := fun h => hge h.2.2
      refine wp_region_quiet_grownB (by assumption) (by kernel_rfl) ?_
      repeat (refine wpQuiet_stepB (fun K hK => ?_); go_simp; first | (refine hK _ ?_; clear hK K) | (apply Exists.intro; refine ⟨fun _ => ?_, hK _ ?_⟩; (first | (go_at_call 31; with_reducible refine Calls.grown_of (ka _)) | (go_at_call 31; with_reducible refine Calls.grown_of (kb _))); clear hK K))
      refine wpQuiet_nilB ?_
      intro _ hw'
      obtain ⟨⟨nq, osq⟩, hw''⟩ := hw'
      subst hw''
      have hgq : Gr W3 (Sort.grow (W3.drewN nq) osq) := ⟨_, _, rfl⟩
      obtain ⟨z0, z1, z2, z3⟩ := BlkG.cs (HZ.out.gr hgq)
      have zf := (HZ.out.gr hgq).frozen
      obtain ⟨y0, y1, y2, y3⟩ := BlkG.cs (HM.out.gr hgq)
      have HGq : Hid (Gr w (Sort.grow (W3.drewN nq) osq)) := HW3.out.trans hgq
      clear hgq
      generalize Sort.grow (W3.drewN nq) osq = W4 at *
      clear c1 c2 c3 c4 c5 c6 c7 c8
      go_wp2_with fail
      refine bodyPost_ret (v := .tuple #[.agg #[.int .u32 0, .int .i64 0, .int .i64 0, .int .i64 0], .bool false]) (by simp [results, Try.results18, go_sem, z0, z1, z2, z3]) rfl ⟨?_, set4_gr HGq.out (by omega) _ _ _ _⟩
      obtain ⟨e1, e2⟩ := HOK.out.1 HNO.out
      rw [e1, e2]
    refine wp_region_quiet_grownB (by assumption) (by kernel_rfl) ?_
    repeat (refine wpQuiet_stepB (fun K hK => ?_); go_simp; first | (refine hK _ ?_; clear hK K) | (apply Exists.intro; refine ⟨fun _ => ?_, hK _ ?_⟩; (first | (go_at_call 31; with_reducible refine Calls.grown_of (ka _)) | (go_at_call 31; with_reducible refine Calls.grown_of (kb _))); clear hK K))
    refine wpQuiet_nilB ?_
    intro _ hw'
    obtain ⟨⟨nq, osq⟩, hw''⟩ := hw'
    subst hw''
    have hgq : Gr W3 (Sort.grow (W3.drewN nq) osq) := ⟨_, _, rfl⟩
    obtain ⟨z0, z1, z2, z3⟩ := BlkG.cs (HZ.out.gr hgq)
    have zf := (HZ.out.gr hgq).frozen
    obtain ⟨y0, y1, y2, y3⟩ := BlkG.cs (HM.out.gr hgq)
    have HGq : Hid (Gr w (Sort.grow (W3.drewN nq) osq)) := HW3.out.trans hgq
    clear hgq
    generalize Sort.grow (W3.drewN nq) osq = W4 at *
    clear c1 c2 c3 c4 c5 c6 c7 c8
    go_wp2_with fail
    refine bodyPost_ret (v := .tuple #[.agg #[.int .u32 a0, .int .i64 a1, .int .i64 G, .int .i64 E], .bool true]) (by simp [results, Try.results18, go_sem, z0, z1, z2, z3]) rfl ⟨?_, set4_gr HGq.out (by omega) _ _ _ _⟩
    obtain ⟨e1, e2⟩ := HOK.out.2 ⟨hna, hnb, hge⟩
    rw [e1, e2]

end Go.Proofs.Ytdilnelfkbeamaa
