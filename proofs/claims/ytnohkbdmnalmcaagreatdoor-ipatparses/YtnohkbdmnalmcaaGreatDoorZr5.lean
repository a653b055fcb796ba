/-
  Walks: the document's Star, Opt, Plus, Many.
-/
import Derived.Test.YtnohkbdmnalmcaaGreatDoorZr3
namespace Go.Proofs.YtnohkbdmnalmcaaGreatDoor
open Go.RowKit

theorem kinds_st {t : Tree} (h : rightT t = true) : kindsT (stT t) = true := by
  simp [stT, kindsT_mk, kindsL_cons, kindsL_nil, okAlone, (right_parts h).2.2]
theorem kinds_opt {t : Tree} (h : rightT t = true) : kindsT (optT t) = true := by
  simp [optT, emT, kindsT_mk, kindsL_cons, kindsL_nil, okAlone, (right_parts h).2.2]
theorem kinds_plus {t t' : Tree} (h : rightT t = true) (h' : rightT t' = true) : kindsT (.mk 2 [] [t, t']) = true := by
  simp [kindsT_mk, kindsL_cons, kindsL_nil, okAlone, (right_parts h).2.2, (right_parts h').2.2]
theorem kindsL_of : ∀ {ts : List Tree}, (∀ t ∈ ts, rightT t = true) → kindsL ts = true
  | [], _ => by rw [kindsL_nil]
  | t :: ts, h => by
    rw [kindsL_cons, (right_parts (h t (by simp))).2.2, kindsL_of fun u hu => h u (by simp [hu])]
    rfl
theorem kinds_list {k : Int} (hk : k = 2 ∨ k = 3) {ts : List Tree} (h : ∀ t ∈ ts, rightT t = true) : kindsT (.mk k [] ts) = true := by
  rw [kindsT_mk, kindsL_of h]
  rcases hk with rfl | rfl <;> simp [okAlone]

/-- What a sign comes to. -/
def PostS (s : ByteArray) (b i : Nat) (wr ou fu : Bool) (P : Nat → Prop) (m : Tree × Bool) (w : World) (e : Ending) (w' : World) : Prop :=
  ∃ r : PC, e = .returned r.v ∧ HO (fun g => P g ∨ (w.heap.size ≤ g ∧ g < w'.heap.size)) w' m.1 r ∧ Ex b w w' ∧ BlkQ w' b s i wr ou (fu || m.2)

set_option maxRecDepth 100000 in
set_option maxHeartbeats 2000000 in
theorem rstar_any {P : Nat → Prop} {s : ByteArray} {b i : Nat} {wr ou fu : Bool} {t : Tree} {x : PC} {w : World} (hb : BlkQ w b s i wr ou fu) (hr : rightT t = true) (hP : ∀ g, P g → g < w.heap.size) (hx : HO P w t x) :
    Calls Tryz.prog 30 #[.pointer (some ⟨b, 4, none⟩), x.v] w fun e w' => PostS s b i wr ou fu P (keptM (stT t)) w e w' := by
  have HX : Hid (HO P w t x) := hx
  have HPp : Hid (∀ g, P g → g < w.heap.size) := hP
  have HB : Hid (BlkQ w b s i wr ou fu) := hb
  have hlt := hb.lt
  have HR : Hid (rightT t = true) := hr
  have HI : Hid _ := KQ.start w x
  obtain ⟨xk, ⟨x1, x2, x3⟩, x4, x5, x6⟩ := x
  simp only at HI
  clear hx hb hr hP
  go_enter Tryz.func30, Tryz.ntmps30
  go_upto_region 1 with fail
  have HZ : Hid (((w.alloc (.cells #[.int .i64 xk, .slice x1 x2 x3, .slice x4 x5 x6] 26)).alloc (.cells #[.int .i64 0, .slice none 0 0, .slice none 0 0] 26)).heap.size = w.heap.size + 2) := by simp [Hid]
  generalize hW : World.alloc _ _ = W0 at HI HZ
  clear hW
  obtain ⟨m0, m1, m2⟩ := BlkT.cs HI.out.box
  simp only at m0 m1 m2
  go_wp2_with (go_at_call 52; refine (fit_any (P := fun g => P g ∨ g = W0.heap.size) (t := stT t) (x := ⟨4, ⟨none, 0, 0⟩, ⟨some ⟨W0.heap.size, 0, none⟩, 1, 1⟩⟩) ((HB.out.bel HI.out.bel).alloc _) (ok_st HR.out) (kinds_st HR.out) (fun g hg => hg.elim (fun h => by have := HPp.out g h; have := HZ.out; simp; omega) (fun h => by simp; omega)) (HO_sub1 (HO.same (fun g hg => Or.inl hg) (fun g hg => (bstep HI.out.bel (bel_alloc _ _)).block g (HPp.out g hg)) HX.out) (Blk.new _ _ _) rfl (Or.inr rfl))).mono ?_; rintro _ w3 ⟨⟨r0, ⟨r1, r2, r3⟩, r4, r5, r6⟩, rfl, ho3, ex3, b3⟩; have H3 : Hid (HO (fun g => P g ∨ g = W0.heap.size) w3 (keptM (stT t)).1 ⟨r0, ⟨r1, r2, r3⟩, r4, r5, r6⟩) := ho3; have E3 : Hid (Ex b w w3) := (Ex.of_bel (bstep HI.out.bel (bel_alloc _ _))).trans ex3; have Z3 : Hid (W0.heap.size + 1 ≤ w3.heap.size) := Nat.le_trans (by simp) ex3.size; have B3 : Hid (BlkQ w3 b s i wr ou (fu || (keptM (stT t)).2)) := b3; have R3 : Hid (Blk w3 (w.heap.size + 1) (encT ⟨0, ⟨none, 0, 0⟩, ⟨none, 0, 0⟩⟩).toArray 26) := Blk.ex ex3 (HI.out.res.alloc _) (by omega); obtain ⟨y0, y1, y2⟩ := BlkT.cs R3.out; have z0 := R3.out.frozen; clear ho3 ex3 b3)
  refine bodyPost_ret (v := PC.v ⟨r0, ⟨r1, r2, r3⟩, ⟨r4, r5, r6⟩⟩) ?_ rfl ⟨_, rfl, ?_, set3_ex E3.out (by omega) _ _ _, ?_⟩
  · simp [results, Tryz.results30]
    have B := blk_put3 R3.out ⟨r0, ⟨r1, r2, r3⟩, ⟨r4, r5, r6⟩⟩
    simp only at B
    generalize hW7 : World.setCell _ _ _ = W7 at B ⊢
    exact run_ptv B
  · have hz := HZ.out
    have hz3 := Z3.out
    exact HO.same (fun g hg => hg.imp id (fun h => ⟨by omega, by simp; omega⟩)) (fun g hg => heap_set3 (hg.elim (fun h => by have := HPp.out g h; omega) (fun h => by omega)) _ _ _) H3.out
  · exact B3.out.set3 (by omega) _ _ _

set_option maxRecDepth 100000 in
set_option maxHeartbeats 2000000 in
theorem ropt_any {P : Nat → Prop} {s : ByteArray} {b i : Nat} {wr ou fu : Bool} {t : Tree} {x : PC} {w : World} (hb : BlkQ w b s i wr ou fu) (hr : rightT t = true) (hP : ∀ g, P g → g < w.heap.size) (hx : HO P w t x) :
    Calls Tryz.prog 86 #[.pointer (some ⟨b, 4, none⟩), x.v] w fun e w' => PostS s b i wr ou fu P (keptM (optT t)) w e w' := by
  have HX : Hid (HO P w t x) := hx
  have HPp : Hid (∀ g, P g → g < w.heap.size) := hP
  have HB : Hid (BlkQ w b s i wr ou fu) := hb
  have hlt := hb.lt
  have HR : Hid (rightT t = true) := hr
  have HI : Hid _ := KQ.start w x
  obtain ⟨xk, ⟨x1, x2, x3⟩, x4, x5, x6⟩ := x
  simp only at HI
  clear hx hb hr hP
  go_enter Tryz.func86, Tryz.ntmps86
  go_upto_region 1 with fail
  have HZ : Hid (((w.alloc (.cells #[.int .i64 xk, .slice x1 x2 x3, .slice x4 x5 x6] 26)).alloc (.cells #[.int .i64 0, .slice none 0 0, .slice none 0 0] 26)).heap.size = w.heap.size + 2) := by simp [Hid]
  generalize hW : World.alloc _ _ = W0 at HI HZ
  clear hW
  obtain ⟨m0, m1, m2⟩ := BlkT.cs HI.out.box
  simp only at m0 m1 m2
  go_wp2_with (go_at_call 52; refine (fit_any (P := fun g => P g ∨ g = W0.heap.size) (t := optT t) (x := ⟨3, ⟨none, 0, 0⟩, ⟨some ⟨W0.heap.size, 0, none⟩, 2, 2⟩⟩) ((HB.out.bel HI.out.bel).alloc _) (ok_opt HR.out) (kinds_opt HR.out) (fun g hg => hg.elim (fun h => by have := HPp.out g h; have := HZ.out; simp; omega) (fun h => by simp; omega)) (HO_sub2 (HO.same (fun g hg => Or.inl hg) (fun g hg => (bstep HI.out.bel (bel_alloc _ _)).block g (HPp.out g hg)) HX.out) (HO_none 2) (Blk.new _ _ _) rfl (Or.inr rfl))).mono ?_; rintro _ w3 ⟨⟨r0, ⟨r1, r2, r3⟩, r4, r5, r6⟩, rfl, ho3, ex3, b3⟩; have H3 : Hid (HO (fun g => P g ∨ g = W0.heap.size) w3 (keptM (optT t)).1 ⟨r0, ⟨r1, r2, r3⟩, r4, r5, r6⟩) := ho3; have E3 : Hid (Ex b w w3) := (Ex.of_bel (bstep HI.out.bel (bel_alloc _ _))).trans ex3; have Z3 : Hid (W0.heap.size + 1 ≤ w3.heap.size) := Nat.le_trans (by simp) ex3.size; have B3 : Hid (BlkQ w3 b s i wr ou (fu || (keptM (optT t)).2)) := b3; have R3 : Hid (Blk w3 (w.heap.size + 1) (encT ⟨0, ⟨none, 0, 0⟩, ⟨none, 0, 0⟩⟩).toArray 26) := Blk.ex ex3 (HI.out.res.alloc _) (by omega); obtain ⟨y0, y1, y2⟩ := BlkT.cs R3.out; have z0 := R3.out.frozen; clear ho3 ex3 b3)
  refine bodyPost_ret (v := PC.v ⟨r0, ⟨r1, r2, r3⟩, ⟨r4, r5, r6⟩⟩) ?_ rfl ⟨_, rfl, ?_, set3_ex E3.out (by omega) _ _ _, ?_⟩
  · simp [results, Tryz.results86]
    have B := blk_put3 R3.out ⟨r0, ⟨r1, r2, r3⟩, ⟨r4, r5, r6⟩⟩
    simp only at B
    generalize hW7 : World.setCell _ _ _ = W7 at B ⊢
    exact run_ptv B
  · have hz := HZ.out
    have hz3 := Z3.out
    exact HO.same (fun g hg => hg.imp id (fun h => ⟨by omega, by simp; omega⟩)) (fun g hg => heap_set3 (hg.elim (fun h => by have := HPp.out g h; omega) (fun h => by omega)) _ _ _) H3.out
  · exact B3.out.set3 (by omega) _ _ _

theorem right_part {k : Int} {set : List (Int × Int)} {subs : List Tree} {t : Tree} (h : rightT (.mk k set subs) = true) (ht : t ∈ subs) : rightT t = true := by
  obtain ⟨h1, h2, h3⟩ := right_parts h
  obtain ⟨i, hi⟩ := List.mem_iff_getElem?.1 ht
  rw [size_mk] at h1
  rw [deep_mk] at h2
  rw [kindsT_mk] at h3
  simp only [Bool.and_eq_true] at h3
  have a1 := size_le_of_at hi
  have a2 := deep_le_of_at hi
  have a3 := kindsT_of_at h3.2 hi
  unfold rightT
  rw [a3]
  simp
  omega
theorem plus_two {t : Tree} : ((keptM (stT t)).2 || (keptM (.mk 2 [] [t, (keptM (stT t)).1])).2) = (keptM (plusT t)).2 ∧ (((keptM (stT t)).2 || (keptM (.mk 2 [] [t, (keptM (stT t)).1])).2) = false → (keptM (.mk 2 [] [t, (keptM (stT t)).1])).1 = (keptM (plusT t)).1) := by
  by_cases h : rightT (stT t) = true
  · have e : keptM (stT t) = (stT t, false) := by unfold keptM; rw [if_pos h]
    rw [e]
    exact ⟨rfl, fun _ => rfl⟩
  · have e : keptM (stT t) = (emT, true) := by unfold keptM; rw [if_neg h]
    have h2 : ¬ rightT (plusT t) = true := fun h2 => h (right_part h2 (by simp))
    have e2 : keptM (plusT t) = (emT, true) := by unfold keptM; rw [if_neg h2]
    rw [e, e2]
    exact ⟨rfl, fun h => by simp at h⟩

/-- What Plus comes to. -/
def PostP (s : ByteArray) (b i : Nat) (wr ou fu : Bool) (P : Nat → Prop) (m : Tree × Bool) (w : World) (e : Ending) (w' : World) : Prop :=
  ∃ (r : PC) (t : Tree), e = .returned r.v ∧ HO (fun g => P g ∨ (w.heap.size ≤ g ∧ g < w'.heap.size)) w' t r ∧ Ex b w w' ∧ BlkQ w' b s i wr ou (fu || m.2) ∧ rightT t = true ∧ ((fu || m.2) = false → t = m.1)

set_option maxRecDepth 100000 in
set_option maxHeartbeats 8000000 in
theorem rplus_any {P : Nat → Prop} {s : ByteArray} {b i : Nat} {wr ou fu : Bool} {t : Tree} {x : PC} {w : World} (hb : BlkQ w b s i wr ou fu) (hr : rightT t = true) (hP : ∀ g, P g → g < w.heap.size ∧ g ≠ b) (hx : HO P w t x) :
    Calls Tryz.prog 85 #[.pointer (some ⟨b, 4, none⟩), x.v] w fun e w' => PostP s b i wr ou fu P (keptM (plusT t)) w e w' := by
  have HX : Hid (HO P w t x) := hx
  have HPp : Hid (∀ g, P g → g < w.heap.size ∧ g ≠ b) := hP
  have HB : Hid (BlkQ w b s i wr ou fu) := hb
  have hlt := hb.lt
  have HR : Hid (rightT t = true) := hr
  have HI : Hid _ := KQ.start w x
  have kc := fun W h => copy_any _ t x W (Nat.le_refl _) (by have := (right_parts hr).1; omega) (ok_right hr) h
  obtain ⟨xk, ⟨x1, x2, x3⟩, x4, x5, x6⟩ := x
  simp only at HI
  clear hx hb hr hP
  go_enter Tryz.func85, Tryz.ntmps85
  go_upto_region 1 with fail
  have HZ : Hid (((w.alloc (.cells #[.int .i64 xk, .slice x1 x2 x3, .slice x4 x5 x6] 26)).alloc (.cells #[.int .i64 0, .slice none 0 0, .slice none 0 0] 26)).heap.size = w.heap.size + 2) := by simp [Hid]
  generalize hW : World.alloc _ _ = W0 at HI HZ
  clear hW
  obtain ⟨m0, m1, m2⟩ := BlkT.cs HI.out.box
  simp only at m0 m1 m2
  have HI1 : Hid (KQ w ⟨xk, ⟨x1, x2, x3⟩, x4, x5, x6⟩ (W0.drewN 1)) := HI.out.go (below_drewN (Below.refl _ _) 1)
  have HB1 : Hid (BlkQ (W0.drewN 1) b s i wr ou fu) := HB.out.bel HI1.out.bel
  have HZ1 : Hid ((W0.drewN 1).heap.size = w.heap.size + 2) := HZ.out
  go_region_law
    (first
      | (go_simp; go_at_call 15; refine (kc _ (HX.out.held.bel' HI1.out.bel)).mono ?_; rintro _ w3 ⟨⟨c0, ⟨c1, c2, c3⟩, c4, c5, c6⟩, rfl, ho3, g3⟩; have I3 : Hid (KQ w ⟨xk, ⟨x1, x2, x3⟩, x4, x5, x6⟩ w3) := HI1.out.go g3; have H3 : Hid (HO (fun g => w.heap.size + 2 ≤ g ∧ g < w3.heap.size) w3 t ⟨c0, ⟨c1, c2, c3⟩, c4, c5, c6⟩) := ho3.imp' (fun g hg => ⟨by have := HZ1.out; omega, hg.2⟩); have B3 : Hid (BlkQ w3 b s i wr ou fu) := HB1.out.bel g3; have L3 : Hid (w.heap.size + 2 ≤ w3.heap.size) := (by have h1 := HZ1.out; have h2 := g3.size; show _ ≤ _; omega); obtain ⟨n0, n1, n2⟩ := BlkT.cs I3.out.box; clear ho3 g3)
      | (go_simp; go_at_call 30; refine (rstar_any (P := fun g => w.heap.size + 2 ≤ g ∧ g < w3.heap.size) B3.out HR.out (fun g hg => hg.2) H3.out).mono ?_; rintro _ w4 ⟨⟨d0, ⟨d1, d2, d3⟩, d4, d5, d6⟩, rfl, ho4, ex4, b4⟩; have H4 : Hid (HO (fun g => w.heap.size + 2 ≤ g ∧ g < w4.heap.size) w4 (keptM (stT t)).1 ⟨d0, ⟨d1, d2, d3⟩, d4, d5, d6⟩) := ho4.imp' (fun g hg => (by have h1 := ex4.size; have h2 := L3.out; omega)); have E4 : Hid (Ex b w w4) := (Ex.of_bel I3.out.bel).trans ex4; have B4 : Hid (BlkQ w4 b s i wr ou (fu || (keptM (stT t)).2)) := b4; have X4 : Hid (Blk w4 w.heap.size (encT ⟨xk, ⟨x1, x2, x3⟩, x4, x5, x6⟩).toArray 26 ∧ Blk w4 (w.heap.size + 1) (encT ⟨0, ⟨none, 0, 0⟩, ⟨none, 0, 0⟩⟩).toArray 26 ∧ w.heap.size + 2 ≤ w4.heap.size) := ⟨Blk.ex ex4 I3.out.box (by omega), Blk.ex ex4 I3.out.res (by omega), Nat.le_trans L3.out ex4.size⟩; obtain ⟨p0, p1, p2⟩ := BlkT.cs X4.out.1; clear ho4 ex4 b4)
      | (go_simp; go_at_call 52; refine (fit_any (P := fun g => P g ∨ (w.heap.size + 2 ≤ g ∧ g < w4.heap.size + 1)) (t := .mk 2 [] [t, (keptM (stT t)).1]) (x := ⟨2, ⟨none, 0, 0⟩, ⟨some ⟨w4.heap.size, 0, none⟩, 2, 2⟩⟩) (B4.out.alloc _) (ok_list (by simp) (by simp; exact ⟨HR.out, right_kept _⟩)) (kinds_plus HR.out (right_kept _)) (fun g hg => hg.elim (fun h => by have := (HPp.out g h).1; have := X4.out.2.2; simp; omega) (fun h => by simp; omega)) (HO_sub2 (HO.same (fun g hg => Or.inl hg) (fun g hg => ((bel_alloc w4 _).block g (by have := (HPp.out g hg).1; have := E4.out.size; omega)).trans (E4.out.block g (HPp.out g hg).1 (HPp.out g hg).2)) HX.out) (HO.same (fun g hg => Or.inr ⟨hg.1, by omega⟩) (fun g hg => (bel_alloc w4 _).block g hg.2) H4.out) (Blk.new _ _ _) rfl (Or.inr ⟨X4.out.2.2, by omega⟩))).mono ?_; rintro _ w5 ⟨⟨r0, ⟨r1, r2, r3⟩, r4, r5, r6⟩, rfl, ho5, ex5, b5⟩; have H5 : Hid (HO (fun g => P g ∨ (w.heap.size + 2 ≤ g ∧ g < w4.heap.size + 1)) w5 (keptM (.mk 2 [] [t, (keptM (stT t)).1])).1 ⟨r0, ⟨r1, r2, r3⟩, r4, r5, r6⟩) := ho5; have E5 : Hid (Ex b w w5) := (E4.out.alloc _).trans ex5; have Z5 : Hid (w4.heap.size + 1 ≤ w5.heap.size) := Nat.le_trans (by simp) ex5.size; have B5 : Hid (BlkQ w5 b s i wr ou (fu || (keptM (stT t)).2 || (keptM (.mk 2 [] [t, (keptM (stT t)).1])).2)) := b5; have R5 : Hid (Blk w5 (w.heap.size + 1) (encT ⟨0, ⟨none, 0, 0⟩, ⟨none, 0, 0⟩⟩).toArray 26) := Blk.ex ex5 (X4.out.2.1.alloc _) (by omega); obtain ⟨y0, y1, y2⟩ := BlkT.cs R5.out; have z0 := R5.out.frozen; clear ho5 ex5 b5))
  all_goals go_wp2_with fail
  all_goals
    have HF : Hid ((fu || (keptM (stT t)).2 || (keptM (.mk 2 [] [t, (keptM (stT t)).1])).2) = (fu || (keptM (plusT t)).2)) := by show _ = _; rw [Bool.or_assoc, plus_two.1]
    refine bodyPost_ret (v := PC.v ⟨r0, ⟨r1, r2, r3⟩, ⟨r4, r5, r6⟩⟩) ?_ rfl ⟨_, (keptM (.mk 2 [] [t, (keptM (stT t)).1])).1, rfl, ?_, set3_ex E5.out (by omega) _ _ _, ?_, right_kept _, fun e => ?_⟩
    · simp [results, Tryz.results85]
      have B := blk_put3 R5.out ⟨r0, ⟨r1, r2, r3⟩, ⟨r4, r5, r6⟩⟩
      simp only at B
      generalize hW7 : World.setCell _ _ _ = W7 at B ⊢
      exact run_ptv B
    · have hx4 := X4.out.2.2
      have hz5 := Z5.out
      exact HO.same (fun g hg => hg.imp id (fun h => ⟨by omega, by simp; omega⟩)) (fun g hg => heap_set3 (hg.elim (fun h => by have := (HPp.out g h).1; omega) (fun h => by omega)) _ _ _) H5.out
    · rw [← HF.out]
      exact B5.out.set3 (by omega) _ _ _
    · rw [← HF.out] at e
      have e2 : ((keptM (stT t)).2 || (keptM (.mk 2 [] [t, (keptM (stT t)).1])).2) = false := by
        rw [Bool.or_assoc] at e
        simp only [Bool.or_eq_false_iff] at e ⊢
        exact e.2
      exact plus_two.2 e2

set_option maxRecDepth 100000 in
set_option maxHeartbeats 2000000 in
theorem rmany_any {P : Nat → Prop} {s : ByteArray} {b i : Nat} {wr ou fu : Bool} {k : Int} {ts : List Tree} {bs : Sl} {w : World} (hb : BlkQ w b s i wr ou fu) (hk : k = 2 ∨ k = 3) (hok : okT (.mk k [] ts)) (hr : ∀ t ∈ ts, rightT t = true) (hP : ∀ g, P g → g < w.heap.size) (hx : HO P w (.mk k [] ts) ⟨k, ⟨none, 0, 0⟩, bs⟩) :
    Calls Tryz.prog 33 #[.pointer (some ⟨b, 4, none⟩), .int .i64 k, bs.v] w fun e w' => ∃ r : PC, e = .returned r.v ∧ HO P w' (singleM k ts).1 r ∧ Ex b w w' ∧ BlkQ w' b s i wr ou (fu || (singleM k ts).2) := by
  have HX : Hid (HO P w (.mk k [] ts) ⟨k, ⟨none, 0, 0⟩, bs⟩) := hx
  have HPp : Hid (∀ g, P g → g < w.heap.size) := hP
  have HB : Hid (BlkQ w b s i wr ou fu) := hb
  have hlt := hb.lt
  have kk : ∀ W, BlkQ W b s i wr ou fu → Below w.heap.size w W → Calls Tryz.prog 52 #[.pointer (some ⟨b, 4, none⟩), PC.v ⟨k, ⟨none, 0, 0⟩, bs⟩] W fun e w' => ∃ r : PC, e = .returned r.v ∧ HO P w' (keptM (.mk k [] ts)).1 r ∧ Ex b W w' ∧ BlkQ w' b s i wr ou (fu || (keptM (.mk k [] ts)).2) := fun W h1 h2 => fit_any h1 hok (kinds_list hk hr) (fun g hg => Nat.lt_of_lt_of_le (hP g hg) h2.size) (HO.same (fun _ h => h) (fun g hg => h2.block g (hP g hg)) hx)
  obtain ⟨h1, h2, rows, ⟨h3, h3P⟩, h4⟩ := (HO_mk _ _ _ _ _ _).1 hx
  have h5 := h4.len
  obtain ⟨x4, x5, x6⟩ := bs
  obtain ⟨a', c', e'⟩ := h3.form
  injection e' with ea eb ec
  simp only at h1 h3 h3P eb
  rw [h5] at eb
  have HI1 : Hid (Below w.heap.size w (w.alloc (.cells #[.int .i64 0, .slice none 0 0, .slice none 0 0] 26))) := bel_alloc _ _
  have HR1 : Hid (Blk (w.alloc (.cells #[.int .i64 0, .slice none 0 0, .slice none 0 0] 26)) w.heap.size (encT ⟨0, ⟨none, 0, 0⟩, ⟨none, 0, 0⟩⟩).toArray 26) := Blk.new _ _ _
  by_cases hn : ts.length = 1
  · obtain ⟨t, rfl⟩ := List.length_eq_one_iff.1 hn
    have e1 : ((x5 : Int) == 1) = true := by simp; omega
    have hl5 : (0 : Int) < x5 := by omega
    obtain ⟨r, rest, rfl, hr', hrest⟩ := (HOs_cons _ _ _ _ _).1 h4
    rw [HOs_nil] at hrest
    subst hrest
    have hrow : RowT w (.slice x4 x5 x6) [r] := h3.row encT_len
    obtain ⟨rb, ro, rfl, hrb, q0, q1, q2⟩ := RowX.cs3 hrow (k := 0) rfl
    simp only [Nat.zero_mul, Nat.add_zero] at q0 q1 q2
    have HRr : Hid (HO P w t r) := hr'
    obtain ⟨rk, ⟨r1, r2, r3⟩, r4, r5, r6⟩ := r
    simp only at q0 q1 q2
    have nrb : rb ≠ w.heap.size := by omega
    have nrb2 : w.heap.size ≠ rb := by omega
    clear hx hb hok hP kk h1 h2 h3 h3P h4 h5 ea eb ec hn hrow hr' hr HX
    show Calls Tryz.prog 33 #[.pointer (some ⟨b, 4, none⟩), .int .i64 k, .slice (some ⟨rb, ro, none⟩) x5 x6] w _
    go_enter Tryz.func33, Tryz.ntmps33
    go_wp2_with fail
    refine bodyPost_ret (v := PC.v ⟨rk, ⟨r1, r2, r3⟩, ⟨r4, r5, r6⟩⟩) ?_ rfl ⟨_, rfl, ?_, (Ex.refl b w).alloc _, ?_⟩
    · simp [results, Tryz.results33]
      exact run_ptv (x := ⟨rk, ⟨r1, r2, r3⟩, ⟨r4, r5, r6⟩⟩) (Blk.new _ _ _)
    · exact HO.same (fun _ h => h) (fun g hg => (bel_alloc _ _).block g (HPp.out g hg)) HRr.out
    · show BlkQ _ b s i wr ou (fu || false)
      rw [Bool.or_false]
      exact HB.out.alloc _
  · have e1 : ((x5 : Int) == 1) = false := by simp; omega
    have HS : Hid (singleM k ts = keptM (.mk k [] ts)) := by
      show _ = _
      unfold singleM
      split
      · exact absurd rfl hn
      · rfl
    clear hx hb hok hP h1 h2 h3 h3P h4 h5 ea eb ec hn hr hk
    show Calls Tryz.prog 33 #[.pointer (some ⟨b, 4, none⟩), .int .i64 k, .slice x4 x5 x6] w _
    go_enter Tryz.func33, Tryz.ntmps33
    go_wp2_with (go_at_call 52; refine (kk _ (HB.out.alloc _) HI1.out).mono ?_; rintro _ w3 ⟨⟨rk, ⟨r1, r2, r3⟩, r4, r5, r6⟩, rfl, ho3, ex3, b3⟩; have H3 : Hid (HO P w3 (keptM (.mk k [] ts)).1 ⟨rk, ⟨r1, r2, r3⟩, r4, r5, r6⟩) := ho3; have E3 : Hid (Ex b w w3) := (Ex.of_bel HI1.out).trans ex3; have B3 : Hid (BlkQ w3 b s i wr ou (fu || (keptM (.mk k [] ts)).2)) := b3; have R3 : Hid (Blk w3 w.heap.size (encT ⟨0, ⟨none, 0, 0⟩, ⟨none, 0, 0⟩⟩).toArray 26) := Blk.ex ex3 HR1.out (by omega); obtain ⟨y0, y1, y2⟩ := BlkT.cs R3.out; have z0 := R3.out.frozen; clear ho3 ex3 b3)
    refine bodyPost_ret (v := PC.v ⟨rk, ⟨r1, r2, r3⟩, ⟨r4, r5, r6⟩⟩) ?_ rfl ⟨_, rfl, ?_, set3_ex E3.out (Nat.le_refl _) _ _ _, ?_⟩
    · simp [results, Tryz.results33]
      have B := blk_put3 R3.out ⟨rk, ⟨r1, r2, r3⟩, ⟨r4, r5, r6⟩⟩
      simp only at B
      generalize hW7 : World.setCell _ _ _ = W7 at B ⊢
      exact run_ptv B
    · rw [HS.out]
      exact HO.same (fun _ h => h) (fun g hg => heap_set3 (by have := HPp.out g hg; omega) _ _ _) H3.out
    · rw [HS.out]
      exact B3.out.set3 (by omega) _ _ _

end Go.Proofs.YtnohkbdmnalmcaaGreatDoor
