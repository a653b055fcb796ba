/-
  Walks: single, again, one.
-/
import Derived.Test.YtihnmamejfoeeaaDoorRa3
namespace Go.Proofs.YtihnmamejfoeeaaDoor
open Go.RowKit

theorem HO.imp' {P Q : Nat → Prop} {w : World} {t : Tree} {x : PC} (h : HO P w t x) (hPQ : ∀ g, P g → Q g) : HO Q w t x := HO.same hPQ (fun _ _ => rfl) h

theorem heap_set3 {W : World} {g q : Nat} (hg : q ≠ g) (v0 v1 v2 : Value) : (((W.setCell ⟨g, 0, none⟩ v0).setCell ⟨g, 1, none⟩ v1).setCell ⟨g, 2, none⟩ v2).heap[q]? = W.heap[q]? := by
  rw [Below.heap_setCell _ _ _ _ hg, Below.heap_setCell _ _ _ _ hg, Below.heap_setCell _ _ _ _ hg]

set_option maxRecDepth 100000 in
set_option maxHeartbeats 1000000 in
theorem single_any {P : Nat → Prop} {s : ByteArray} {b i : Nat} {wr ou fu : Bool} {k : Int} {ts : List Tree} {x : PC} {w : World} (hb : BlkR w b s i wr ou fu) (hok : okT (.mk k [] ts)) (hP : ∀ g, P g → g < w.heap.size) (hx : HO P w (.mk k [] ts) x) :
    Calls Tryd.prog 44 #[.pointer (some ⟨b, 0, none⟩), x.v] w fun e w' => ∃ r : PC, e = .returned r.v ∧ HO P w' (singleM k ts).1 r ∧ Ex b w w' ∧ BlkR w' b s i wr ou (fu || (singleM k ts).2) := by
  have HX : Hid (HO P w (.mk k [] ts) x) := hx
  have HPp : Hid (∀ g, P g → g < w.heap.size) := hP
  have HB : Hid (BlkR w b s i wr ou fu) := hb
  have hlt := hb.lt
  have kk : ∀ W, BlkR W b s i wr ou fu → Below w.heap.size w W → Calls Tryd.prog 32 #[.pointer (some ⟨b, 0, none⟩), x.v] W fun e w' => ∃ r : PC, e = .returned r.v ∧ HO P w' (keptM (.mk k [] ts)).1 r ∧ Ex b W w' ∧ BlkR w' b s i wr ou (fu || (keptM (.mk k [] ts)).2) := fun W h1 h2 => kept_any h1 hok (fun g hg => Nat.lt_of_lt_of_le (hP g hg) h2.size) (HO.same (fun _ h => h) (fun g hg => h2.block g (hP g hg)) hx)
  obtain ⟨h1, h2, rows, ⟨h3, h3P⟩, h4⟩ := (HO_mk _ _ _ _ _ _).1 hx
  obtain ⟨xk, ⟨x1, x2, x3⟩, x4, x5, x6⟩ := x
  have h5 := h4.len
  obtain ⟨a', c', e'⟩ := h3.form
  injection e' with ea eb ec
  simp only at h1 h3 h3P eb
  rw [h5] at eb
  have HI : Hid (KI b s i wr ou fu w ⟨xk, ⟨x1, x2, x3⟩, ⟨x4, x5, x6⟩⟩ ((w.alloc (.cells #[.int .i64 xk, .slice x1 x2 x3, .slice x4 x5 x6] 25)).alloc (.cells #[.int .i64 0, .slice none 0 0, .slice none 0 0] 25))) :=
    ⟨bstep (bel_alloc _ _) (bel_alloc _ _), (Blk.new _ _ _).alloc _, Blk.new' _ _ _ _ (by simp)⟩
  by_cases hn : ts.length = 1
  · obtain ⟨t, rfl⟩ := List.length_eq_one_iff.1 hn
    have e1 : ((x5 : Int) == 1) = true := by simp; omega
    have hl5 : (0 : Int) < x5 := by omega
    obtain ⟨r, rest, rfl, hr, hrest⟩ := (HOs_cons _ _ _ _ _).1 h4
    rw [HOs_nil] at hrest
    subst hrest
    have hrow : RowT w (.slice x4 x5 x6) [r] := h3.row encT_len
    obtain ⟨rb, ro, rfl, hrb, q0, q1, q2⟩ := RowX.cs3 hrow (k := 0) rfl
    have q0' := (HI.out.bel.cell (by exact hrb)).trans q0
    have q1' := (HI.out.bel.cell (by exact hrb)).trans q1
    have q2' := (HI.out.bel.cell (by exact hrb)).trans q2
    simp only [Nat.zero_mul, Nat.add_zero] at q0' q1' q2'
    have HR : Hid (HO P w t r) := hr
    obtain ⟨rk, ⟨r1, r2, r3⟩, r4, r5, r6⟩ := r
    simp only at q0' q1' q2'
    have HBr : Hid (rb < w.heap.size) := hrb
    clear hx hb hok hP kk h1 h2 h3 h3P h4 h5 ea eb ec hn hrow q0 q1 q2 hr
    obtain ⟨m0, m1, m2⟩ := BlkT.cs HI.out.box
    simp only at m0 m1 m2
    go_enter Tryd.func44, Tryd.ntmps44
    go_wp2_with fail
    refine bodyPost_ret (v := PC.v ⟨rk, ⟨r1, r2, r3⟩, ⟨r4, r5, r6⟩⟩) ?_ rfl ⟨_, rfl, ?_, ((Ex.refl b w).alloc _).alloc _, ?_⟩
    · simp [results, Tryd.results44]
      exact run_ptv (x := ⟨rk, ⟨r1, r2, r3⟩, ⟨r4, r5, r6⟩⟩) (Blk.new' _ _ _ _ (by simp))
    · exact HO.same (fun _ h => h) (fun g hg => (bstep (bel_alloc _ _) (bel_alloc _ _)).block g (HPp.out g hg)) HR.out
    · show BlkR _ b s i wr ou (fu || false)
      rw [Bool.or_false]
      exact (HB.out.alloc _).alloc _
  · have e1 : ((x5 : Int) == 1) = false := by simp; omega
    have HS : Hid (singleM k ts = keptM (.mk k [] ts)) := by
      show _ = _
      unfold singleM
      split
      · exact absurd rfl hn
      · rfl
    clear hx hb hok hP h1 h2 h3 h3P h4 h5 ea eb ec hn
    obtain ⟨m0, m1, m2⟩ := BlkT.cs HI.out.box
    simp only at m0 m1 m2
    go_enter Tryd.func44, Tryd.ntmps44
    go_wp2_with (go_at_call 32; refine (kk _ (HB.out.bel HI.out.bel) HI.out.bel).mono ?_; rintro _ w3 ⟨⟨rk, ⟨r1, r2, r3⟩, r4, r5, r6⟩, rfl, ho3, ex3, b3⟩; have H3 : Hid (HO P w3 (keptM (.mk k [] ts)).1 ⟨rk, ⟨r1, r2, r3⟩, r4, r5, r6⟩) := ho3; have E3 : Hid (Ex b w w3) := (Ex.of_bel HI.out.bel).trans ex3; have B3 : Hid (BlkR w3 b s i wr ou (fu || (keptM (.mk k [] ts)).2)) := b3; have R3 : Hid (Blk w3 (w.heap.size + 1) (encT ⟨0, ⟨none, 0, 0⟩, ⟨none, 0, 0⟩⟩).toArray 25) := Blk.ex ex3 HI.out.res (by omega); obtain ⟨y0, y1, y2⟩ := BlkT.cs R3.out; have z0 := R3.out.frozen; clear ho3 ex3 b3)
    refine bodyPost_ret (v := PC.v ⟨rk, ⟨r1, r2, r3⟩, ⟨r4, r5, r6⟩⟩) ?_ rfl ⟨_, rfl, ?_, set3_ex E3.out (by omega) _ _ _, ?_⟩
    · simp [results, Tryd.results44]
      have B := blk_put3 R3.out ⟨rk, ⟨r1, r2, r3⟩, ⟨r4, r5, r6⟩⟩
      simp only at B
      generalize hW7 : World.setCell _ _ _ = W7 at B ⊢
      exact run_ptv B
    · rw [HS.out]
      exact HO.same (fun _ h => h) (fun g hg => heap_set3 (by have := HPp.out g hg; omega) _ _ _) H3.out
    · rw [HS.out]
      exact B3.out.set3 (by omega) _ _ _

end Go.Proofs.YtihnmamejfoeeaaDoor
