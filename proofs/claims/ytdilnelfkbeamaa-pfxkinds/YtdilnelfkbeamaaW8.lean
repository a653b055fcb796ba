/-
  The walk of addMinus's closure.
-/
import Derived.Test.YtdilnelfkbeamaaW7
import Derived.Test.YtdilnelfkbeamaaW6
import Derived.Test.YtdilnelfkbeamaaApp
namespace Go.Proofs.Ytdilnelfkbeamaa
open Go.RowKit

/-- Nothing old has turned but the variable's block and the row that it held. -/
structure Fr (w w' : World) (ob : Nat) (v v' : Value) : Prop where
  os : w'.os = w.os
  tape : w'.tape = w.tape
  output : w'.output = w.output
  size : w.heap.size ≤ w'.heap.size
  block : ∀ k, k < w.heap.size → k ≠ ob → v.ownBlock ≠ some k → w'.heap[k]? = w.heap[k]?
  own : v'.ownBlock = v.ownBlock ∨ ∀ k, v'.ownBlock = some k → w.heap.size ≤ k

theorem Fr.refl (w : World) (ob : Nat) (v : Value) : Fr w w ob v v := ⟨rfl, rfl, rfl, Nat.le_refl _, fun _ _ _ _ => rfl, Or.inl rfl⟩
theorem Fr.trans {a b c : World} {ob : Nat} {u v x : Value} (h : Fr a b ob u v) (k : Fr b c ob v x) : Fr a c ob u x := by
  refine ⟨k.os.trans h.os, k.tape.trans h.tape, k.output.trans h.output, Nat.le_trans h.size k.size, fun i hi h1 h2 => ?_, ?_⟩
  · rw [k.block i (Nat.lt_of_lt_of_le hi h.size) h1 ?_, h.block i hi h1 h2]
    rcases h.own with e | e
    · rw [e]; exact h2
    · intro e2; have := e i e2; omega
  · rcases k.own with e | e
    · rcases h.own with f | f
      · exact Or.inl (e.trans f)
      · exact Or.inr fun i hi => f i (by rw [← e]; exact hi)
    · exact Or.inr fun i hi => Nat.le_trans h.size (e i hi)
theorem Fr.of_gr {w w' : World} (h : Gr w w') (ob : Nat) (v : Value) : Fr w w' ob v v :=
  ⟨h.below.os, h.below.tape, h.below.output, h.below.size, fun k hk _ _ => h.below.block k hk, Or.inl rfl⟩
theorem Fr.blk {w w' : World} {ob : Nat} {v v' : Value} (h : Fr w w' ob v v') {b : Nat} {cs : Array Value} {t : TypeId} (hb : Blk w b cs t) (h1 : b ≠ ob) (h2 : v.ownBlock ≠ some b) : Blk w' b cs t := (h.block b hb.lt h1 h2).trans hb
theorem Fr.below {w w' : World} {ob base : Nat} {v v' : Value} (h : Fr w w' ob v v') (hb : base ≤ w.heap.size) (ho : base ≤ ob) (hv : ∀ k, v.ownBlock = some k → base ≤ k) : Below base w w' :=
  ⟨h.os, h.tape, h.output, h.size, fun k hk => h.block k (by omega) (by omega) (fun e => by have := hv k e; omega)⟩

set_option maxHeartbeats 1000000 in
theorem add_any (p : Pf) (ge le : Int) (ob base : Nat) (v : Value) (l : List Rg) (w : World) (hB : Blk w ob #[v] 37) (ho : OwnG base w v l) (hne : v.ownBlock ≠ some ob) (hl : l.length ≤ 999999) (hbase : base ≤ w.heap.size) :
    Calls Try.prog 40 #[pv p, .int .i64 ge, .int .i64 le, .pointer (some ⟨ob, 0, none⟩)] w fun e w' => e = .returned (.tuple #[]) ∧ ∃ v', Blk w' ob #[v'] 37 ∧ OwnG base w' v' (l ++ piece p.addr p.len ge le) ∧ v'.ownBlock ≠ some ob ∧ Fr w w' ob v v' := by
  obtain ⟨P, n⟩ := p
  obtain ⟨ao, cap, rfl⟩ := ho.form
  unfold piece
  by_cases hgl : ge ≤ le
  · rw [if_pos hgl]
    obtain ⟨W, hW⟩ : ∃ W, W = (w.alloc (.cells #[.int .u32 P, .int .i64 n] 25)).alloc (.cells #[.int .u32 P, .int .i64 n, .int .i64 ge, .int .i64 le] 28) := ⟨_, rfl⟩
    have HO : Hid (OwnG base W (.slice ao l.length cap) l) := by rw [hW]; exact (ho.alloc _).alloc _
    have HB : Hid (Blk W ob #[.slice ao l.length cap] 37) := by rw [hW]; exact (hB.alloc _).alloc _
    have HY : Hid (Blk W (w.heap.size + 1) (gc ⟨P, n, ge, le⟩) 28) := by rw [hW]; exact Blk.new' _ _ _ _ (by simp)
    have HG : Hid (Gr w W) := by rw [hW]; exact ((Gr.refl _).alloc _).alloc _
    have HL : Hid (l.length ≤ 1000000) := by show l.length ≤ 1000000; omega
    have HBs : Hid (base ≤ W.heap.size) := Nat.le_trans hbase HG.out.below.size
    have HOB : Hid (ob < w.heap.size) := hB.lt
    have HNE : Hid ((Value.slice ao l.length cap).ownBlock ≠ some ob) := hne
    have HW2 : Hid ((w.alloc (.cells #[.int .u32 P, .int .i64 n] 25)).alloc (.cells #[.int .u32 P, .int .i64 n, .int .i64 ge, .int .i64 le] 28) = W) := hW.symm
    have c0 : w.cell? ⟨ob, 0, none⟩ = some (.slice ao l.length cap) := hB.c 0
    have lt0 : ob < w.heap.size := hB.lt
    clear hW hB ho hl hbase hne
    go_enter Try.func40, Try.ntmps40
    go_wp2_with (at_builtin; rw [HW2.out]; refine wp_appG rfl _ _ rfl base (.slice ao l.length cap) l rfl HO.out ⟨P, n, ge, le⟩ _ rfl HY.out HL.out HBs.out ?_; intro g3 cap3 w3 how3 hB3 hgg hlt3; have z0 := (HB.out.grown hB3 HNE.out).c 0; have zf := (HB.out.grown hB3 HNE.out).frozen)
    go_end0
    have hob := HOB.out
    have hWs := HG.out.below.size
    have hg3 : g3 ≠ ob := by
      rcases hgg with e | e
      · intro e2; rw [e2] at e; exact HNE.out e
      · omega
    have hown3 : (Value.slice (some ⟨g3, 0, none⟩) (l.length + 1) cap3).ownBlock ≠ some ob := by
      intro e
      simp [Value.ownBlock] at e
      exact hg3 e
    refine ⟨rfl, _, (HB.out.grown hB3 HNE.out).set 0 _, how3.setOther hown3 _, hown3, ?_⟩
    refine ⟨hB3.os.trans HG.out.below.os, hB3.tape.trans HG.out.below.tape, hB3.output.trans HG.out.below.output, ?_, fun k hk h1 h2 => ?_, ?_⟩
    · have := hB3.size
      simp
      omega
    · rw [Below.heap_setCell _ _ _ _ h1, hB3.block k (by omega) (fun e => h2 e.symm), HG.out.below.block k hk]
    · rcases hgg with e | e
      · exact Or.inl e.symm
      · refine Or.inr fun k hk => ?_
        simp [Value.ownBlock] at hk
        omega
  · rw [if_neg hgl, List.append_nil]
    have HB : Hid (Blk w ob #[.slice ao l.length cap] 37) := hB
    have HO : Hid (OwnG base w (.slice ao l.length cap) l) := ho
    have HNE : Hid ((Value.slice ao l.length cap).ownBlock ≠ some ob) := hne
    clear hB ho hne hl hbase
    go_enter Try.func40, Try.ntmps40
    go_wp2_with fail
    go_end0
    have hg := (Gr.refl w).alloc (.cells #[.int .u32 P, .int .i64 n] 25)
    exact ⟨rfl, _, HB.out.gr hg, HO.out.gr hg, HNE.out, Fr.of_gr hg _ _⟩
end Go.Proofs.Ytdilnelfkbeamaa
