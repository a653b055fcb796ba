/-
  What holds between the steps of addMinus; its closure by it.
-/
import Derived.Test.YtdilnelfkbeamaaW8
namespace Go.Proofs.Ytdilnelfkbeamaa
open Go.RowKit

/-- Between two steps of addMinus: the variable's block, both ranges' blocks, the row. -/
structure AmI (wb w : World) (o mb base : Nat) (a m : Rg) (v : Value) (l : List Rg) : Prop where
  bo : Blk w o #[v] 37
  ba : Blk w (o + 1) (gc a) 28
  bm : Blk w mb (gc m) 28
  own : OwnG base w v l
  apart : ∀ k, v.ownBlock = some k → k ≠ o ∧ k ≠ o + 1 ∧ k ≠ mb
  below : Below base wb w
  le : base ≤ o
  ne : mb ≠ o

theorem AmI.gr {wb w w' : World} {o mb base : Nat} {a m : Rg} {v : Value} {l : List Rg} (h : AmI wb w o mb base a m v l) (k : Gr w w') : AmI wb w' o mb base a m v l :=
  ⟨h.bo.gr k, h.ba.gr k, h.bm.gr k, h.own.gr k, h.apart, h.below.trans (k.below.mono (by have := h.bo.lt; have := h.le; omega)), h.le, h.ne⟩

theorem add_am {wb w : World} {o mb base : Nat} {a m : Rg} {v : Value} {l : List Rg} (p : Pf) (ge le : Int) (h : AmI wb w o mb base a m v l) (hl : l.length ≤ 999999) :
    Calls Try.prog 40 #[pv p, .int .i64 ge, .int .i64 le, .pointer (some ⟨o, 0, none⟩)] w fun e w' => e = .returned (.tuple #[]) ∧ ∃ v', AmI wb w' o mb base a m v' (l ++ piece p.addr p.len ge le) := by
  have hb : base ≤ w.heap.size := by have := h.bo.lt; have := h.le; omega
  refine (add_any p ge le o base v l w h.bo h.own (fun e => (h.apart o e).1 rfl) hl hb).mono ?_
  rintro e w' ⟨rfl, v', h1, h2, h3, h4⟩
  refine ⟨rfl, v', h1, h4.blk h.ba (by omega) (fun e => (h.apart _ e).2.1 rfl), h4.blk h.bm h.ne (fun e => (h.apart _ e).2.2 rfl), h2, fun k hk => ?_, h.below.trans (h4.below hb h.le (fun k hk => (h.own.lt hk).1)), h.le, h.ne⟩
  rcases h4.own with e | e
  · exact h.apart k (by rw [← e]; exact hk)
  · have := e k hk
    have := h.bo.lt
    have := h.ba.lt
    have := h.bm.lt
    omega

theorem BlkG.cs' {W : World} {b : Nat} {x : Rg} (h : Blk W b (gc x) 28) : W.cell? ⟨b, 0, none⟩ = some (.int .u32 x.addr) ∧ W.cell? ⟨b, 1, none⟩ = some (.int .i64 x.len) ∧ W.cell? ⟨b, 2, none⟩ = some (.int .i64 x.ge) ∧ W.cell? ⟨b, 3, none⟩ = some (.int .i64 x.le) := ⟨h.c 0, h.c 1, h.c 2, h.c 3⟩

theorem beside_succ (a l0 ge le : Int) (k : Nat) : beside a l0 ge le (k + 1) = beside a l0 ge le k ++ [⟨turnA a (l0 + 1 + k), l0 + 1 + k, ge, le⟩] := by
  unfold beside
  rw [List.range_succ, List.map_append]
  rfl

end Go.Proofs.Ytdilnelfkbeamaa
