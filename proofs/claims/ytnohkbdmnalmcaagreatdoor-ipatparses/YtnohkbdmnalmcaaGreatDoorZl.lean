/-
  Lists of parts of the document's reader, between the rounds; what is left to be read.
-/
import Derived.Test.YtnohkbdmnalmcaaGreatDoorZi
namespace Go.Proofs.YtnohkbdmnalmcaaGreatDoor
open Go.RowKit

/-- A list of parts in memory: a row of the call's own. -/
structure LQ (s : ByteArray) (b : Nat) (w : World) (i : Nat) (wr ou fu : Bool) (ts : List Tree) (bs : Sl) (rows : List PC) (W : World) : Prop where
  ax : AQ s b w i wr ou fu W
  row : OwnT 0 W bs.v rows
  rowP : ∀ g, bs.v.ownBlock = some g → w.heap.size + 1 ≤ g
  hos : HOs (fun g => w.heap.size + 1 ≤ g ∧ g < W.heap.size ∧ bs.v.ownBlock ≠ some g) W ts rows
  rt : ∀ t ∈ ts, rightT t = true
  le : i ≤ s.size
  len : ts.length ≤ i + 4

theorem LQ.go {s : ByteArray} {b : Nat} {w : World} {i i' : Nat} {wr ou fu wr' ou' fu' : Bool} {ts : List Tree} {bs : Sl} {rows : List PC} {W W' : World} (h : LQ s b w i wr ou fu ts bs rows W) (g : Ex b W W') (hb : BlkQ W' b s i' wr' ou' fu') (hi : i' ≤ s.size) (hii : i ≤ i') : LQ s b w i' wr' ou' fu' ts bs rows W' :=
  ⟨h.ax.go g hb, h.row.same (fun q hq => g.block q (h.row.lt hq).2 (by have := h.rowP q hq; have := h.ax.lt; omega)), h.rowP, HOs.same (fun _ h1 => ⟨h1.1, Nat.lt_of_lt_of_le h1.2.1 g.size, h1.2.2⟩) (fun q h1 => g.block q h1.2.1 (by have := h.ax.lt; omega)) h.hos, h.rt, hi, Nat.le_trans h.len (by omega)⟩
theorem LQ.bel {s : ByteArray} {b : Nat} {w : World} {i : Nat} {wr ou fu : Bool} {ts : List Tree} {bs : Sl} {rows : List PC} {W W' : World} (h : LQ s b w i wr ou fu ts bs rows W) (g : Below W.heap.size W W') : LQ s b w i wr ou fu ts bs rows W' := h.go (.of_bel g) (h.ax.rd.bel g) h.le (Nat.le_refl _)

/-- One part more behind the row. -/
theorem LQ.step {s : ByteArray} {b : Nat} {w : World} {i : Nat} {wr ou fu : Bool} {ts : List Tree} {bs : Sl} {rows : List PC} {W W' : World} (h : LQ s b w i wr ou fu ts bs rows W) {t : Tree} {r : PC} {lo : Nat} (hr : HO (fun g => lo ≤ g ∧ g < W.heap.size) W t r) (hk : rightT t = true) (hlo : w.heap.size + 1 ≤ lo) (hlo4 : ∀ g, bs.v.ownBlock = some g → g < lo) (hlen : ts.length + 1 ≤ i + 4)
    {g n cap : Nat} (how : OwnT 0 W' (.slice (some ⟨g, 0, none⟩) n cap) (rows ++ [r])) (gr : W.grownBy W' bs.v.ownBlock) (hg : bs.v.ownBlock = some g ∨ g = W.heap.size) :
    LQ s b w i wr ou fu (ts ++ [t]) ⟨some ⟨g, 0, none⟩, n, cap⟩ (rows ++ [r]) W' := by
  have hlt := h.ax.lt
  have hk' : ∀ q, bs.v.ownBlock = some q → w.heap.size ≤ q := fun q hq => by have := h.rowP q hq; omega
  have hgb : w.heap.size + 1 ≤ g := by
    rcases hg with hg | hg
    · exact h.rowP g hg
    · have := h.ax.res.lt; omega
  have hnew : ∀ q, q < W.heap.size → bs.v.ownBlock ≠ some q → (Sl.v ⟨some ⟨g, 0, none⟩, n, cap⟩).ownBlock ≠ some q := fun q h1 h2 e => by
    injection e with e
    have e : g = q := e
    subst e
    rcases hg with hg | hg
    · exact h2 hg
    · omega
  have hheap : ∀ q, q < W.heap.size → bs.v.ownBlock ≠ some q → W'.heap[q]? = W.heap[q]? := fun q h1 h3 => gr.block q h1 (fun e => h3 e.symm)
  refine ⟨⟨h.ax.ex.grown gr hk', h.ax.res.grown gr (fun e => by have := h.rowP _ e; omega), h.ax.rd.grown gr (fun e => by have := h.rowP _ e; omega), hlt⟩, how, ?_, ?_, ?_, h.le, by simp; omega⟩
  · intro g1 hg1
    injection hg1 with hg1
    have hg1 : g = g1 := hg1
    subst hg1
    exact hgb
  · refine HOs.snoc (HOs.same ?_ ?_ h.hos) (HO.same ?_ ?_ hr)
    · intro q ⟨h1, h2, h4⟩
      exact ⟨h1, Nat.lt_of_lt_of_le h2 gr.size, hnew q h2 h4⟩
    · intro q ⟨h1, h2, h4⟩
      exact hheap q h2 h4
    · intro q ⟨h1, h2⟩
      exact ⟨by omega, Nat.lt_of_lt_of_le h2 gr.size, hnew q h2 (fun e => by have := hlo4 q e; omega)⟩
    · intro q ⟨h1, h2⟩
      exact hheap q h2 (fun e => by have := hlo4 q e; omega)
  · intro u hu
    rcases List.mem_append.1 hu with hu | hu
    · exact h.rt u hu
    · simp at hu; subst hu; exact hk
theorem LQ.ho {s : ByteArray} {b : Nat} {w : World} {i : Nat} {wr ou fu : Bool} {ts : List Tree} {bs : Sl} {rows : List PC} {W : World} (h : LQ s b w i wr ou fu ts bs rows W) (k : Int) : HO (fun g => w.heap.size + 1 ≤ g ∧ g < W.heap.size) W (.mk k [] ts) ⟨k, ⟨none, 0, 0⟩, bs⟩ :=
  (HO_mk _ _ _ _ _ _).2 ⟨rfl, ⟨OwnX.nil _ _ _ _ _, fun g hg => by cases hg⟩, rows, ⟨h.row, fun g hg => ⟨h.rowP g hg, (h.row.lt hg).2⟩⟩, HOs.same (fun _ h1 => ⟨h1.1, h1.2.1⟩) (fun _ _ => rfl) h.hos⟩
theorem LQ.rlen {s : ByteArray} {b : Nat} {w : World} {i : Nat} {wr ou fu : Bool} {ts : List Tree} {bs : Sl} {rows : List PC} {W : World} (h : LQ s b w i wr ou fu ts bs rows W) : rows.length ≤ i + 4 := by rw [h.hos.len]; exact h.len
theorem LQ.nil {s : ByteArray} {b : Nat} {w : World} {i : Nat} {wr ou fu : Bool} {W : World} (h : AQ s b w i wr ou fu W) (hi : i ≤ s.size) : LQ s b w i wr ou fu [] ⟨none, 0, 0⟩ [] W :=
  ⟨h, OwnX.nil _ _ _ _ _, (fun g hg => by cases hg), (HOs_nil _ _ _).2 rfl, (fun t ht => by cases ht), hi, by simp⟩
theorem LQ.one {s : ByteArray} {b : Nat} {w : World} {i : Nat} {wr ou fu : Bool} {W : World} {t : Tree} {r : PC} (h : AQ s b w i wr ou fu W) (hr : HO (fun g => w.heap.size + 1 ≤ g ∧ g < W.heap.size) W t r) (hk : rightT t = true) (hi : i ≤ s.size) :
    LQ s b w i wr ou fu [t] ⟨some ⟨W.heap.size, 0, none⟩, 1, 1⟩ [r] (W.alloc (.cells (encT r).toArray 26)) := by
  have hB : Below W.heap.size W (W.alloc (.cells (encT r).toArray 26)) := bel_alloc _ _
  have hl := h.res.lt
  refine ⟨h.bel hB, OwnX.lit (l := [r]) encT_len (Blk.new _ _ _) (by simp [cellsOf]) (Nat.zero_le _) (by simp), ?_, ?_, ?_, hi, by simp⟩
  · intro g hg
    injection hg with hg
    have hg : W.heap.size = g := hg
    omega
  · refine (HOs_cons _ _ _ _ _).2 ⟨r, [], rfl, HO.same ?_ (fun q hq => hB.block q hq.2) hr, (HOs_nil _ _ _).2 rfl⟩
    intro q hq
    refine ⟨hq.1, by simp; omega, ?_⟩
    intro e
    injection e with e
    have e : W.heap.size = q := e
    omega
  · intro u hu; simp at hu; subst hu; exact hk

/-! ### What is left to be read -/

def SepQ (nul : Bool) (s : ByteArray) (wr0 ou0 fu0 : Bool) (M : Option Rd) (one : Bs → Option Rd) (c : UInt8) (k : Int) (ts : List Tree) (i : Nat) (wr ou fu : Bool) : Prop :=
  (wr0 = true → wr = true) ∧ (wr0 = false → (M = none ∧ (wr = true ∨ (nul = true ∧ headIs 0 (s.data.toList.drop i) = true))) ∨ (wr = false ∧ ∃ o f q tm, (fu = false → ts = tm) ∧ ou = (ou0 || o) ∧ fu = (fu0 || f) ∧ (s.data.toList.drop i).length < q ∧ M = finM k (sepM one c q tm o f (s.data.toList.drop i))))

theorem SepQ.start {nul : Bool} {s : ByteArray} {one : Bs → Option Rd} {c : UInt8} {k : Int} {r : Bs} {t : Tree} {i : Nat} {wr0 ou0 fu0 wr ou fu : Bool} (h : DoesQ nul s wr0 ou0 fu0 (one r) t i wr ou fu) : SepQ nul s wr0 ou0 fu0 (listM one c k r) one c k [t] i wr ou fu := by
  refine ⟨h.1, fun hw => ?_⟩
  rcases h.2 hw with ⟨h1, h2⟩ | ⟨x, h1, h2, h3, h4, h5, h6⟩
  · left; unfold listM; rw [h1]; exact ⟨rfl, h2⟩
  · right
    refine ⟨h2, x.o, x.f, x.r.length + 1, [x.t], fun e => by rw [h3 e], h5, h6, by rw [h4]; omega, ?_⟩
    unfold listM
    rw [h1, h4]
    rfl
theorem SepQ.step {nul : Bool} {s : ByteArray} {M : Option Rd} {one : Bs → Option Rd} {c : UInt8} {k : Int} {ts : List Tree} {t : Tree} {i i2 : Nat} {wr0 ou0 fu0 wr ou fu wr2 ou2 fu2 : Bool} (h : SepQ nul s wr0 ou0 fu0 M one c k ts i wr ou fu) (hc0 : c ≠ 0) (hc : headIs c (s.data.toList.drop i) = true) (hd : DoesQ nul s wr ou fu (one (s.data.toList.drop (i + 1))) t i2 wr2 ou2 fu2) (hi : i + 1 ≤ i2) (h2s : i2 ≤ s.size) : SepQ nul s wr0 ou0 fu0 M one c k (ts ++ [t]) i2 wr2 ou2 fu2 := by
  refine ⟨fun hw => hd.1 (h.1 hw), fun hw => ?_⟩
  rcases h.2 hw with ⟨h1, h2⟩ | ⟨h1, o, f, q, tm, h8, h2, h3, h4, h5⟩
  · left
    refine ⟨h1, Or.inl ?_⟩
    rcases h2 with h2 | ⟨_, h2⟩
    · exact hd.1 h2
    · rw [headIs_other h2 hc0] at hc; cases hc
  · rw [(headIs_drop hc).1] at h4 h5
    obtain ⟨q', rfl⟩ : ∃ q', q = q' + 1 := ⟨q - 1, by simp at h4; omega⟩
    rw [sepM, if_pos rfl] at h5
    rcases hd.2 h1 with ⟨a1, a2⟩ | ⟨x, a1, a2, a3, a4, a5, a6⟩
    · left
      rw [a1] at h5
      exact ⟨h5, a2⟩
    · right
      rw [a1] at h5
      refine ⟨a2, o || x.o, f || x.f, q', tm ++ [x.t], fun e => ?_, by rw [a5, h2, Bool.or_assoc], by rw [a6, h3, Bool.or_assoc], ?_, ?_⟩
      · have e2 : fu = false := by rw [e] at a6; exact (Bool.or_eq_false_iff.1 a6.symm).1
        rw [h8 e2, a3 e]
      · rw [List.length_cons, drop_len] at h4
        rw [drop_len]
        omega
      · rw [a4]; exact h5
theorem SepQ.fin {nul : Bool} {s : ByteArray} {M : Option Rd} {one : Bs → Option Rd} {c : UInt8} {k : Int} {ts : List Tree} {i : Nat} {wr0 ou0 fu0 wr ou fu : Bool} (h : SepQ nul s wr0 ou0 fu0 M one c k ts i wr ou fu) (hc : headIs c (s.data.toList.drop i) = false) : DoesQ nul s wr0 ou0 fu0 M (singleM k ts).1 i wr ou (fu || (singleM k ts).2) := by
  refine ⟨h.1, fun hw => ?_⟩
  rcases h.2 hw with h1 | ⟨h1, o, f, q, tm, h8, h2, h3, h4, h5⟩
  · exact Or.inl h1
  · right
    obtain ⟨q', rfl⟩ : ∃ q', q = q' + 1 := ⟨q - 1, by omega⟩
    rw [sep_stop' hc] at h5
    refine ⟨⟨(singleM k tm).1, o, f || (singleM k tm).2, s.data.toList.drop i⟩, h5, h1, fun e => ?_, rfl, h2, ?_⟩
    · rw [h8 (Bool.or_eq_false_iff.1 e).1]
    · cases fu with
      | true => rw [← Bool.or_assoc, ← h3]; rfl
      | false => rw [h8 rfl, ← Bool.or_assoc, ← h3]
theorem SepQ.bad {nul : Bool} {s : ByteArray} {M : Option Rd} {one : Bs → Option Rd} {c : UInt8} {k : Int} {ts : List Tree} {i : Nat} {wr0 ou0 fu0 ou fu : Bool} (h : SepQ nul s wr0 ou0 fu0 M one c k ts i true ou fu) (t : Tree) (fu' : Bool) : DoesQ nul s wr0 ou0 fu0 M t i true ou fu' := by
  refine ⟨h.1, fun hw => ?_⟩
  rcases h.2 hw with h1 | ⟨h1, _⟩
  · exact Or.inl h1
  · cases h1

end Go.Proofs.YtnohkbdmnalmcaaGreatDoor
