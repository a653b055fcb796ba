/-
  Lists of parts in memory, between the rounds; walks: cat, alt; all of them together.
-/
import Derived.Test.YtihnmamejfoeeaaDoorRb3
namespace Go.Proofs.YtihnmamejfoeeaaDoor
open Go.RowKit

theorem ok_list' {k : Int} {ts : List Tree} (hl : ts.length ≤ 1000000) (h : ∀ t ∈ ts, rightT t = true) : okT (.mk k [] ts) :=
  (okT_mk _ _ _).2 ⟨by simp, by omega, okL_of fun t ht => ok_right (h t ht)⟩

/-- A list of parts in memory: its pattern lies in block b3, its Subs in a row of the call's own. -/
structure LI (s : ByteArray) (b : Nat) (w : World) (b3 i : Nat) (wr ou fu : Bool) (k : Int) (ts : List Tree) (bs : Sl) (rows : List PC) (W : World) : Prop where
  ax : AX s b w i wr ou fu W
  me : Blk W b3 (encT ⟨k, ⟨none, 0, 0⟩, bs⟩).toArray 25
  row : OwnT 0 W bs.v rows
  rowP : ∀ g, bs.v.ownBlock = some g → w.heap.size + 1 ≤ g ∧ g ≠ b3
  hos : HOs (fun g => w.heap.size + 1 ≤ g ∧ g < W.heap.size ∧ g ≠ b3 ∧ bs.v.ownBlock ≠ some g) W ts rows
  hb3 : w.heap.size < b3
  rt : ∀ t ∈ ts, rightT t = true
  le : i ≤ s.size
  len : ts.length ≤ i + 4

theorem LI.go {s : ByteArray} {b : Nat} {w : World} {b3 i i' : Nat} {wr ou fu wr' ou' fu' : Bool} {k : Int} {ts : List Tree} {bs : Sl} {rows : List PC} {W W' : World} (h : LI s b w b3 i wr ou fu k ts bs rows W) (g : Ex b W W') (hb : BlkR W' b s i' wr' ou' fu') (hi : i' ≤ s.size) (hii : i ≤ i') : LI s b w b3 i' wr' ou' fu' k ts bs rows W' :=
  ⟨h.ax.go g hb, Blk.ex g h.me (by have := h.ax.lt; have := h.hb3; omega), h.row.same (fun q hq => g.block q (h.row.lt hq).2 (by have := (h.rowP q hq).1; have := h.ax.lt; omega)), h.rowP, HOs.same (fun _ h1 => ⟨h1.1, Nat.lt_of_lt_of_le h1.2.1 g.size, h1.2.2⟩) (fun q h1 => g.block q h1.2.1 (by have := h.ax.lt; omega)) h.hos, h.hb3, h.rt, hi, Nat.le_trans h.len (by omega)⟩
theorem LI.bel {s : ByteArray} {b : Nat} {w : World} {b3 i : Nat} {wr ou fu : Bool} {k : Int} {ts : List Tree} {bs : Sl} {rows : List PC} {W W' : World} (h : LI s b w b3 i wr ou fu k ts bs rows W) (g : Below W.heap.size W W') : LI s b w b3 i wr ou fu k ts bs rows W' := h.go (.of_bel g) (h.ax.rd.bel g) h.le (Nat.le_refl _)

/-- One part more behind the row. -/
theorem LI.step {s : ByteArray} {b : Nat} {w : World} {b3 i : Nat} {wr ou fu : Bool} {k : Int} {ts : List Tree} {bs : Sl} {rows : List PC} {W W' : World} (h : LI s b w b3 i wr ou fu k ts bs rows W) {t : Tree} {r : PC} {lo : Nat} (hr : HO (fun g => lo ≤ g ∧ g < W.heap.size) W t r) (hk : rightT t = true) (hlo3 : b3 < lo) (hlo4 : ∀ g, bs.v.ownBlock = some g → g < lo) (hlen : ts.length + 1 ≤ i + 4)
    {g n cap : Nat} (how : OwnT 0 W' (.slice (some ⟨g, 0, none⟩) n cap) (rows ++ [r])) (gr : W.grownBy W' bs.v.ownBlock) (hg : bs.v.ownBlock = some g ∨ g = W.heap.size) :
    LI s b w b3 i wr ou fu k (ts ++ [t]) ⟨some ⟨g, 0, none⟩, n, cap⟩ (rows ++ [r]) (W'.setCell ⟨b3, 2, none⟩ (.slice (some ⟨g, 0, none⟩) n cap)) := by
  have hb3 := h.hb3
  have m3 := h.me.lt
  have hlt := h.ax.lt
  have hk' : ∀ q, bs.v.ownBlock = some q → w.heap.size ≤ q := fun q hq => by have := (h.rowP q hq).1; omega
  have hgb : w.heap.size + 1 ≤ g ∧ g ≠ b3 := by
    rcases hg with hg | hg
    · exact h.rowP g hg
    · have := h.ax.res.lt; omega
  have hnew : ∀ q, q < W.heap.size → bs.v.ownBlock ≠ some q → (Sl.v ⟨some ⟨g, 0, none⟩, n, cap⟩).ownBlock ≠ some q := fun q h1 h2 e => by
    injection e with e
    have e : g = q := e
    subst e
    rcases hg with hg | hg
    · exact h2 hg
    · omega
  have hheap : ∀ q, q < W.heap.size → q ≠ b3 → bs.v.ownBlock ≠ some q → (W'.setCell ⟨b3, 2, none⟩ (.slice (some ⟨g, 0, none⟩) n cap)).heap[q]? = W.heap[q]? := fun q h1 h2 h3 => (Below.heap_setCell _ _ _ _ h2).trans (gr.block q h1 (fun e => h3 e.symm))
  have hsz : (W'.setCell ⟨b3, 2, none⟩ (.slice (some ⟨g, 0, none⟩) n cap)).heap.size = W'.heap.size := by simp
  have hex : Ex b w (W'.setCell ⟨b3, 2, none⟩ (.slice (some ⟨g, 0, none⟩) n cap)) := (h.ax.ex.grown gr hk').setNew (by omega) 2 _
  refine ⟨⟨hex, (h.ax.res.grown gr (fun e => by have := (h.rowP _ e).1; omega)).other (by show w.heap.size ≠ b3; omega) _, (h.ax.rd.grown gr (fun e => by have := (h.rowP _ e).1; omega)).other (by show b ≠ b3; omega) _, hlt⟩, ?_, how.setOther (by intro e; injection e with e; exact hgb.2 e) _, ?_, ?_, hb3, ?_, h.le, by simp; omega⟩
  · exact (h.me.grown gr (fun e => (h.rowP _ e).2 rfl)).set 2 (.slice (some ⟨g, 0, none⟩) n cap)
  · intro g1 hg1
    injection hg1 with hg1
    have hg1 : g = g1 := hg1
    subst hg1
    exact hgb
  · refine HOs.snoc (HOs.same ?_ ?_ h.hos) (HO.same ?_ ?_ hr)
    · intro q ⟨h1, h2, h3, h4⟩
      exact ⟨h1, by rw [hsz]; exact Nat.lt_of_lt_of_le h2 gr.size, h3, hnew q h2 h4⟩
    · intro q ⟨h1, h2, h3, h4⟩
      exact hheap q h2 h3 h4
    · intro q ⟨h1, h2⟩
      exact ⟨by omega, by rw [hsz]; exact Nat.lt_of_lt_of_le h2 gr.size, by omega, hnew q h2 (fun e => by have := hlo4 q e; omega)⟩
    · intro q ⟨h1, h2⟩
      exact hheap q h2 (by omega) (fun e => by have := hlo4 q e; omega)
  · intro u hu
    rcases List.mem_append.1 hu with hu | hu
    · exact h.rt u hu
    · simp at hu; subst hu; exact hk
theorem LI.ho {s : ByteArray} {b : Nat} {w : World} {b3 i : Nat} {wr ou fu : Bool} {k : Int} {ts : List Tree} {bs : Sl} {rows : List PC} {W : World} (h : LI s b w b3 i wr ou fu k ts bs rows W) : HO (fun g => w.heap.size + 1 ≤ g ∧ g < W.heap.size ∧ g ≠ b3) W (.mk k [] ts) ⟨k, ⟨none, 0, 0⟩, bs⟩ :=
  (HO_mk _ _ _ _ _ _).2 ⟨rfl, ⟨OwnX.nil _ _ _ _ _, fun g hg => by cases hg⟩, rows, ⟨h.row, fun g hg => ⟨(h.rowP g hg).1, (h.row.lt hg).2, (h.rowP g hg).2⟩⟩, HOs.same (fun _ h1 => ⟨h1.1, h1.2.1, h1.2.2.1⟩) (fun _ _ => rfl) h.hos⟩
theorem LI.rlen {s : ByteArray} {b : Nat} {w : World} {b3 i : Nat} {wr ou fu : Bool} {k : Int} {ts : List Tree} {bs : Sl} {rows : List PC} {W : World} (h : LI s b w b3 i wr ou fu k ts bs rows W) : rows.length ≤ i + 4 := by rw [h.hos.len]; exact h.len
theorem LI.me_grown {s : ByteArray} {b : Nat} {w : World} {b3 i : Nat} {wr ou fu : Bool} {k : Int} {ts : List Tree} {bs : Sl} {rows : List PC} {W W' : World} (h : LI s b w b3 i wr ou fu k ts bs rows W) (gr : W.grownBy W' bs.v.ownBlock) : Blk W' b3 (encT ⟨k, ⟨none, 0, 0⟩, bs⟩).toArray 25 := h.me.grown gr (fun e => (h.rowP _ e).2 rfl)
theorem LI.nil {s : ByteArray} {b : Nat} {w : World} {i : Nat} {wr ou fu : Bool} {k : Int} {W : World} (h : AX s b w i wr ou fu W) (hi : i ≤ s.size) : LI s b w W.heap.size i wr ou fu k [] ⟨none, 0, 0⟩ [] (W.alloc (.cells #[.int .i64 k, .slice none 0 0, .slice none 0 0] 25)) :=
  ⟨h.bel (bel_alloc _ _), Blk.new _ _ _, OwnX.nil _ _ _ _ _, (fun g hg => by cases hg), (HOs_nil _ _ _).2 rfl, h.res.lt, (fun t ht => by cases ht), hi, by simp⟩
theorem LI.one {s : ByteArray} {b : Nat} {w : World} {i : Nat} {wr ou fu : Bool} {k : Int} {W : World} {t : Tree} {r : PC} (h : AX s b w i wr ou fu W) (hr : HO (fun g => w.heap.size + 1 ≤ g ∧ g < W.heap.size) W t r) (hk : rightT t = true) (hi : i ≤ s.size) :
    LI s b w (W.heap.size + 1) i wr ou fu k [t] ⟨some ⟨W.heap.size, 0, none⟩, 1, 1⟩ [r] ((W.alloc (.cells #[.int .i64 r.k, .slice r.s.a r.s.n r.s.c, .slice r.b.a r.b.n r.b.c] 25)).alloc (.cells #[.int .i64 k, .slice none 0 0, .slice (some ⟨W.heap.size, 0, none⟩) 1 1] 25)) := by
  have hB : Below W.heap.size W ((W.alloc (.cells #[.int .i64 r.k, .slice r.s.a r.s.n r.s.c, .slice r.b.a r.b.n r.b.c] 25)).alloc (.cells #[.int .i64 k, .slice none 0 0, .slice (some ⟨W.heap.size, 0, none⟩) 1 1] 25)) := bstep (bel_alloc _ _) (bel_alloc _ _)
  have hl := h.res.lt
  refine ⟨h.bel hB, Blk.new' _ _ _ _ (by simp), OwnX.lit (l := [r]) encT_len ((Blk.new _ _ _).alloc _) rfl (Nat.zero_le _) (by simp), ?_, ?_, by omega, ?_, hi, by simp <;> omega⟩
  · intro g hg
    injection hg with hg
    have hg : W.heap.size = g := hg
    omega
  · refine (HOs_cons _ _ _ _ _).2 ⟨r, [], rfl, HO.same ?_ (fun q hq => hB.block q hq.2) hr, (HOs_nil _ _ _).2 rfl⟩
    intro q hq
    refine ⟨hq.1, by simp; omega, by omega, ?_⟩
    intro e
    injection e with e
    have e : W.heap.size = q := e
    omega
  · intro u hu; simp at hu; subst hu; exact hk

/-! ### What is left to be read -/

def finM (k : Int) (x : Option (List Tree × Bool × Bool × Bs)) : Option Rd :=
  match x with
  | none => none
  | some (l, o, f, r') => some ⟨(singleM k l).1, o, f || (singleM k l).2, r'⟩

def SepD (s : ByteArray) (wr0 ou0 fu0 : Bool) (M : Option Rd) (one : Bs → Option Rd) (c : UInt8) (k : Int) (ts : List Tree) (i : Nat) (wr ou fu : Bool) : Prop :=
  (wr0 = true → wr = true) ∧ (wr0 = false → (M = none ∧ wr = true) ∨ (wr = false ∧ ∃ o f q, ou = (ou0 || o) ∧ fu = (fu0 || f) ∧ (s.data.toList.drop i).length < q ∧ M = finM k (sepM one c q ts o f (s.data.toList.drop i))))

theorem SepD.start {s : ByteArray} {one : Bs → Option Rd} {c : UInt8} {k : Int} {r : Bs} {t : Tree} {i : Nat} {wr0 ou0 fu0 wr ou fu : Bool} (h : Does s wr0 ou0 fu0 (one r) t i wr ou fu) : SepD s wr0 ou0 fu0 (listM one c k r) one c k [t] i wr ou fu := by
  refine ⟨h.1, fun hw => ?_⟩
  rcases h.2 hw with ⟨h1, h2⟩ | ⟨x, h1, h2, h3, h4, h5, h6⟩
  · left; unfold listM; rw [h1]; exact ⟨rfl, h2⟩
  · right
    refine ⟨h2, x.o, x.f, x.r.length + 1, h5, h6, by rw [h4]; omega, ?_⟩
    unfold listM
    rw [h1, h3, h4]
    rfl
theorem SepD.step {s : ByteArray} {M : Option Rd} {one : Bs → Option Rd} {c : UInt8} {k : Int} {ts : List Tree} {t : Tree} {i i2 : Nat} {wr0 ou0 fu0 wr ou fu wr2 ou2 fu2 : Bool} (h : SepD s wr0 ou0 fu0 M one c k ts i wr ou fu) (hc : headIs c (s.data.toList.drop i) = true) (hd : Does s wr ou fu (one (s.data.toList.drop (i + 1))) t i2 wr2 ou2 fu2) (hi : i + 1 ≤ i2) (h2s : i2 ≤ s.size) : SepD s wr0 ou0 fu0 M one c k (ts ++ [t]) i2 wr2 ou2 fu2 := by
  refine ⟨fun hw => hd.1 (h.1 hw), fun hw => ?_⟩
  rcases h.2 hw with ⟨h1, h2⟩ | ⟨h1, o, f, q, h2, h3, h4, h5⟩
  · exact Or.inl ⟨h1, hd.1 h2⟩
  · rw [(headIs_drop hc).1] at h4 h5
    obtain ⟨q', rfl⟩ : ∃ q', q = q' + 1 := ⟨q - 1, by simp at h4; omega⟩
    rw [sepM, if_pos rfl] at h5
    rcases hd.2 h1 with ⟨a1, a2⟩ | ⟨x, a1, a2, a3, a4, a5, a6⟩
    · left
      rw [a1] at h5
      exact ⟨h5, a2⟩
    · right
      rw [a1] at h5
      refine ⟨a2, o || x.o, f || x.f, q', by rw [a5, h2, Bool.or_assoc], by rw [a6, h3, Bool.or_assoc], ?_, ?_⟩
      · rw [List.length_cons, drop_len] at h4
        rw [drop_len]
        omega
      · rw [a3, a4]; exact h5
theorem sep_stop' {one : Bs → Option Rd} {c : UInt8} {k : Nat} {l : List Tree} {o f : Bool} {r : Bs} (h : headIs c r = false) : sepM one c (k + 1) l o f r = some (l, o, f, r) := by
  cases r with
  | nil => rw [sepM]
  | cons d r =>
    simp [headIs_cons] at h
    rw [sepM]
    simp [h]
theorem SepD.fin {s : ByteArray} {M : Option Rd} {one : Bs → Option Rd} {c : UInt8} {k : Int} {ts : List Tree} {i : Nat} {wr0 ou0 fu0 wr ou fu : Bool} (h : SepD s wr0 ou0 fu0 M one c k ts i wr ou fu) (hc : headIs c (s.data.toList.drop i) = false) : Does s wr0 ou0 fu0 M (singleM k ts).1 i wr ou (fu || (singleM k ts).2) := by
  refine ⟨h.1, fun hw => ?_⟩
  rcases h.2 hw with h1 | ⟨h1, o, f, q, h2, h3, h4, h5⟩
  · exact Or.inl h1
  · right
    obtain ⟨q', rfl⟩ : ∃ q', q = q' + 1 := ⟨q - 1, by omega⟩
    rw [sep_stop' hc] at h5
    exact ⟨_, h5, h1, rfl, rfl, h2, by rw [h3, Bool.or_assoc]⟩

end Go.Proofs.YtihnmamejfoeeaaDoor
