/-
  What the readers' functions come to; lists of parts in memory; what stands between the signs.
-/
import Derived.Test.YtjjlkjfhhpogaaaGreatDoorNu
import Derived.Test.YtjjlkjfhhpogaaaGreatDoorRa2
namespace Go.Proofs.YtjjlkjfhhpogaaaGreatDoor
open Go.RowKit

/-- The state behind a part, and the pattern, are what the model says, unless the text isn't of the grammar. -/
def Does (s : ByteArray) (wr ou fu : Bool) (m : Option Rd) (t : Tree) (i' : Nat) (wr' ou' fu' : Bool) : Prop :=
  (wr = true → wr' = true) ∧ (wr = false → (m = none ∧ wr' = true) ∨ ∃ x, m = some x ∧ wr' = false ∧ t = x.t ∧ s.data.toList.drop i' = x.r ∧ ou' = (ou || x.o) ∧ fu' = (fu || x.f))

def PostR (s : ByteArray) (b i : Nat) (wr ou fu : Bool) (m : Option Rd) (w : World) (e : Ending) (w' : World) : Prop :=
  ∃ (r : PC) (t : Tree) (i' : Nat) (wr' ou' fu' : Bool), e = .returned r.v ∧ HO (fun g => w.heap.size ≤ g ∧ g < w'.heap.size) w' t r ∧ rightT t = true ∧ Ex b w w' ∧ BlkR w' b s i' wr' ou' fu' ∧ i ≤ i' ∧ i' ≤ s.size ∧ Does s wr ou fu m t i' wr' ou' fu'

/-- A function of the reader reads what the model says, from no more than so many bytes. -/
def CA (s : ByteArray) (b : Nat) (F : FuncId) (M : Bs → Option Rd) (lim : Nat) : Prop :=
  ∀ (i : Nat) (wr ou fu : Bool) (W : World), i ≤ s.size → s.size - i < lim → BlkR W b s i wr ou fu →
    Calls Tryz.prog F #[.pointer (some ⟨b, 0, none⟩)] W fun e w' => PostR s b i wr ou fu (M (s.data.toList.drop i)) W e w'

/-- The result, returned. -/
theorem AX.fin {s : ByteArray} {b : Nat} {w : World} {i0 i : Nat} {wr0 ou0 fu0 wr ou fu : Bool} {W : World} (h : AX s b w i wr ou fu W) {t : Tree} {r : PC} {m : Option Rd} (hr : HO (fun g => w.heap.size + 1 ≤ g ∧ g < W.heap.size) W t r) (hk : rightT t = true) (h1 : i0 ≤ i) (h2 : i ≤ s.size) (hd : Does s wr0 ou0 fu0 m t i wr ou fu) (v0 v1 v2 : Value) :
    PostR s b i0 wr0 ou0 fu0 m w (.returned r.v) (((W.setCell ⟨w.heap.size, 0, none⟩ v0).setCell ⟨w.heap.size, 1, none⟩ v1).setCell ⟨w.heap.size, 2, none⟩ v2) :=
  ⟨r, t, i, wr, ou, fu, rfl, HO.same (fun g hg => ⟨by omega, by simpa using hg.2⟩) (fun g hg => heap_set3 (by omega) _ _ _) hr, hk, set3_ex h.ex (Nat.le_refl _) _ _ _, h.rd.set3 (by have := h.lt; omega) _ _ _, h1, h2, hd⟩

/-- Where must comes to. -/
def mustI (s : ByteArray) (c : UInt8) (i : Nat) : Nat := if headIs c (s.data.toList.drop i) = true then i + 1 else s.size
def mustW (s : ByteArray) (c : UInt8) (i : Nat) (wr : Bool) : Bool := wr || !headIs c (s.data.toList.drop i)
theorem must_any {s : ByteArray} {b i : Nat} {wr ou fu : Bool} {c : UInt8} {w : World} (hs : s.size ≤ 3000) (hi : i ≤ s.size) (hb : BlkR w b s i wr ou fu) :
    Calls Tryz.prog 119 #[.pointer (some ⟨b, 0, none⟩), .int .u8 c.toNat] w fun e w' => (∃ v, e = .returned v) ∧ Ex b w w' ∧ BlkR w' b s (mustI s c i) (mustW s c i wr) ou fu := by
  unfold mustI mustW
  cases h : headIs c (s.data.toList.drop i) with
  | true => simp only [if_true, Bool.not_true, Bool.or_false]; exact must_yes hs hb h
  | false => simp only [Bool.false_eq_true, if_false, Bool.not_false, Bool.or_true]; exact must_no hi hb h
theorem headIs_drop {s : ByteArray} {c : UInt8} {i : Nat} (h : headIs c (s.data.toList.drop i) = true) : s.data.toList.drop i = c :: s.data.toList.drop (i + 1) ∧ i < s.size := by
  cases e : s.data.toList.drop i with
  | nil => rw [e] at h; simp [headIs] at h
  | cons d r =>
    rw [e, headIs_cons] at h
    have h : d = c := by simpa using h
    subst h
    rw [drop_step e]
    exact ⟨rfl, drop_lt e⟩
theorem mustI_le {s : ByteArray} {c : UInt8} {i : Nat} (hi : i ≤ s.size) : i ≤ mustI s c i ∧ mustI s c i ≤ s.size := by
  unfold mustI
  split
  · rename_i h; have := (headIs_drop h).2; omega
  · omega
theorem headIs_false {s : ByteArray} {c : UInt8} {i : Nat} (h : headIs c (s.data.toList.drop i) = false) : (s.data.toList.drop i).head? ≠ some c := by
  simpa [headIs] using h

theorem NumQ.wrong {s : ByteArray} {i n at' : Nat} {wr wr' : Bool} (h : NumQ s i wr n at' wr') (hw : wr = true) : wr' = true := by
  rcases h with ⟨_, h⟩ | ⟨_, _, h, _⟩
  · exact h
  · rw [h, hw]
theorem must_some {s : ByteArray} {c : UInt8} {i : Nat} {r : Bs} (h : s.data.toList.drop i = r) : (∃ q, r = c :: q ∧ mustW s c i false = false ∧ s.data.toList.drop (mustI s c i) = q) ∨ ((∀ q, r ≠ c :: q) ∧ ∀ w, mustW s c i w = true) := by
  cases h7 : headIs c (s.data.toList.drop i) with
  | true =>
    left
    have h8 := (headIs_drop h7).1
    exact ⟨s.data.toList.drop (i + 1), by rw [← h, h8], by simp [mustW, h7], by simp [mustI, h7]⟩
  | false =>
    right
    have h8 := headIs_false h7
    refine ⟨fun q hq => ?_, fun w => by simp [mustW, h7]⟩
    rw [h, hq] at h8
    simp at h8

theorem ok_list' {k : Int} {ts : List Tree} (hl : ts.length ≤ 1000000) (h : ∀ t ∈ ts, rightT t = true) : okT (.mk k [] ts) :=
  (okT_mk _ _ _).2 ⟨by simp, by omega, okL_of fun t ht => ok_right (h t ht)⟩

/-- A list of parts in memory: a row of the call's own. -/
structure LR (s : ByteArray) (b : Nat) (w : World) (i : Nat) (wr ou fu : Bool) (ts : List Tree) (bs : Sl) (rows : List PC) (W : World) : Prop where
  ax : AX s b w i wr ou fu W
  row : OwnT 0 W bs.v rows
  rowP : ∀ g, bs.v.ownBlock = some g → w.heap.size + 1 ≤ g
  hos : HOs (fun g => w.heap.size + 1 ≤ g ∧ g < W.heap.size ∧ bs.v.ownBlock ≠ some g) W ts rows
  rt : ∀ t ∈ ts, rightT t = true
  le : i ≤ s.size
  len : ts.length ≤ i + 4

theorem LR.go {s : ByteArray} {b : Nat} {w : World} {i i' : Nat} {wr ou fu wr' ou' fu' : Bool} {ts : List Tree} {bs : Sl} {rows : List PC} {W W' : World} (h : LR s b w i wr ou fu ts bs rows W) (g : Ex b W W') (hb : BlkR W' b s i' wr' ou' fu') (hi : i' ≤ s.size) (hii : i ≤ i') : LR s b w i' wr' ou' fu' ts bs rows W' :=
  ⟨h.ax.go g hb, h.row.same (fun q hq => g.block q (h.row.lt hq).2 (by have := h.rowP q hq; have := h.ax.lt; omega)), h.rowP, HOs.same (fun _ h1 => ⟨h1.1, Nat.lt_of_lt_of_le h1.2.1 g.size, h1.2.2⟩) (fun q h1 => g.block q h1.2.1 (by have := h.ax.lt; omega)) h.hos, h.rt, hi, Nat.le_trans h.len (by omega)⟩
theorem LR.bel {s : ByteArray} {b : Nat} {w : World} {i : Nat} {wr ou fu : Bool} {ts : List Tree} {bs : Sl} {rows : List PC} {W W' : World} (h : LR s b w i wr ou fu ts bs rows W) (g : Below W.heap.size W W') : LR s b w i wr ou fu ts bs rows W' := h.go (.of_bel g) (h.ax.rd.bel g) h.le (Nat.le_refl _)

/-- One part more behind the row. -/
theorem LR.step {s : ByteArray} {b : Nat} {w : World} {i : Nat} {wr ou fu : Bool} {ts : List Tree} {bs : Sl} {rows : List PC} {W W' : World} (h : LR s b w i wr ou fu ts bs rows W) {t : Tree} {r : PC} {lo : Nat} (hr : HO (fun g => lo ≤ g ∧ g < W.heap.size) W t r) (hk : rightT t = true) (hlo : w.heap.size + 1 ≤ lo) (hlo4 : ∀ g, bs.v.ownBlock = some g → g < lo) (hlen : ts.length + 1 ≤ i + 4)
    {g n cap : Nat} (how : OwnT 0 W' (.slice (some ⟨g, 0, none⟩) n cap) (rows ++ [r])) (gr : W.grownBy W' bs.v.ownBlock) (hg : bs.v.ownBlock = some g ∨ g = W.heap.size) :
    LR s b w i wr ou fu (ts ++ [t]) ⟨some ⟨g, 0, none⟩, n, cap⟩ (rows ++ [r]) W' := by
  have hlt := h.ax.lt
  have hk' : ∀ q, bs.v.ownBlock = some q → w.heap.size ≤ q := fun q hq => by have := h.rowP q hq; omega
  have hgb : w.heap.size + 1 ≤ g := by
    rcases hg with hg | hg
    · exact h.rowP g hg
    · have := h.ax.res.lt; omega
  have hnew : ∀ q, q < W.heap.size → bs.v.ownBlock ≠ some q → (Sl.v ⟨some ⟨g, 0, none⟩, n, cap⟩).ownBlock ≠ some q := fun q h1 h2 e => by
    injection e with e
    have e : g = q := e
    subst e
    rcases hg with hg | hg
    · exact h2 hg
    · omega
  have hheap : ∀ q, q < W.heap.size → bs.v.ownBlock ≠ some q → W'.heap[q]? = W.heap[q]? := fun q h1 h3 => gr.block q h1 (fun e => h3 e.symm)
  refine ⟨⟨h.ax.ex.grown gr hk', h.ax.res.grown gr (fun e => by have := h.rowP _ e; omega), h.ax.rd.grown gr (fun e => by have := h.rowP _ e; omega), hlt⟩, how, ?_, ?_, ?_, h.le, by simp; omega⟩
  · intro g1 hg1
    injection hg1 with hg1
    have hg1 : g = g1 := hg1
    subst hg1
    exact hgb
  · refine HOs.snoc (HOs.same ?_ ?_ h.hos) (HO.same ?_ ?_ hr)
    · intro q ⟨h1, h2, h4⟩
      exact ⟨h1, Nat.lt_of_lt_of_le h2 gr.size, hnew q h2 h4⟩
    · intro q ⟨h1, h2, h4⟩
      exact hheap q h2 h4
    · intro q ⟨h1, h2⟩
      exact ⟨by omega, Nat.lt_of_lt_of_le h2 gr.size, hnew q h2 (fun e => by have := hlo4 q e; omega)⟩
    · intro q ⟨h1, h2⟩
      exact hheap q h2 (fun e => by have := hlo4 q e; omega)
  · intro u hu
    rcases List.mem_append.1 hu with hu | hu
    · exact h.rt u hu
    · simp at hu; subst hu; exact hk
theorem LR.ho {s : ByteArray} {b : Nat} {w : World} {i : Nat} {wr ou fu : Bool} {ts : List Tree} {bs : Sl} {rows : List PC} {W : World} (h : LR s b w i wr ou fu ts bs rows W) (k : Int) : HO (fun g => w.heap.size + 1 ≤ g ∧ g < W.heap.size) W (.mk k [] ts) ⟨k, ⟨none, 0, 0⟩, bs⟩ :=
  (HO_mk _ _ _ _ _ _).2 ⟨rfl, ⟨OwnX.nil _ _ _ _ _, fun g hg => by cases hg⟩, rows, ⟨h.row, fun g hg => ⟨h.rowP g hg, (h.row.lt hg).2⟩⟩, HOs.same (fun _ h1 => ⟨h1.1, h1.2.1⟩) (fun _ _ => rfl) h.hos⟩
theorem LR.rlen {s : ByteArray} {b : Nat} {w : World} {i : Nat} {wr ou fu : Bool} {ts : List Tree} {bs : Sl} {rows : List PC} {W : World} (h : LR s b w i wr ou fu ts bs rows W) : rows.length ≤ i + 4 := by rw [h.hos.len]; exact h.len
theorem LR.nil {s : ByteArray} {b : Nat} {w : World} {i : Nat} {wr ou fu : Bool} {W : World} (h : AX s b w i wr ou fu W) (hi : i ≤ s.size) : LR s b w i wr ou fu [] ⟨none, 0, 0⟩ [] W :=
  ⟨h, OwnX.nil _ _ _ _ _, (fun g hg => by cases hg), (HOs_nil _ _ _).2 rfl, (fun t ht => by cases ht), hi, by simp⟩
theorem LR.one {s : ByteArray} {b : Nat} {w : World} {i : Nat} {wr ou fu : Bool} {W : World} {t : Tree} {r : PC} (h : AX s b w i wr ou fu W) (hr : HO (fun g => w.heap.size + 1 ≤ g ∧ g < W.heap.size) W t r) (hk : rightT t = true) (hi : i ≤ s.size) :
    LR s b w i wr ou fu [t] ⟨some ⟨W.heap.size, 0, none⟩, 1, 1⟩ [r] (W.alloc (.cells (encT r).toArray 26)) := by
  have hB : Below W.heap.size W (W.alloc (.cells (encT r).toArray 26)) := bel_alloc _ _
  have hl := h.res.lt
  refine ⟨h.bel hB, OwnX.lit (l := [r]) encT_len (Blk.new _ _ _) (by simp [cellsOf]) (Nat.zero_le _) (by simp), ?_, ?_, ?_, hi, by simp⟩
  · intro g hg
    injection hg with hg
    have hg : W.heap.size = g := hg
    omega
  · refine (HOs_cons _ _ _ _ _).2 ⟨r, [], rfl, HO.same ?_ (fun q hq => hB.block q hq.2) hr, (HOs_nil _ _ _).2 rfl⟩
    intro q hq
    refine ⟨hq.1, by simp; omega, ?_⟩
    intro e
    injection e with e
    have e : W.heap.size = q := e
    omega
  · intro u hu; simp at hu; subst hu; exact hk

/-- Between the signs: the pattern lies in block b3. -/
structure IX (s : ByteArray) (b : Nat) (w : World) (b3 i : Nat) (wr ou fu : Bool) (t : Tree) (x : PC) (W : World) : Prop where
  ax : AX s b w i wr ou fu W
  me : Blk W b3 (encT x).toArray 26
  ho : HO (fun g => w.heap.size + 1 ≤ g ∧ g < W.heap.size ∧ g ≠ b3) W t x
  hb3 : w.heap.size < b3
  rt : rightT t = true
  le : i ≤ s.size
theorem IX.go {s : ByteArray} {b : Nat} {w : World} {b3 i i' : Nat} {wr ou fu wr' ou' fu' : Bool} {t : Tree} {x : PC} {W W' : World} (h : IX s b w b3 i wr ou fu t x W) (g : Ex b W W') (hb : BlkR W' b s i' wr' ou' fu') (hi : i' ≤ s.size) : IX s b w b3 i' wr' ou' fu' t x W' :=
  ⟨h.ax.go g hb, Blk.ex g h.me (by have := h.ax.lt; have := h.hb3; omega), HO.same (fun _ h1 => ⟨h1.1, Nat.lt_of_lt_of_le h1.2.1 g.size, h1.2.2⟩) (fun q h1 => g.block q h1.2.1 (by have := h.ax.lt; omega)) h.ho, h.hb3, h.rt, hi⟩
theorem IX.step {s : ByteArray} {b : Nat} {w : World} {b3 i : Nat} {wr ou fu fu' : Bool} {t t' : Tree} {x r : PC} {W W' : World} (h : IX s b w b3 i wr ou fu t x W) (g : Ex b W W') (hb : BlkR W' b s i wr ou fu') (hr : HO (fun g => w.heap.size + 1 ≤ g ∧ g < W'.heap.size ∧ g ≠ b3) W' t' r) (hk : rightT t' = true) :
    IX s b w b3 i wr ou fu' t' r (((W'.setCell ⟨b3, 0, none⟩ (.int .i64 r.k)).setCell ⟨b3, 1, none⟩ (.slice r.s.a r.s.n r.s.c)).setCell ⟨b3, 2, none⟩ (.slice r.b.a r.b.n r.b.c)) := by
  have h1 := h.ax.go g hb
  have hlt := h.ax.lt
  have h3 := h.hb3
  have hm := Blk.ex g h.me (by omega : b3 ≠ b)
  refine ⟨⟨set3_ex h1.ex (by omega) _ _ _, h1.res.set3 (by omega) _ _ _, h1.rd.set3 (by omega) _ _ _, hlt⟩, ?_, ?_, h3, hk, h.le⟩
  · exact blk_put3 hm r
  · exact HO.same (fun q hq => ⟨hq.1, by simpa using hq.2.1, hq.2.2⟩) (fun q hq => heap_set3 hq.2.2 _ _ _) hr
theorem IX.start {s : ByteArray} {b : Nat} {w : World} {i : Nat} {wr ou fu : Bool} {t : Tree} {r : PC} {W : World} (h : AX s b w i wr ou fu W) (hr : HO (fun g => w.heap.size + 1 ≤ g ∧ g < W.heap.size) W t r) (hk : rightT t = true) (hi : i ≤ s.size) :
    IX s b w W.heap.size i wr ou fu t r (W.alloc (.cells #[.int .i64 r.k, .slice r.s.a r.s.n r.s.c, .slice r.b.a r.b.n r.b.c] 26)) :=
  ⟨h.bel (bel_alloc _ _), Blk.new _ _ _, HO.same (fun q hq => ⟨hq.1, by simp; omega, by omega⟩) (fun q hq => (bel_alloc _ _).block q hq.2) hr, h.res.lt, hk, hi⟩
theorem IX.held {s : ByteArray} {b : Nat} {w : World} {b3 i : Nat} {wr ou fu : Bool} {t : Tree} {x : PC} {W : World} (h : IX s b w b3 i wr ou fu t x W) : HT W t x := h.ho.held


theorem oneO_eq (ou : Bool) (lo hi : Nat) : (((ou || decide (4294967295 < lo)) || decide (4294967295 < hi)) || decide (YtjjlkjfhhpogaaaGreatDoor.wr hi < YtjjlkjfhhpogaaaGreatDoor.wr lo)) = (ou || oneO lo hi) := by
  unfold oneO YtjjlkjfhhpogaaaGreatDoor.wr
  apply Bool.eq_iff_iff.2
  simp
  by_cases h1 : 4294967295 < lo
  · simp [h1]
  · by_cases h2 : 4294967295 < hi
    · simp [h2]
    · simp [h1, h2]
theorem oneO_eq1 (ou : Bool) (lo : Nat) : ((ou || decide (4294967295 < lo)) || decide (YtjjlkjfhhpogaaaGreatDoor.wr lo < YtjjlkjfhhpogaaaGreatDoor.wr lo)) = (ou || oneO lo lo) := by
  rw [← oneO_eq]
  simp
theorem wr_bound (n : Nat) : 0 ≤ YtjjlkjfhhpogaaaGreatDoor.wr n ∧ YtjjlkjfhhpogaaaGreatDoor.wr n ≤ 4294967295 := by
  unfold YtjjlkjfhhpogaaaGreatDoor.wr
  split <;> omega

end Go.Proofs.YtjjlkjfhhpogaaaGreatDoor
