/-
  What the reader's functions come to; the walk of atom.
-/
import Derived.Test.YtihnmamejfoeeaaDoorNu
import Derived.Test.YtihnmamejfoeeaaDoorRa5
namespace Go.Proofs.YtihnmamejfoeeaaDoor
open Go.RowKit

/-- The state behind a part, and the pattern, are what the model says, unless the text isn't of the grammar. -/
def Does (s : ByteArray) (wr ou fu : Bool) (m : Option Rd) (t : Tree) (i' : Nat) (wr' ou' fu' : Bool) : Prop :=
  (wr = true → wr' = true) ∧ (wr = false → (m = none ∧ wr' = true) ∨ ∃ x, m = some x ∧ wr' = false ∧ t = x.t ∧ s.data.toList.drop i' = x.r ∧ ou' = (ou || x.o) ∧ fu' = (fu || x.f))

def PostR (s : ByteArray) (b i : Nat) (wr ou fu : Bool) (m : Option Rd) (w : World) (e : Ending) (w' : World) : Prop :=
  ∃ (r : PC) (t : Tree) (i' : Nat) (wr' ou' fu' : Bool), e = .returned r.v ∧ HO (fun g => w.heap.size ≤ g ∧ g < w'.heap.size) w' t r ∧ rightT t = true ∧ Ex b w w' ∧ BlkR w' b s i' wr' ou' fu' ∧ i ≤ i' ∧ i' ≤ s.size ∧ Does s wr ou fu m t i' wr' ou' fu'

/-- A function of the reader reads what the model says, from no more than so many bytes. -/
def CA (s : ByteArray) (b : Nat) (F : FuncId) (M : Bs → Option Rd) (lim : Nat) : Prop :=
  ∀ (i : Nat) (wr ou fu : Bool) (W : World), i ≤ s.size → s.size - i < lim → BlkR W b s i wr ou fu →
    Calls Tryd.prog F #[.pointer (some ⟨b, 0, none⟩)] W fun e w' => PostR s b i wr ou fu (M (s.data.toList.drop i)) W e w'

/-- A function's frame: its result's cells, the reader. -/
structure AX (s : ByteArray) (b : Nat) (w : World) (i : Nat) (wr ou fu : Bool) (W : World) : Prop where
  ex : Ex b w W
  res : Blk W w.heap.size (encT ⟨0, ⟨none, 0, 0⟩, ⟨none, 0, 0⟩⟩).toArray 25
  rd : BlkR W b s i wr ou fu
  lt : b < w.heap.size
theorem AX.start {s : ByteArray} {b : Nat} {w : World} {i : Nat} {wr ou fu : Bool} (hb : BlkR w b s i wr ou fu) : AX s b w i wr ou fu (w.alloc (.cells #[.int .i64 0, .slice none 0 0, .slice none 0 0] 25)) :=
  ⟨(Ex.refl _ _).alloc _, Blk.new _ _ _, hb.alloc _, hb.lt⟩
theorem AX.go {s : ByteArray} {b : Nat} {w : World} {i i' : Nat} {wr ou fu wr' ou' fu' : Bool} {W W' : World} (h : AX s b w i wr ou fu W) (g : Ex b W W') (hb : BlkR W' b s i' wr' ou' fu') : AX s b w i' wr' ou' fu' W' :=
  ⟨h.ex.trans g, Blk.ex g h.res (by have := h.lt; omega), hb, h.lt⟩
theorem AX.bel {s : ByteArray} {b : Nat} {w : World} {i : Nat} {wr ou fu : Bool} {W W' : World} (h : AX s b w i wr ou fu W) (g : Below W.heap.size W W') : AX s b w i wr ou fu W' := h.go (.of_bel g) (h.rd.bel g)
/-- The result, returned. -/
theorem AX.fin {s : ByteArray} {b : Nat} {w : World} {i0 i : Nat} {wr0 ou0 fu0 wr ou fu : Bool} {W : World} (h : AX s b w i wr ou fu W) {t : Tree} {r : PC} {m : Option Rd} (hr : HO (fun g => w.heap.size + 1 ≤ g ∧ g < W.heap.size) W t r) (hk : rightT t = true) (h1 : i0 ≤ i) (h2 : i ≤ s.size) (hd : Does s wr0 ou0 fu0 m t i wr ou fu) (v0 v1 v2 : Value) :
    PostR s b i0 wr0 ou0 fu0 m w (.returned r.v) (((W.setCell ⟨w.heap.size, 0, none⟩ v0).setCell ⟨w.heap.size, 1, none⟩ v1).setCell ⟨w.heap.size, 2, none⟩ v2) :=
  ⟨r, t, i, wr, ou, fu, rfl, HO.same (fun g hg => ⟨by omega, by simpa using hg.2⟩) (fun g hg => heap_set3 (by omega) _ _ _) hr, hk, set3_ex h.ex (Nat.le_refl _) _ _ _, h.rd.set3 (by have := h.lt; omega) _ _ _, h1, h2, hd⟩

/-- Where must comes to. -/
def mustI (s : ByteArray) (c : UInt8) (i : Nat) : Nat := if headIs c (s.data.toList.drop i) = true then i + 1 else s.size
def mustW (s : ByteArray) (c : UInt8) (i : Nat) (wr : Bool) : Bool := wr || !headIs c (s.data.toList.drop i)
theorem must_any {s : ByteArray} {b i : Nat} {wr ou fu : Bool} {c : UInt8} {w : World} (hs : s.size ≤ 3000) (hi : i ≤ s.size) (hb : BlkR w b s i wr ou fu) :
    Calls Tryd.prog 81 #[.pointer (some ⟨b, 0, none⟩), .int .u8 c.toNat] w fun e w' => (∃ v, e = .returned v) ∧ Ex b w w' ∧ BlkR w' b s (mustI s c i) (mustW s c i wr) ou fu := by
  unfold mustI mustW
  cases h : headIs c (s.data.toList.drop i) with
  | true => simp only [if_true, Bool.not_true, Bool.or_false]; exact must_yes hs hb h
  | false => simp only [Bool.false_eq_true, if_false, Bool.not_false, Bool.or_true]; exact must_no hi hb h
theorem headIs_drop {s : ByteArray} {c : UInt8} {i : Nat} (h : headIs c (s.data.toList.drop i) = true) : s.data.toList.drop i = c :: s.data.toList.drop (i + 1) ∧ i < s.size := by
  cases e : s.data.toList.drop i with
  | nil => rw [e] at h; simp [headIs] at h
  | cons d r =>
    rw [e, headIs_cons] at h
    have h : d = c := by simpa using h
    subst h
    rw [drop_step e]
    exact ⟨rfl, drop_lt e⟩
theorem mustI_le {s : ByteArray} {c : UInt8} {i : Nat} (hi : i ≤ s.size) : i ≤ mustI s c i ∧ mustI s c i ≤ s.size := by
  unfold mustI
  split
  · rename_i h; have := (headIs_drop h).2; omega
  · omega
theorem headIs_false {s : ByteArray} {c : UInt8} {i : Nat} (h : headIs c (s.data.toList.drop i) = false) : (s.data.toList.drop i).head? ≠ some c := by
  simpa [headIs] using h

/-! ### The cases of atom -/

theorem atom_46 {alt : Bs → Option Rd} {s : ByteArray} {i : Nat} (h : headIs 46 (s.data.toList.drop i) = true) (wr ou fu : Bool) : Does s wr ou fu (atomM alt (s.data.toList.drop i)) allT (i + 1) wr ou fu := by
  refine ⟨id, fun hw => Or.inr ⟨⟨allT, false, false, s.data.toList.drop (i + 1)⟩, ?_, hw, rfl, rfl, by simp, by simp⟩⟩
  rw [(headIs_drop h).1, atomM]; simp
theorem atom_33 {alt : Bs → Option Rd} {s : ByteArray} {i : Nat} (h : headIs 33 (s.data.toList.drop i) = true) (wr ou fu : Bool) : Does s wr ou fu (atomM alt (s.data.toList.drop i)) noT (i + 1) wr ou fu := by
  refine ⟨id, fun hw => Or.inr ⟨⟨noT, false, false, s.data.toList.drop (i + 1)⟩, ?_, hw, rfl, rfl, by simp, by simp⟩⟩
  rw [(headIs_drop h).1, atomM]; simp
theorem atom_40 {alt : Bs → Option Rd} {s : ByteArray} {i i1 : Nat} {wr ou fu wr1 ou1 fu1 : Bool} {t : Tree} (h : headIs 40 (s.data.toList.drop i) = true) (hd : Does s wr ou fu (alt (s.data.toList.drop (i + 1))) t i1 wr1 ou1 fu1) :
    Does s wr ou fu (atomM alt (s.data.toList.drop i)) t (mustI s 41 i1) (mustW s 41 i1 wr1) ou1 fu1 := by
  have e : atomM alt (s.data.toList.drop i) = parM (alt (s.data.toList.drop (i + 1))) := by rw [(headIs_drop h).1, atomM]; simp
  rw [e]
  refine ⟨fun hw => by unfold mustW; rw [hd.1 hw]; rfl, fun hw => ?_⟩
  rcases hd.2 hw with ⟨h1, h2⟩ | ⟨x, h1, h2, h3, h4, h5, h6⟩
  · left; rw [h1]; exact ⟨rfl, by unfold mustW; rw [h2]; rfl⟩
  · rw [h1]
    cases h7 : headIs 41 (s.data.toList.drop i1) with
    | true =>
      right
      have h8 := (headIs_drop h7).1
      rw [h4] at h8
      refine ⟨⟨x.t, x.o, x.f, s.data.toList.drop (i1 + 1)⟩, ?_, by simp [mustW, h2, h7], h3, by simp [mustI, h7], h5, h6⟩
      obtain ⟨xt, xo, xf, xr⟩ := x
      simp only at h8
      subst h8
      rfl
    | false =>
      left
      refine ⟨?_, by simp [mustW, h7]⟩
      have h8 := headIs_false h7
      rw [h4] at h8
      obtain ⟨xt, xo, xf, xr⟩ := x
      simp only at h8
      unfold parM
      split
      · rename_i e9
        simp at e9
        obtain ⟨_, _, _, rfl⟩ := e9
        simp at h8
      · rfl

/-- What a number comes to, as a fact of its own. -/
def NumF (s : ByteArray) (i : Nat) (wr : Bool) (n at' : Nat) (wr' : Bool) : Prop :=
  (numM (s.data.toList.drop i) = none ∧ wr' = true) ∨ ∃ r, numM (s.data.toList.drop i) = some (n, r) ∧ wr' = wr ∧ s.data.toList.drop at' = r

theorem NumF.wrong {s : ByteArray} {i n at' : Nat} {wr wr' : Bool} (h : NumF s i wr n at' wr') (hw : wr = true) : wr' = true := by
  rcases h with ⟨_, h⟩ | ⟨_, _, h, _⟩
  · exact h
  · rw [h, hw]

theorem must_some {s : ByteArray} {c : UInt8} {i : Nat} {r : Bs} (h : s.data.toList.drop i = r) : (∃ q, r = c :: q ∧ mustW s c i false = false ∧ s.data.toList.drop (mustI s c i) = q) ∨ ((∀ q, r ≠ c :: q) ∧ ∀ w, mustW s c i w = true) := by
  cases h7 : headIs c (s.data.toList.drop i) with
  | true =>
    left
    have h8 := (headIs_drop h7).1
    exact ⟨s.data.toList.drop (i + 1), by rw [← h, h8], by simp [mustW, h7], by simp [mustI, h7]⟩
  | false =>
    right
    have h8 := headIs_false h7
    refine ⟨fun q hq => ?_, fun w => by simp [mustW, h7]⟩
    rw [h, hq] at h8
    simp at h8

theorem atom_91 {alt : Bs → Option Rd} {s : ByteArray} {i i1 i3 n1 n2 : Nat} {wr ou fu wr1 wr3 : Bool} (h : headIs 91 (s.data.toList.drop i) = true) (h1 : NumF s (i + 1) wr n1 i1 wr1) (h3 : NumF s (mustI s 45 i1) (mustW s 45 i1 wr1) n2 i3 wr3) :
    Does s wr ou fu (atomM alt (s.data.toList.drop i)) (numT n1 n2) (mustI s 93 i3) (mustW s 93 i3 wr3) (ou || oneO n1 n2) fu := by
  have e : atomM alt (s.data.toList.drop i) = spanM (s.data.toList.drop (i + 1)) := by rw [(headIs_drop h).1, atomM]; simp
  rw [e]
  refine ⟨fun hw => ?_, fun hw => ?_⟩
  · have h4 : wr3 = true := h3.wrong (by unfold mustW; rw [h1.wrong hw]; rfl)
    unfold mustW; rw [h4]; rfl
  subst hw
  unfold spanM
  rcases h1 with ⟨a1, a2⟩ | ⟨r1, a1, a2, a3⟩
  · left
    have h4 : wr3 = true := h3.wrong (by unfold mustW; rw [a2]; rfl)
    rw [a1]
    exact ⟨rfl, by unfold mustW; rw [h4]; rfl⟩
  · subst a2
    rw [a1]
    rcases must_some (c := 45) a3 with ⟨q, b1, b2, b3⟩ | ⟨b1, b2⟩
    · subst b1
      simp only
      rw [b2] at h3
      rcases h3 with ⟨c1, c2⟩ | ⟨r3, c1, c2, c3⟩
      · left
        rw [b3] at c1
        rw [c1]
        exact ⟨rfl, by unfold mustW; rw [c2]; rfl⟩
      · rw [b3] at c1
        rw [c1]
        subst c2
        rcases must_some (c := 93) c3 with ⟨q2, d1, d2, d3⟩ | ⟨d1, d2⟩
        · subst d1
          right
          exact ⟨⟨numT n1 n2, oneO n1 n2, false, q2⟩, rfl, d2, rfl, d3, rfl, by simp⟩
        · left
          refine ⟨?_, d2 _⟩
          split
          · rename_i heq
            injection heq with heq
            injection heq with _ heq
            exact absurd heq (d1 _)
          · rfl
    · left
      have h4 : wr3 = true := h3.wrong (b2 _)
      refine ⟨?_, by unfold mustW; rw [h4]; rfl⟩
      split
      · rename_i heq
        injection heq with heq
        injection heq with _ heq
        exact absurd heq (b1 _)
      · rfl

theorem atom_num {alt : Bs → Option Rd} {s : ByteArray} {i i1 n1 : Nat} {wr ou fu wr1 : Bool} (h46 : headIs 46 (s.data.toList.drop i) = false) (h33 : headIs 33 (s.data.toList.drop i) = false) (h40 : headIs 40 (s.data.toList.drop i) = false) (h91 : headIs 91 (s.data.toList.drop i) = false) (h1 : NumF s i wr n1 i1 wr1) :
    Does s wr ou fu (atomM alt (s.data.toList.drop i)) (numT n1 n1) i1 wr1 (ou || oneO n1 n1) fu := by
  refine ⟨fun hw => h1.wrong hw, fun hw => ?_⟩
  subst hw
  unfold NumF at h1
  have e : ∀ r, headIs 46 r = false → headIs 33 r = false → headIs 40 r = false → headIs 91 r = false → atomM alt r = match numM r with | some (n, r') => some ⟨numT n n, oneO n n, false, r'⟩ | none => none := by
    intro r k1 k2 k3 k4
    cases r with
    | nil => rfl
    | cons c r =>
      simp [headIs_cons] at k1 k2 k3 k4
      rw [atomM, if_neg k1, if_neg k2, if_neg k3, if_neg k4]
      rfl
  rw [e _ h46 h33 h40 h91]
  rcases h1 with ⟨a1, a2⟩ | ⟨r1, a1, a2, a3⟩
  · left; rw [a1]; exact ⟨rfl, a2⟩
  · right; rw [a1]; exact ⟨⟨numT n1 n1, oneO n1 n1, false, r1⟩, rfl, a2, rfl, a3, rfl, by simp⟩

end Go.Proofs.YtihnmamejfoeeaaDoor
