/-
  What the document's reader comes to: a pattern that is too large stands no longer for what it should; a byte 0 ends what is read. Its functions' frames.
-/
import Derived.Test.YtnohkbdmnalmcaaGreatDoorZr5
import Derived.Test.YtnohkbdmnalmcaaGreatDoorRg1
namespace Go.Proofs.YtnohkbdmnalmcaaGreatDoor
open Go.RowKit

/-- The state behind a part, and the pattern, are what the model says, unless the text isn't of the grammar (nul: or a byte 0 stands there), or something was too large. -/
def DoesQ (nul : Bool) (s : ByteArray) (wr ou fu : Bool) (m : Option Rd) (t : Tree) (i' : Nat) (wr' ou' fu' : Bool) : Prop :=
  (wr = true → wr' = true) ∧ (wr = false → (m = none ∧ (wr' = true ∨ (nul = true ∧ headIs 0 (s.data.toList.drop i') = true))) ∨ ∃ x, m = some x ∧ wr' = false ∧ (fu' = false → t = x.t) ∧ s.data.toList.drop i' = x.r ∧ ou' = (ou || x.o) ∧ fu' = (fu || x.f))
def PostQ (nul : Bool) (s : ByteArray) (b i : Nat) (wr ou fu : Bool) (m : Option Rd) (w : World) (e : Ending) (w' : World) : Prop :=
  ∃ (r : PC) (t : Tree) (i' : Nat) (wr' ou' fu' : Bool), e = .returned r.v ∧ HO (fun g => w.heap.size ≤ g ∧ g < w'.heap.size) w' t r ∧ rightT t = true ∧ Ex b w w' ∧ BlkQ w' b s i' wr' ou' fu' ∧ i ≤ i' ∧ i' ≤ s.size ∧ DoesQ nul s wr ou fu m t i' wr' ou' fu'
/-- A function of the document's reader reads what the model says, from no more than so many bytes. -/
def CQ (s : ByteArray) (b : Nat) (F : FuncId) (nul : Bool) (M : Bs → Option Rd) (lim : Nat) : Prop :=
  ∀ (i : Nat) (wr ou fu : Bool) (W : World), i ≤ s.size → s.size - i < lim → BlkQ W b s i wr ou fu →
    Calls Tryz.prog F #[.pointer (some ⟨b, 0, none⟩)] W fun e w' => PostQ nul s b i wr ou fu (M (s.data.toList.drop i)) W e w'

/-- A function's frame: its result's cells, the reader. -/
structure AQ (s : ByteArray) (b : Nat) (w : World) (i : Nat) (wr ou fu : Bool) (W : World) : Prop where
  ex : Ex b w W
  res : Blk W w.heap.size (encT ⟨0, ⟨none, 0, 0⟩, ⟨none, 0, 0⟩⟩).toArray 26
  rd : BlkQ W b s i wr ou fu
  lt : b < w.heap.size
theorem AQ.start {s : ByteArray} {b : Nat} {w : World} {i : Nat} {wr ou fu : Bool} (hb : BlkQ w b s i wr ou fu) : AQ s b w i wr ou fu (w.alloc (.cells #[.int .i64 0, .slice none 0 0, .slice none 0 0] 26)) :=
  ⟨(Ex.refl _ _).alloc _, Blk.new _ _ _, hb.alloc _, hb.lt⟩
theorem AQ.go {s : ByteArray} {b : Nat} {w : World} {i i' : Nat} {wr ou fu wr' ou' fu' : Bool} {W W' : World} (h : AQ s b w i wr ou fu W) (g : Ex b W W') (hb : BlkQ W' b s i' wr' ou' fu') : AQ s b w i' wr' ou' fu' W' :=
  ⟨h.ex.trans g, Blk.ex g h.res (by have := h.lt; omega), hb, h.lt⟩
theorem AQ.bel {s : ByteArray} {b : Nat} {w : World} {i : Nat} {wr ou fu : Bool} {W W' : World} (h : AQ s b w i wr ou fu W) (g : Below W.heap.size W W') : AQ s b w i wr ou fu W' := h.go (.of_bel g) (h.rd.bel g)
/-- The result, returned. -/
theorem AQ.fin {s : ByteArray} {b : Nat} {w : World} {i0 i : Nat} {wr0 ou0 fu0 wr ou fu : Bool} {W : World} (h : AQ s b w i wr ou fu W) {nul : Bool} {t : Tree} {r : PC} {m : Option Rd} (hr : HO (fun g => w.heap.size + 1 ≤ g ∧ g < W.heap.size) W t r) (hk : rightT t = true) (h1 : i0 ≤ i) (h2 : i ≤ s.size) (hd : DoesQ nul s wr0 ou0 fu0 m t i wr ou fu) (v0 v1 v2 : Value) :
    PostQ nul s b i0 wr0 ou0 fu0 m w (.returned r.v) (((W.setCell ⟨w.heap.size, 0, none⟩ v0).setCell ⟨w.heap.size, 1, none⟩ v1).setCell ⟨w.heap.size, 2, none⟩ v2) :=
  ⟨r, t, i, wr, ou, fu, rfl, HO.same (fun g hg => ⟨by omega, by simpa using hg.2⟩) (fun g hg => heap_set3 (by omega) _ _ _) hr, hk, set3_ex h.ex (Nat.le_refl _) _ _ _, h.rd.set3 (by have := h.lt; omega) _ _ _, h1, h2, hd⟩

/-- Between the signs: the pattern lies in block b3. -/
structure IQ (s : ByteArray) (b : Nat) (w : World) (b3 i : Nat) (wr ou fu : Bool) (t : Tree) (x : PC) (W : World) : Prop where
  ax : AQ s b w i wr ou fu W
  me : Blk W b3 (encT x).toArray 26
  ho : HO (fun g => w.heap.size + 1 ≤ g ∧ g < W.heap.size ∧ g ≠ b3) W t x
  hb3 : w.heap.size < b3
  rt : rightT t = true
  le : i ≤ s.size
theorem IQ.go {s : ByteArray} {b : Nat} {w : World} {b3 i i' : Nat} {wr ou fu wr' ou' fu' : Bool} {t : Tree} {x : PC} {W W' : World} (h : IQ s b w b3 i wr ou fu t x W) (g : Ex b W W') (hb : BlkQ W' b s i' wr' ou' fu') (hi : i' ≤ s.size) : IQ s b w b3 i' wr' ou' fu' t x W' :=
  ⟨h.ax.go g hb, Blk.ex g h.me (by have := h.ax.lt; have := h.hb3; omega), HO.same (fun _ h1 => ⟨h1.1, Nat.lt_of_lt_of_le h1.2.1 g.size, h1.2.2⟩) (fun q h1 => g.block q h1.2.1 (by have := h.ax.lt; omega)) h.ho, h.hb3, h.rt, hi⟩
theorem IQ.step {s : ByteArray} {b : Nat} {w : World} {b3 i : Nat} {wr ou fu fu' : Bool} {t t' : Tree} {x r : PC} {W W' : World} (h : IQ s b w b3 i wr ou fu t x W) (g : Ex b W W') (hb : BlkQ W' b s i wr ou fu') (hr : HO (fun g => w.heap.size + 1 ≤ g ∧ g < W'.heap.size ∧ g ≠ b3) W' t' r) (hk : rightT t' = true) :
    IQ s b w b3 i wr ou fu' t' r (((W'.setCell ⟨b3, 0, none⟩ (.int .i64 r.k)).setCell ⟨b3, 1, none⟩ (.slice r.s.a r.s.n r.s.c)).setCell ⟨b3, 2, none⟩ (.slice r.b.a r.b.n r.b.c)) := by
  have h1 := h.ax.go g hb
  have hlt := h.ax.lt
  have h3 := h.hb3
  have hm := Blk.ex g h.me (by omega : b3 ≠ b)
  refine ⟨⟨set3_ex h1.ex (by omega) _ _ _, h1.res.set3 (by omega) _ _ _, h1.rd.set3 (by omega) _ _ _, hlt⟩, ?_, ?_, h3, hk, h.le⟩
  · exact blk_put3 hm r
  · exact HO.same (fun q hq => ⟨hq.1, by simpa using hq.2.1, hq.2.2⟩) (fun q hq => heap_set3 hq.2.2 _ _ _) hr
theorem IQ.start {s : ByteArray} {b : Nat} {w : World} {i : Nat} {wr ou fu : Bool} {t : Tree} {r : PC} {W : World} (h : AQ s b w i wr ou fu W) (hr : HO (fun g => w.heap.size + 1 ≤ g ∧ g < W.heap.size) W t r) (hk : rightT t = true) (hi : i ≤ s.size) :
    IQ s b w W.heap.size i wr ou fu t r (W.alloc (.cells #[.int .i64 r.k, .slice r.s.a r.s.n r.s.c, .slice r.b.a r.b.n r.b.c] 26)) :=
  ⟨h.bel (bel_alloc _ _), Blk.new _ _ _, HO.same (fun q hq => ⟨hq.1, by simp; omega, by omega⟩) (fun q hq => (bel_alloc _ _).block q hq.2) hr, h.res.lt, hk, hi⟩
theorem IQ.held {s : ByteArray} {b : Nat} {w : World} {b3 i : Nat} {wr ou fu : Bool} {t : Tree} {x : PC} {W : World} (h : IQ s b w b3 i wr ou fu t x W) : HT W t x := h.ho.held


/-! ### The cases of atom -/

theorem qatom_46 {alt : Bs → Option Rd} {s : ByteArray} {i : Nat} (h : headIs 46 (s.data.toList.drop i) = true) (wr ou fu : Bool) : DoesQ false s wr ou fu (atomM alt (s.data.toList.drop i)) allT (i + 1) wr ou fu := by
  refine ⟨id, fun hw => Or.inr ⟨⟨allT, false, false, s.data.toList.drop (i + 1)⟩, ?_, hw, fun _ => rfl, rfl, by simp, by simp⟩⟩
  rw [(headIs_drop h).1, atomM]; simp
theorem qatom_33 {alt : Bs → Option Rd} {s : ByteArray} {i : Nat} (h : headIs 33 (s.data.toList.drop i) = true) (wr ou fu : Bool) : DoesQ false s wr ou fu (atomM alt (s.data.toList.drop i)) noT (i + 1) wr ou fu := by
  refine ⟨id, fun hw => Or.inr ⟨⟨noT, false, false, s.data.toList.drop (i + 1)⟩, ?_, hw, fun _ => rfl, rfl, by simp, by simp⟩⟩
  rw [(headIs_drop h).1, atomM]; simp
theorem headIs_other {c d : UInt8} {r : Bs} (h : headIs c r = true) (hcd : d ≠ c) : headIs d r = false := by
  cases r with
  | nil => rfl
  | cons z r =>
    rw [headIs_cons] at h ⊢
    have h : z = c := by simpa using h
    subst h
    simpa using fun e => hcd e.symm
theorem qatom_40 {alt : Bs → Option Rd} {s : ByteArray} {i i1 : Nat} {wr ou fu wr1 ou1 fu1 : Bool} {t : Tree} (h : headIs 40 (s.data.toList.drop i) = true) (hd : DoesQ true s wr ou fu (alt (s.data.toList.drop (i + 1))) t i1 wr1 ou1 fu1) :
    DoesQ false s wr ou fu (atomM alt (s.data.toList.drop i)) t (needI s 41 i1) (mustW s 41 i1 wr1) ou1 fu1 := by
  have e : atomM alt (s.data.toList.drop i) = parM (alt (s.data.toList.drop (i + 1))) := by rw [(headIs_drop h).1, atomM]; simp
  rw [e]
  refine ⟨fun hw => by unfold mustW; rw [hd.1 hw]; rfl, fun hw => ?_⟩
  rcases hd.2 hw with ⟨h1, h2⟩ | ⟨x, h1, h2, h3, h4, h5, h6⟩
  · left; rw [h1]
    refine ⟨rfl, Or.inl ?_⟩
    unfold mustW
    rcases h2 with h2 | ⟨_, h2⟩
    · rw [h2]; rfl
    · rw [headIs_other h2 (d := 41) (by decide)]; simp
  · rw [h1]
    cases h7 : headIs 41 (s.data.toList.drop i1) with
    | true =>
      right
      have h8 := (headIs_drop h7).1
      rw [h4] at h8
      refine ⟨⟨x.t, x.o, x.f, s.data.toList.drop (i1 + 1)⟩, ?_, by simp [mustW, h2, h7], h3, by simp [needI, h7], h5, h6⟩
      obtain ⟨xt, xo, xf, xr⟩ := x
      simp only at h8
      subst h8
      rfl
    | false =>
      left
      refine ⟨?_, Or.inl (by simp [mustW, h7])⟩
      have h8 := headIs_false h7
      rw [h4] at h8
      obtain ⟨xt, xo, xf, xr⟩ := x
      simp only at h8
      unfold parM
      split
      · rename_i e9
        simp at e9
        obtain ⟨_, _, _, rfl⟩ := e9
        simp at h8
      · rfl

/-- What Number comes to, as a fact of its own. -/
def NumFQ (s : ByteArray) (i : Nat) (wr ou : Bool) (v : Int) (n at' : Nat) (wr' ou' : Bool) : Prop :=
  (wr = true → wr' = true) ∧ (wr = false → (numM (s.data.toList.drop i) = none ∧ wr' = true) ∨ ∃ r, numM (s.data.toList.drop i) = some (n, r) ∧ wr' = false ∧ s.data.toList.drop at' = r ∧ v = capV n ∧ ou' = (ou || decide (4294967295 < n)))
theorem need_some {s : ByteArray} {c : UInt8} {i : Nat} {r : Bs} (h : s.data.toList.drop i = r) : (∃ q, r = c :: q ∧ mustW s c i false = false ∧ s.data.toList.drop (needI s c i) = q) ∨ ((∀ q, r ≠ c :: q) ∧ ∀ w, mustW s c i w = true) := by
  cases h7 : headIs c (s.data.toList.drop i) with
  | true =>
    left
    have h8 := (headIs_drop h7).1
    exact ⟨s.data.toList.drop (i + 1), by rw [← h, h8], by simp [mustW, h7], by simp [needI, h7]⟩
  | false =>
    right
    have h8 := headIs_false h7
    refine ⟨fun q hq => ?_, fun w => by simp [mustW, h7]⟩
    rw [h, hq] at h8
    simp at h8
theorem mustW_true (s : ByteArray) (c : UInt8) (i : Nat) : mustW s c i true = true := by unfold mustW; rfl
theorem one_out (ou : Bool) (n1 n2 : Nat) : ((ou || decide (4294967295 < n1)) || decide (4294967295 < n2) || decide (capV n2 < capV n1)) = (ou || oneO n1 n2) := by
  unfold oneO
  by_cases h1 : 4294967295 < n1
  · simp [h1]
  · by_cases h2 : 4294967295 < n2
    · simp [h2]
    · have e : ∀ n : Nat, ¬ 4294967295 < n → capV n = n := fun n h => by
        show (if 4294967295 < n then (0 : Int) else n) = n
        rw [if_neg h]
      rw [e _ h1, e _ h2]
      have : decide ((n2 : Int) < (n1 : Int)) = decide (n2 < n1) := decide_eq_decide.2 (by omega)
      rw [this]
      simp [h1, h2]
theorem qatom_91 {alt : Bs → Option Rd} {s : ByteArray} {i i1 i3 n1 n2 : Nat} {v1 v2 : Int} {wr ou fu wr1 ou1 wr3 ou3 : Bool} (h : headIs 91 (s.data.toList.drop i) = true) (h1 : NumFQ s (i + 1) wr ou v1 n1 i1 wr1 ou1) (h3 : NumFQ s (needI s 45 i1) (mustW s 45 i1 wr1) ou1 v2 n2 i3 wr3 ou3) :
    DoesQ false s wr ou fu (atomM alt (s.data.toList.drop i)) (.mk 1 [(v1, v2)] []) (needI s 93 i3) (mustW s 93 i3 wr3) (ou3 || decide (v2 < v1)) fu := by
  have e : atomM alt (s.data.toList.drop i) = spanM (s.data.toList.drop (i + 1)) := by rw [(headIs_drop h).1, atomM]; simp
  rw [e]
  refine ⟨fun hw => ?_, fun hw => ?_⟩
  · rw [h1.1 hw, mustW_true] at h3
    rw [h3.1 rfl, mustW_true]
  unfold spanM
  rcases h1.2 hw with ⟨a1, a2⟩ | ⟨r1, a1, a2, a3, a4, a5⟩
  · left
    rw [a2, mustW_true] at h3
    rw [a1, h3.1 rfl, mustW_true]
    exact ⟨rfl, Or.inl rfl⟩
  · subst a2
    rw [a1]
    rcases need_some (c := 45) a3 with ⟨q, b1, b2, b3⟩ | ⟨b1, b2⟩
    · subst b1
      simp only
      rw [b2] at h3
      rcases h3.2 rfl with ⟨c1, c2⟩ | ⟨r3, c1, c2, c3, c4, c5⟩
      · left
        rw [b3] at c1
        rw [c1, c2, mustW_true]
        exact ⟨rfl, Or.inl rfl⟩
      · rw [b3] at c1
        rw [c1]
        subst c2
        rcases need_some (c := 93) c3 with ⟨q2, d1, d2, d3⟩ | ⟨d1, d2⟩
        · subst d1
          right
          refine ⟨⟨numT n1 n2, oneO n1 n2, false, q2⟩, rfl, d2, fun _ => ?_, d3, ?_, by simp⟩
          · rw [a4, c4]; rfl
          · rw [c5, a5, a4, c4]; exact one_out ou n1 n2
        · left
          refine ⟨?_, Or.inl (d2 _)⟩
          split
          · rename_i heq
            injection heq with heq
            injection heq with _ heq
            exact absurd heq (d1 _)
          · rfl
    · left
      rw [b2] at h3
      rw [h3.1 rfl, mustW_true]
      refine ⟨?_, Or.inl rfl⟩
      split
      · rename_i heq
        injection heq with heq
        injection heq with _ heq
        exact absurd heq (b1 _)
      · rfl
theorem qatom_num {alt : Bs → Option Rd} {s : ByteArray} {i i1 n1 : Nat} {v : Int} {wr ou fu wr1 ou1 : Bool} (h46 : headIs 46 (s.data.toList.drop i) = false) (h33 : headIs 33 (s.data.toList.drop i) = false) (h40 : headIs 40 (s.data.toList.drop i) = false) (h91 : headIs 91 (s.data.toList.drop i) = false) (h1 : NumFQ s i wr ou v n1 i1 wr1 ou1) :
    DoesQ false s wr ou fu (atomM alt (s.data.toList.drop i)) (.mk 1 [(v, v)] []) i1 wr1 (ou1 || decide (v < v)) fu := by
  refine ⟨h1.1, fun hw => ?_⟩
  have e : ∀ r, headIs 46 r = false → headIs 33 r = false → headIs 40 r = false → headIs 91 r = false → atomM alt r = match numM r with | some (n, r') => some ⟨numT n n, oneO n n, false, r'⟩ | none => none := by
    intro r k1 k2 k3 k4
    cases r with
    | nil => rfl
    | cons c r =>
      simp [headIs_cons] at k1 k2 k3 k4
      rw [atomM, if_neg k1, if_neg k2, if_neg k3, if_neg k4]
      rfl
  rw [e _ h46 h33 h40 h91]
  rcases h1.2 hw with ⟨a1, a2⟩ | ⟨r1, a1, a2, a3, a4, a5⟩
  · left; rw [a1]; exact ⟨rfl, Or.inl a2⟩
  · right; rw [a1]
    refine ⟨⟨numT n1 n1, oneO n1 n1, false, r1⟩, rfl, a2, fun _ => by rw [a4]; rfl, a3, ?_, by simp⟩
    have := one_out ou n1 n1
    rw [a5, a4]
    simp only [Bool.or_assoc, Bool.or_self] at this ⊢
    simpa using this

/-! ### Between the signs -/

def SignQ (s : ByteArray) (wr0 ou0 fu0 : Bool) (M : Option Rd) (t : Tree) (i : Nat) (wr ou fu : Bool) : Prop :=
  (wr0 = true → wr = true) ∧ (wr0 = false → (M = none ∧ wr = true) ∨ (wr = false ∧ ∃ o f tm, (fu = false → t = tm) ∧ ou = (ou0 || o) ∧ fu = (fu0 || f) ∧ M = some ⟨(signsM (s.data.toList.drop i) tm f).1, o, (signsM (s.data.toList.drop i) tm f).2.1, (signsM (s.data.toList.drop i) tm f).2.2⟩))
theorem SignQ.start {s : ByteArray} {alt : Bs → Option Rd} {r : Bs} {t : Tree} {i : Nat} {wr0 ou0 fu0 wr ou fu : Bool} (h : DoesQ false s wr0 ou0 fu0 (atomM alt r) t i wr ou fu) : SignQ s wr0 ou0 fu0 (itemM alt r) t i wr ou fu := by
  refine ⟨h.1, fun hw => ?_⟩
  rcases h.2 hw with ⟨h1, h2⟩ | ⟨x, h1, h2, h3, h4, h5, h6⟩
  · left; unfold itemM; rw [h1]
    rcases h2 with h2 | ⟨h2, _⟩
    · exact ⟨rfl, h2⟩
    · cases h2
  · right
    refine ⟨h2, x.o, x.f, x.t, h3, h5, h6, ?_⟩
    unfold itemM
    rw [h1, h4]
theorem SignQ.fin {s : ByteArray} {M : Option Rd} {t : Tree} {i : Nat} {wr0 ou0 fu0 wr ou fu : Bool} (h : SignQ s wr0 ou0 fu0 M t i wr ou fu) (h1 : headIs 42 (s.data.toList.drop i) = false) (h2 : headIs 43 (s.data.toList.drop i) = false) (h3 : headIs 63 (s.data.toList.drop i) = false) : DoesQ false s wr0 ou0 fu0 M t i wr ou fu := by
  refine ⟨h.1, fun hw => ?_⟩
  rcases h.2 hw with ⟨h4, h4'⟩ | ⟨h4, o, f, tm, h8, h5, h6, h7⟩
  · exact Or.inl ⟨h4, Or.inl h4'⟩
  · right
    have hs : signsM (s.data.toList.drop i) tm f = (tm, f, s.data.toList.drop i) := by
      cases e : s.data.toList.drop i with
      | nil => rw [signsM]
      | cons c r =>
        rw [e] at h1 h2 h3
        simp [headIs_cons] at h1 h2 h3
        rw [signsM, if_neg h1, if_neg h2, if_neg h3]
    rw [hs] at h7
    exact ⟨_, h7, h4, h8, rfl, h5, h6⟩
theorem SignQ.bad {s : ByteArray} {M : Option Rd} {t : Tree} {i : Nat} {wr0 ou0 fu0 ou fu : Bool} (h : SignQ s wr0 ou0 fu0 M t i true ou fu) : DoesQ false s wr0 ou0 fu0 M t i true ou fu := by
  refine ⟨h.1, fun hw => ?_⟩
  rcases h.2 hw with ⟨h4, h4'⟩ | ⟨h4, _⟩
  · exact Or.inl ⟨h4, Or.inl h4'⟩
  · cases h4
theorem SignQ.step {s : ByteArray} {M : Option Rd} {t t' : Tree} {i : Nat} {wr0 ou0 fu0 wr ou fu fu' : Bool} {c : UInt8} {F : Tree → Tree} (hF : ∀ r t f, signsM (c :: r) t f = signsM r (keptM (F t)).1 (f || (keptM (F t)).2)) (h : SignQ s wr0 ou0 fu0 M t i wr ou fu) (h1 : headIs c (s.data.toList.drop i) = true) (hf : fu' = (fu || (keptM (F t)).2)) (ht : fu' = false → t' = (keptM (F t)).1) : SignQ s wr0 ou0 fu0 M t' (i + 1) wr ou fu' := by
  refine ⟨h.1, fun hw => ?_⟩
  rcases h.2 hw with h4 | ⟨h4, o, f, tm, h8, h5, h6, h7⟩
  · exact Or.inl h4
  · right
    rw [(headIs_drop h1).1, hF] at h7
    refine ⟨h4, o, f || (keptM (F tm)).2, (keptM (F tm)).1, fun e => ?_, h5, ?_, h7⟩
    · have e2 : fu = false := by rw [e] at hf; exact (Bool.or_eq_false_iff.1 hf.symm).1
      rw [ht e, h8 e2]
    · cases fu with
      | true => rw [hf, ← Bool.or_assoc, ← h6]; rfl
      | false => rw [hf, h8 rfl, ← Bool.or_assoc, ← h6]

end Go.Proofs.YtnohkbdmnalmcaaGreatDoor
