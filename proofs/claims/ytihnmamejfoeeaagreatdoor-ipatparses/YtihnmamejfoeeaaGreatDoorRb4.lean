/-
  What the reader's functions come to; the walk of atom.
  The walk of atom.
  Walks: item.
  Lists of parts in memory, between the rounds; walks: cat, alt; all of them together.
-/
import Derived.Test.YtihnmamejfoeeaaGreatDoorNu
import Derived.Test.YtihnmamejfoeeaaGreatDoorRa5
namespace Go.Proofs.YtihnmamejfoeeaaGreatDoor
open Go.RowKit

/-- The state behind a part, and the pattern, are what the model says, unless the text isn't of the grammar. -/
def Does (s : ByteArray) (wr ou fu : Bool) (m : Option Rd) (t : Tree) (i' : Nat) (wr' ou' fu' : Bool) : Prop :=
  (wr = true → wr' = true) ∧ (wr = false → (m = none ∧ wr' = true) ∨ ∃ x, m = some x ∧ wr' = false ∧ t = x.t ∧ s.data.toList.drop i' = x.r ∧ ou' = (ou || x.o) ∧ fu' = (fu || x.f))

def PostR (s : ByteArray) (b i : Nat) (wr ou fu : Bool) (m : Option Rd) (w : World) (e : Ending) (w' : World) : Prop :=
  ∃ (r : PC) (t : Tree) (i' : Nat) (wr' ou' fu' : Bool), e = .returned r.v ∧ HO (fun g => w.heap.size ≤ g ∧ g < w'.heap.size) w' t r ∧ rightT t = true ∧ Ex b w w' ∧ BlkR w' b s i' wr' ou' fu' ∧ i ≤ i' ∧ i' ≤ s.size ∧ Does s wr ou fu m t i' wr' ou' fu'

/-- A function of the reader reads what the model says, from no more than so many bytes. -/
def CA (s : ByteArray) (b : Nat) (F : FuncId) (M : Bs → Option Rd) (lim : Nat) : Prop :=
  ∀ (i : Nat) (wr ou fu : Bool) (W : World), i ≤ s.size → s.size - i < lim → BlkR W b s i wr ou fu →
    Calls Tryz.prog F #[.pointer (some ⟨b, 0, none⟩)] W fun e w' => PostR s b i wr ou fu (M (s.data.toList.drop i)) W e w'

/-- A function's frame: its result's cells, the reader. -/
structure AX (s : ByteArray) (b : Nat) (w : World) (i : Nat) (wr ou fu : Bool) (W : World) : Prop where
  ex : Ex b w W
  res : Blk W w.heap.size (encT ⟨0, ⟨none, 0, 0⟩, ⟨none, 0, 0⟩⟩).toArray 26
  rd : BlkR W b s i wr ou fu
  lt : b < w.heap.size
theorem AX.start {s : ByteArray} {b : Nat} {w : World} {i : Nat} {wr ou fu : Bool} (hb : BlkR w b s i wr ou fu) : AX s b w i wr ou fu (w.alloc (.cells #[.int .i64 0, .slice none 0 0, .slice none 0 0] 26)) :=
  ⟨(Ex.refl _ _).alloc _, Blk.new _ _ _, hb.alloc _, hb.lt⟩
theorem AX.go {s : ByteArray} {b : Nat} {w : World} {i i' : Nat} {wr ou fu wr' ou' fu' : Bool} {W W' : World} (h : AX s b w i wr ou fu W) (g : Ex b W W') (hb : BlkR W' b s i' wr' ou' fu') : AX s b w i' wr' ou' fu' W' :=
  ⟨h.ex.trans g, Blk.ex g h.res (by have := h.lt; omega), hb, h.lt⟩
theorem AX.bel {s : ByteArray} {b : Nat} {w : World} {i : Nat} {wr ou fu : Bool} {W W' : World} (h : AX s b w i wr ou fu W) (g : Below W.heap.size W W') : AX s b w i wr ou fu W' := h.go (.of_bel g) (h.rd.bel g)
/-- The result, returned. -/
theorem AX.fin {s : ByteArray} {b : Nat} {w : World} {i0 i : Nat} {wr0 ou0 fu0 wr ou fu : Bool} {W : World} (h : AX s b w i wr ou fu W) {t : Tree} {r : PC} {m : Option Rd} (hr : HO (fun g => w.heap.size + 1 ≤ g ∧ g < W.heap.size) W t r) (hk : rightT t = true) (h1 : i0 ≤ i) (h2 : i ≤ s.size) (hd : Does s wr0 ou0 fu0 m t i wr ou fu) (v0 v1 v2 : Value) :
    PostR s b i0 wr0 ou0 fu0 m w (.returned r.v) (((W.setCell ⟨w.heap.size, 0, none⟩ v0).setCell ⟨w.heap.size, 1, none⟩ v1).setCell ⟨w.heap.size, 2, none⟩ v2) :=
  ⟨r, t, i, wr, ou, fu, rfl, HO.same (fun g hg => ⟨by omega, by simpa using hg.2⟩) (fun g hg => heap_set3 (by omega) _ _ _) hr, hk, set3_ex h.ex (Nat.le_refl _) _ _ _, h.rd.set3 (by have := h.lt; omega) _ _ _, h1, h2, hd⟩

/-- Where must comes to. -/
def mustI (s : ByteArray) (c : UInt8) (i : Nat) : Nat := if headIs c (s.data.toList.drop i) = true then i + 1 else s.size
def mustW (s : ByteArray) (c : UInt8) (i : Nat) (wr : Bool) : Bool := wr || !headIs c (s.data.toList.drop i)
theorem must_any {s : ByteArray} {b i : Nat} {wr ou fu : Bool} {c : UInt8} {w : World} (hs : s.size ≤ 3000) (hi : i ≤ s.size) (hb : BlkR w b s i wr ou fu) :
    Calls Tryz.prog 83 #[.pointer (some ⟨b, 0, none⟩), .int .u8 c.toNat] w fun e w' => (∃ v, e = .returned v) ∧ Ex b w w' ∧ BlkR w' b s (mustI s c i) (mustW s c i wr) ou fu := by
  unfold mustI mustW
  cases h : headIs c (s.data.toList.drop i) with
  | true => simp only [if_true, Bool.not_true, Bool.or_false]; exact must_yes hs hb h
  | false => simp only [Bool.false_eq_true, if_false, Bool.not_false, Bool.or_true]; exact must_no hi hb h
theorem headIs_drop {s : ByteArray} {c : UInt8} {i : Nat} (h : headIs c (s.data.toList.drop i) = true) : s.data.toList.drop i = c :: s.data.toList.drop (i + 1) ∧ i < s.size := by
  cases e : s.data.toList.drop i with
  | nil => rw [e] at h; simp [headIs] at h
  | cons d r =>
    rw [e, headIs_cons] at h
    have h : d = c := by simpa using h
    subst h
    rw [drop_step e]
    exact ⟨rfl, drop_lt e⟩
theorem mustI_le {s : ByteArray} {c : UInt8} {i : Nat} (hi : i ≤ s.size) : i ≤ mustI s c i ∧ mustI s c i ≤ s.size := by
  unfold mustI
  split
  · rename_i h; have := (headIs_drop h).2; omega
  · omega
theorem headIs_false {s : ByteArray} {c : UInt8} {i : Nat} (h : headIs c (s.data.toList.drop i) = false) : (s.data.toList.drop i).head? ≠ some c := by
  simpa [headIs] using h

/-! ### The cases of atom -/

theorem atom_46 {alt : Bs → Option Rd} {s : ByteArray} {i : Nat} (h : headIs 46 (s.data.toList.drop i) = true) (wr ou fu : Bool) : Does s wr ou fu (atomM alt (s.data.toList.drop i)) allT (i + 1) wr ou fu := by
  refine ⟨id, fun hw => Or.inr ⟨⟨allT, false, false, s.data.toList.drop (i + 1)⟩, ?_, hw, rfl, rfl, by simp, by simp⟩⟩
  rw [(headIs_drop h).1, atomM]; simp
theorem atom_33 {alt : Bs → Option Rd} {s : ByteArray} {i : Nat} (h : headIs 33 (s.data.toList.drop i) = true) (wr ou fu : Bool) : Does s wr ou fu (atomM alt (s.data.toList.drop i)) noT (i + 1) wr ou fu := by
  refine ⟨id, fun hw => Or.inr ⟨⟨noT, false, false, s.data.toList.drop (i + 1)⟩, ?_, hw, rfl, rfl, by simp, by simp⟩⟩
  rw [(headIs_drop h).1, atomM]; simp
theorem atom_40 {alt : Bs → Option Rd} {s : ByteArray} {i i1 : Nat} {wr ou fu wr1 ou1 fu1 : Bool} {t : Tree} (h : headIs 40 (s.data.toList.drop i) = true) (hd : Does s wr ou fu (alt (s.data.toList.drop (i + 1))) t i1 wr1 ou1 fu1) :
    Does s wr ou fu (atomM alt (s.data.toList.drop i)) t (mustI s 41 i1) (mustW s 41 i1 wr1) ou1 fu1 := by
  have e : atomM alt (s.data.toList.drop i) = parM (alt (s.data.toList.drop (i + 1))) := by rw [(headIs_drop h).1, atomM]; simp
  rw [e]
  refine ⟨fun hw => by unfold mustW; rw [hd.1 hw]; rfl, fun hw => ?_⟩
  rcases hd.2 hw with ⟨h1, h2⟩ | ⟨x, h1, h2, h3, h4, h5, h6⟩
  · left; rw [h1]; exact ⟨rfl, by unfold mustW; rw [h2]; rfl⟩
  · rw [h1]
    cases h7 : headIs 41 (s.data.toList.drop i1) with
    | true =>
      right
      have h8 := (headIs_drop h7).1
      rw [h4] at h8
      refine ⟨⟨x.t, x.o, x.f, s.data.toList.drop (i1 + 1)⟩, ?_, by simp [mustW, h2, h7], h3, by simp [mustI, h7], h5, h6⟩
      obtain ⟨xt, xo, xf, xr⟩ := x
      simp only at h8
      subst h8
      rfl
    | false =>
      left
      refine ⟨?_, by simp [mustW, h7]⟩
      have h8 := headIs_false h7
      rw [h4] at h8
      obtain ⟨xt, xo, xf, xr⟩ := x
      simp only at h8
      unfold parM
      split
      · rename_i e9
        simp at e9
        obtain ⟨_, _, _, rfl⟩ := e9
        simp at h8
      · rfl

/-- What a number comes to, as a fact of its own. -/
def NumF (s : ByteArray) (i : Nat) (wr : Bool) (n at' : Nat) (wr' : Bool) : Prop :=
  (numM (s.data.toList.drop i) = none ∧ wr' = true) ∨ ∃ r, numM (s.data.toList.drop i) = some (n, r) ∧ wr' = wr ∧ s.data.toList.drop at' = r

theorem NumF.wrong {s : ByteArray} {i n at' : Nat} {wr wr' : Bool} (h : NumF s i wr n at' wr') (hw : wr = true) : wr' = true := by
  rcases h with ⟨_, h⟩ | ⟨_, _, h, _⟩
  · exact h
  · rw [h, hw]

theorem must_some {s : ByteArray} {c : UInt8} {i : Nat} {r : Bs} (h : s.data.toList.drop i = r) : (∃ q, r = c :: q ∧ mustW s c i false = false ∧ s.data.toList.drop (mustI s c i) = q) ∨ ((∀ q, r ≠ c :: q) ∧ ∀ w, mustW s c i w = true) := by
  cases h7 : headIs c (s.data.toList.drop i) with
  | true =>
    left
    have h8 := (headIs_drop h7).1
    exact ⟨s.data.toList.drop (i + 1), by rw [← h, h8], by simp [mustW, h7], by simp [mustI, h7]⟩
  | false =>
    right
    have h8 := headIs_false h7
    refine ⟨fun q hq => ?_, fun w => by simp [mustW, h7]⟩
    rw [h, hq] at h8
    simp at h8

theorem atom_91 {alt : Bs → Option Rd} {s : ByteArray} {i i1 i3 n1 n2 : Nat} {wr ou fu wr1 wr3 : Bool} (h : headIs 91 (s.data.toList.drop i) = true) (h1 : NumF s (i + 1) wr n1 i1 wr1) (h3 : NumF s (mustI s 45 i1) (mustW s 45 i1 wr1) n2 i3 wr3) :
    Does s wr ou fu (atomM alt (s.data.toList.drop i)) (numT n1 n2) (mustI s 93 i3) (mustW s 93 i3 wr3) (ou || oneO n1 n2) fu := by
  have e : atomM alt (s.data.toList.drop i) = spanM (s.data.toList.drop (i + 1)) := by rw [(headIs_drop h).1, atomM]; simp
  rw [e]
  refine ⟨fun hw => ?_, fun hw => ?_⟩
  · have h4 : wr3 = true := h3.wrong (by unfold mustW; rw [h1.wrong hw]; rfl)
    unfold mustW; rw [h4]; rfl
  subst hw
  unfold spanM
  rcases h1 with ⟨a1, a2⟩ | ⟨r1, a1, a2, a3⟩
  · left
    have h4 : wr3 = true := h3.wrong (by unfold mustW; rw [a2]; rfl)
    rw [a1]
    exact ⟨rfl, by unfold mustW; rw [h4]; rfl⟩
  · subst a2
    rw [a1]
    rcases must_some (c := 45) a3 with ⟨q, b1, b2, b3⟩ | ⟨b1, b2⟩
    · subst b1
      simp only
      rw [b2] at h3
      rcases h3 with ⟨c1, c2⟩ | ⟨r3, c1, c2, c3⟩
      · left
        rw [b3] at c1
        rw [c1]
        exact ⟨rfl, by unfold mustW; rw [c2]; rfl⟩
      · rw [b3] at c1
        rw [c1]
        subst c2
        rcases must_some (c := 93) c3 with ⟨q2, d1, d2, d3⟩ | ⟨d1, d2⟩
        · subst d1
          right
          exact ⟨⟨numT n1 n2, oneO n1 n2, false, q2⟩, rfl, d2, rfl, d3, rfl, by simp⟩
        · left
          refine ⟨?_, d2 _⟩
          split
          · rename_i heq
            injection heq with heq
            injection heq with _ heq
            exact absurd heq (d1 _)
          · rfl
    · left
      have h4 : wr3 = true := h3.wrong (b2 _)
      refine ⟨?_, by unfold mustW; rw [h4]; rfl⟩
      split
      · rename_i heq
        injection heq with heq
        injection heq with _ heq
        exact absurd heq (b1 _)
      · rfl

theorem atom_num {alt : Bs → Option Rd} {s : ByteArray} {i i1 n1 : Nat} {wr ou fu wr1 : Bool} (h46 : headIs 46 (s.data.toList.drop i) = false) (h33 : headIs 33 (s.data.toList.drop i) = false) (h40 : headIs 40 (s.data.toList.drop i) = false) (h91 : headIs 91 (s.data.toList.drop i) = false) (h1 : NumF s i wr n1 i1 wr1) :
    Does s wr ou fu (atomM alt (s.data.toList.drop i)) (numT n1 n1) i1 wr1 (ou || oneO n1 n1) fu := by
  refine ⟨fun hw => h1.wrong hw, fun hw => ?_⟩
  subst hw
  unfold NumF at h1
  have e : ∀ r, headIs 46 r = false → headIs 33 r = false → headIs 40 r = false → headIs 91 r = false → atomM alt r = match numM r with | some (n, r') => some ⟨numT n n, oneO n n, false, r'⟩ | none => none := by
    intro r k1 k2 k3 k4
    cases r with
    | nil => rfl
    | cons c r =>
      simp [headIs_cons] at k1 k2 k3 k4
      rw [atomM, if_neg k1, if_neg k2, if_neg k3, if_neg k4]
      rfl
  rw [e _ h46 h33 h40 h91]
  rcases h1 with ⟨a1, a2⟩ | ⟨r1, a1, a2, a3⟩
  · left; rw [a1]; exact ⟨rfl, a2⟩
  · right; rw [a1]; exact ⟨⟨numT n1 n1, oneO n1 n1, false, r1⟩, rfl, a2, rfl, a3, rfl, by simp⟩

end Go.Proofs.YtihnmamejfoeeaaGreatDoor

namespace Go.Proofs.YtihnmamejfoeeaaGreatDoor
open Go.RowKit

set_option maxRecDepth 100000 in
set_option maxHeartbeats 8000000 in
theorem atom_any {s : ByteArray} {b n : Nat} {alt : Bs → Option Rd} (hs : s.size ≤ 3000) (ka : CA s b 29 alt n) : CA s b 70 (atomM alt) (n + 1) := by
  intro i wr ou fu w hi hlim hb
  have HA := AX.start hb
  have HS : Hid (s.size ≤ 3000) := hs
  have HIi : Hid (i ≤ s.size) := hi
  have HKA : Hid (CA s b 29 alt n) := ka
  have HLm : Hid (s.size - i < n + 1) := hlim
  have kN : ∀ (c : UInt8) (W : World), headIs c (s.data.toList.drop i) = false → AX s b w i wr ou fu W → Calls Tryz.prog 28 #[.pointer (some ⟨b, 0, none⟩), .int .u8 c.toNat] W fun e w' => e = .returned (.bool false) ∧ AX s b w i wr ou fu w' := fun c W h a => (took_no hi a.rd h).mono fun _ _ h => ⟨h.1, a.bel h.2.below⟩
  have kY : ∀ (c : UInt8) (W : World), headIs c (s.data.toList.drop i) = true → AX s b w i wr ou fu W → Calls Tryz.prog 28 #[.pointer (some ⟨b, 0, none⟩), .int .u8 c.toNat] W fun e w' => e = .returned (.bool true) ∧ AX s b w (i + 1) wr ou fu w' := fun c W h a => (took_yes hs a.rd h).mono fun _ _ h => ⟨h.1, a.go h.2.1 h.2.2⟩
  have kM : ∀ (c : UInt8) (j : Nat) (wr' ou' fu' : Bool) (W : World), j ≤ s.size → AX s b w j wr' ou' fu' W → Calls Tryz.prog 83 #[.pointer (some ⟨b, 0, none⟩), .int .u8 c.toNat] W fun e w' => (∃ v, e = .returned v) ∧ Ex b W w' ∧ AX s b w (mustI s c j) (mustW s c j wr') ou' fu' w' := fun c j wr' ou' fu' W h a => (must_any hs h a.rd).mono fun _ _ h => ⟨h.1, h.2.1, a.go h.2.1 h.2.2⟩
  have kU : ∀ (j : Nat) (wr' ou' fu' : Bool) (W : World), j ≤ s.size → AX s b w j wr' ou' fu' W → Calls Tryz.prog 84 #[.pointer (some ⟨b, 0, none⟩)] W fun e w' => ∃ (q at' : Nat) (wr2 : Bool), e = .returned (.int .u64 (min q 4294967296 : Nat)) ∧ AX s b w at' wr2 ou' fu' w' ∧ at' ≤ s.size ∧ j ≤ at' ∧ NumF s j wr' q at' wr2 := fun j wr' ou' fu' W h a => (number_any h hs a.rd).mono fun _ _ ⟨q, at', wr2, h1, h2, h3, h4, h5, h6⟩ => ⟨q, at', wr2, h1, a.go h2 h3, h4, h5, h6⟩
  have kO : ∀ (j l h : Nat) (wr' ou' fu' : Bool) (W : World), AX s b w j wr' ou' fu' W → Calls Tryz.prog 85 #[.pointer (some ⟨b, 0, none⟩), .int .u64 (min l 4294967296 : Nat), .int .u64 (min h 4294967296 : Nat)] W fun e w' => ∃ r : PC, e = .returned r.v ∧ HO (fun g => w.heap.size + 1 ≤ g ∧ g < w'.heap.size) w' (numT l h) r ∧ AX s b w j wr' (ou' || oneO l h) fu' w' := fun j l h wr' ou' fu' W a => (one_any a.rd).mono fun _ _ ⟨r, h1, h2, h3, h4⟩ => ⟨r, h1, h2.low (by have := a.res.lt; omega), a.go h3 h4⟩
  have kn := fun W => any_any W
  generalize hW : w.alloc (.cells #[.int .i64 0, .slice none 0 0, .slice none 0 0] 26) = W0 at HA
  have HI : Hid (AX s b w i wr ou fu W0) := HA
  clear hb HA hi hs ka hlim
  cases h46 : headIs 46 (s.data.toList.drop i) with
  | true =>
    have kY46 : ∀ W, AX s b w i wr ou fu W → Calls Tryz.prog 28 #[.pointer (some ⟨b, 0, none⟩), .int .u8 46] W fun e w' => e = .returned (.bool true) ∧ AX s b w (i + 1) wr ou fu w' := fun W a => kY 46 W h46 a
    clear kN kY kM
    go_enter Tryz.func70, Tryz.ntmps70
    go_upto_region 1 with fail
    clear hW
    go_wp2_with (first
      | (go_at_call 28; (with_reducible refine (kY46 _ HI.out).mono ?_); rintro _ w2 ⟨rfl, a2⟩; have I2 : Hid (AX s b w (i + 1) wr ou fu w2) := a2; clear a2)
      | (go_at_call 32; refine (kn _).mono ?_; rintro _ w3 ⟨⟨r0, ⟨r1, r2, r3⟩, r4, r5, r6⟩, rfl, ho3, bb3⟩; have I3 : Hid (AX s b w (i + 1) wr ou fu w3) := I2.out.bel bb3; have H3 : Hid (HO (fun g => w.heap.size + 1 ≤ g ∧ g < w3.heap.size) w3 allT ⟨r0, ⟨r1, r2, r3⟩, r4, r5, r6⟩) := ho3.low (by have := I2.out.res.lt; omega); obtain ⟨y0, y1, y2⟩ := BlkT.cs I3.out.res; have z0 := I3.out.res.frozen; clear ho3 bb3))
    refine bodyPost_ret (v := PC.v ⟨r0, ⟨r1, r2, r3⟩, ⟨r4, r5, r6⟩⟩) ?_ rfl (I3.out.fin H3.out right_all (by omega) (headIs_drop h46).2 (atom_46 h46 wr ou fu) _ _ _)
    simp [results, Tryz.results70]
    have B := blk_put3 I3.out.res ⟨r0, ⟨r1, r2, r3⟩, ⟨r4, r5, r6⟩⟩
    simp only at B
    generalize hW7 : World.setCell _ _ _ = W7 at B ⊢
    exact run_ptv B
  | false =>
  cases h33 : headIs 33 (s.data.toList.drop i) with
  | true =>
    have kN46 : ∀ W, AX s b w i wr ou fu W → Calls Tryz.prog 28 #[.pointer (some ⟨b, 0, none⟩), .int .u8 46] W fun e w' => e = .returned (.bool false) ∧ AX s b w i wr ou fu w' := fun W a => kN 46 W h46 a
    have kY33 : ∀ W, AX s b w i wr ou fu W → Calls Tryz.prog 28 #[.pointer (some ⟨b, 0, none⟩), .int .u8 33] W fun e w' => e = .returned (.bool true) ∧ AX s b w (i + 1) wr ou fu w' := fun W a => kY 33 W h33 a
    clear kN kY kM
    go_enter Tryz.func70, Tryz.ntmps70
    go_upto_region 1 with fail
    clear hW
    go_wp2_with (first
      | (go_at_call 28; (with_reducible refine (kN46 _ HI.out).mono ?_); rintro _ w1 ⟨rfl, a2⟩; have I1 : Hid (AX s b w i wr ou fu w1) := a2; clear a2)
      | (go_at_call 28; (with_reducible refine (kY33 _ I1.out).mono ?_); rintro _ w2 ⟨rfl, a2⟩; have I2 : Hid (AX s b w (i + 1) wr ou fu w2) := a2; obtain ⟨y0, y1, y2⟩ := BlkT.cs I2.out.res; have z0 := I2.out.res.frozen; clear a2))
    refine bodyPost_ret (v := PC.v ⟨3, ⟨none, 0, 0⟩, ⟨none, 0, 0⟩⟩) ?_ rfl (I2.out.fin (HO_none 3) right_no (by omega) (headIs_drop h33).2 (atom_33 h33 wr ou fu) _ _ _)
    simp [results, Tryz.results70]
    have B := blk_put3 I2.out.res ⟨3, ⟨none, 0, 0⟩, ⟨none, 0, 0⟩⟩
    simp only at B
    generalize hW7 : World.setCell _ _ _ = W7 at B ⊢
    exact run_ptv B
  | false =>
  cases h40 : headIs 40 (s.data.toList.drop i) with
  | true =>
    have kN46 : ∀ W, AX s b w i wr ou fu W → Calls Tryz.prog 28 #[.pointer (some ⟨b, 0, none⟩), .int .u8 46] W fun e w' => e = .returned (.bool false) ∧ AX s b w i wr ou fu w' := fun W a => kN 46 W h46 a
    have kN33 : ∀ W, AX s b w i wr ou fu W → Calls Tryz.prog 28 #[.pointer (some ⟨b, 0, none⟩), .int .u8 33] W fun e w' => e = .returned (.bool false) ∧ AX s b w i wr ou fu w' := fun W a => kN 33 W h33 a
    have kY40 : ∀ W, AX s b w i wr ou fu W → Calls Tryz.prog 28 #[.pointer (some ⟨b, 0, none⟩), .int .u8 40] W fun e w' => e = .returned (.bool true) ∧ AX s b w (i + 1) wr ou fu w' := fun W a => kY 40 W h40 a
    have kM41 : ∀ (j : Nat) (wr' ou' fu' : Bool) (W : World), j ≤ s.size → AX s b w j wr' ou' fu' W → Calls Tryz.prog 83 #[.pointer (some ⟨b, 0, none⟩), .int .u8 41] W fun e w' => (∃ v, e = .returned v) ∧ Ex b W w' ∧ AX s b w (mustI s 41 j) (mustW s 41 j wr') ou' fu' w' := fun j wr' ou' fu' W h a => kM 41 j wr' ou' fu' W h a
    clear kN kY kM
    go_enter Tryz.func70, Tryz.ntmps70
    go_upto_region 1 with fail
    clear hW
    go_wp2_with (first
      | (go_at_call 28; (with_reducible refine (kN46 _ HI.out).mono ?_); rintro _ w1 ⟨rfl, a2⟩; have I1 : Hid (AX s b w i wr ou fu w1) := a2; clear a2)
      | (go_at_call 28; (with_reducible refine (kN33 _ I1.out).mono ?_); rintro _ w2 ⟨rfl, a2⟩; have I2 : Hid (AX s b w i wr ou fu w2) := a2; clear a2)
      | (go_at_call 28; (with_reducible refine (kY40 _ I2.out).mono ?_); rintro _ w3 ⟨rfl, a2⟩; have I3 : Hid (AX s b w (i + 1) wr ou fu w3) := a2; clear a2)
      | (go_at_call 29; refine (HKA.out (i + 1) wr ou fu _ (headIs_drop h40).2 (by have := HLm.out; have := (headIs_drop h40).2; omega) I3.out.rd).mono ?_; rintro _ w4 ⟨⟨r0, ⟨r1, r2, r3⟩, r4, r5, r6⟩, t4, i4, wr4, ou4, fu4, rfl, ho4, hk4, ex4, b4, le4, le5, d4⟩; have I4 : Hid (AX s b w i4 wr4 ou4 fu4 (w4.alloc (.cells #[.int .i64 r0, .slice r1 r2 r3, .slice r4 r5 r6] 26))) := (I3.out.go ex4 b4).bel (bel_alloc _ _); have H4 : Hid (HO (fun g => w.heap.size + 1 ≤ g ∧ g < w4.heap.size) w4 t4 ⟨r0, ⟨r1, r2, r3⟩, r4, r5, r6⟩) := ho4.low (by have := I3.out.res.lt; omega); have K4 : Hid (rightT t4 = true) := hk4; have L4 : Hid (i + 1 ≤ i4) := le4; have L5 : Hid (i4 ≤ s.size) := le5; have D4 : Hid (Does s wr ou fu (alt (s.data.toList.drop (i + 1))) t4 i4 wr4 ou4 fu4) := d4; have N4 : Hid (b < w4.heap.size) := (I3.out.go ex4 b4).rd.lt; clear ho4 hk4 ex4 b4 le4 le5 d4)
      | (go_at_call 83; (with_reducible refine (kM41 _ _ _ _ _ L5.out I4.out).mono ?_); rintro _ w5 ⟨⟨v5, rfl⟩, ex5, a5⟩; have I5 : Hid (AX s b w (mustI s 41 i4) (mustW s 41 i4 wr4) ou4 fu4 w5) := a5; have B5 : Hid (Blk w5 w4.heap.size (encT ⟨r0, ⟨r1, r2, r3⟩, r4, r5, r6⟩).toArray 26) := Blk.ex ex5 (Blk.new _ _ _) (by have := N4.out; omega); have H5 : Hid (HO (fun g => w.heap.size + 1 ≤ g ∧ g < w5.heap.size) w5 t4 ⟨r0, ⟨r1, r2, r3⟩, r4, r5, r6⟩) := (H4.out.bel (bel_alloc _ _)).ex ex5 (by have := I4.out.lt; omega); obtain ⟨x0, x1, x2⟩ := BlkT.cs B5.out; obtain ⟨y0, y1, y2⟩ := BlkT.cs I5.out.res; have z0 := I5.out.res.frozen; clear ex5 a5))
    refine bodyPost_ret (v := PC.v ⟨r0, ⟨r1, r2, r3⟩, ⟨r4, r5, r6⟩⟩) ?_ rfl (I5.out.fin H5.out K4.out (by have := L4.out; have := (mustI_le (c := 41) L5.out).1; omega) (mustI_le L5.out).2 (atom_40 h40 D4.out) _ _ _)
    simp [results, Tryz.results70]
    have B := blk_put3 I5.out.res ⟨r0, ⟨r1, r2, r3⟩, ⟨r4, r5, r6⟩⟩
    simp only at B
    generalize hW7 : World.setCell _ _ _ = W7 at B ⊢
    exact run_ptv B
  | false =>
  cases h91 : headIs 91 (s.data.toList.drop i) with
  | true =>
    have kN46 : ∀ W, AX s b w i wr ou fu W → Calls Tryz.prog 28 #[.pointer (some ⟨b, 0, none⟩), .int .u8 46] W fun e w' => e = .returned (.bool false) ∧ AX s b w i wr ou fu w' := fun W a => kN 46 W h46 a
    have kN33 : ∀ W, AX s b w i wr ou fu W → Calls Tryz.prog 28 #[.pointer (some ⟨b, 0, none⟩), .int .u8 33] W fun e w' => e = .returned (.bool false) ∧ AX s b w i wr ou fu w' := fun W a => kN 33 W h33 a
    have kN40 : ∀ W, AX s b w i wr ou fu W → Calls Tryz.prog 28 #[.pointer (some ⟨b, 0, none⟩), .int .u8 40] W fun e w' => e = .returned (.bool false) ∧ AX s b w i wr ou fu w' := fun W a => kN 40 W h40 a
    have kY91 : ∀ W, AX s b w i wr ou fu W → Calls Tryz.prog 28 #[.pointer (some ⟨b, 0, none⟩), .int .u8 91] W fun e w' => e = .returned (.bool true) ∧ AX s b w (i + 1) wr ou fu w' := fun W a => kY 91 W h91 a
    have kM45 : ∀ (j : Nat) (wr' ou' fu' : Bool) (W : World), j ≤ s.size → AX s b w j wr' ou' fu' W → Calls Tryz.prog 83 #[.pointer (some ⟨b, 0, none⟩), .int .u8 45] W fun e w' => (∃ v, e = .returned v) ∧ Ex b W w' ∧ AX s b w (mustI s 45 j) (mustW s 45 j wr') ou' fu' w' := fun j wr' ou' fu' W h a => kM 45 j wr' ou' fu' W h a
    have kM93 : ∀ (j : Nat) (wr' ou' fu' : Bool) (W : World), j ≤ s.size → AX s b w j wr' ou' fu' W → Calls Tryz.prog 83 #[.pointer (some ⟨b, 0, none⟩), .int .u8 93] W fun e w' => (∃ v, e = .returned v) ∧ Ex b W w' ∧ AX s b w (mustI s 93 j) (mustW s 93 j wr') ou' fu' w' := fun j wr' ou' fu' W h a => kM 93 j wr' ou' fu' W h a
    clear kN kY kM
    go_enter Tryz.func70, Tryz.ntmps70
    go_upto_region 1 with fail
    clear hW
    go_wp2_with (first
      | (go_at_call 28; (with_reducible refine (kN46 _ HI.out).mono ?_); rintro _ w1 ⟨rfl, a2⟩; have I1 : Hid (AX s b w i wr ou fu w1) := a2; clear a2)
      | (go_at_call 28; (with_reducible refine (kN33 _ I1.out).mono ?_); rintro _ w2 ⟨rfl, a2⟩; have I2 : Hid (AX s b w i wr ou fu w2) := a2; clear a2)
      | (go_at_call 28; (with_reducible refine (kN40 _ I2.out).mono ?_); rintro _ w3 ⟨rfl, a2⟩; have I3 : Hid (AX s b w i wr ou fu w3) := a2; clear a2)
      | (go_at_call 28; (with_reducible refine (kY91 _ I3.out).mono ?_); rintro _ w4 ⟨rfl, a2⟩; have I4 : Hid (AX s b w (i + 1) wr ou fu w4) := a2; clear a2)
      | (go_at_call 84; refine (kU (mustI s 45 i6) (mustW s 45 i6 wr6) ou fu _ (mustI_le L6.out).2 I7.out).mono ?_; rintro _ w8 ⟨n8, i8, wr8, rfl, a2, le4, le5, f2⟩; have I8 : Hid (AX s b w i8 wr8 ou fu w8) := a2; have L8 : Hid (i8 ≤ s.size) := le4; have M8 : Hid ((mustI s 45 i6) ≤ i8) := le5; have F8 : Hid (NumF s (mustI s 45 i6) (mustW s 45 i6 wr6) n8 i8 wr8) := f2; clear a2 le4 le5 f2)
      | (go_at_call 84; refine (kU (i + 1) wr ou fu _ (headIs_drop h91).2 I4.out).mono ?_; rintro _ w6 ⟨n6, i6, wr6, rfl, a2, le4, le5, f2⟩; have I6 : Hid (AX s b w i6 wr6 ou fu w6) := a2; have L6 : Hid (i6 ≤ s.size) := le4; have M6 : Hid ((i + 1) ≤ i6) := le5; have F6 : Hid (NumF s (i + 1) wr n6 i6 wr6) := f2; clear a2 le4 le5 f2)
      | (go_at_call 83; (with_reducible refine (kM93 _ _ _ _ _ L8.out I8.out).mono ?_); rintro _ w5 ⟨⟨v5, rfl⟩, ex5, a5⟩; have I5 : Hid (AX s b w (mustI s 93 i8) (mustW s 93 i8 wr8) ou fu w5) := a5; clear ex5 a5)
      | (go_at_call 83; (with_reducible refine (kM45 _ _ _ _ _ L6.out I6.out).mono ?_); rintro _ w7 ⟨⟨v5, rfl⟩, ex5, a5⟩; have I7 : Hid (AX s b w (mustI s 45 i6) (mustW s 45 i6 wr6) ou fu w7) := a5; clear ex5 a5)
      | (go_at_call 85; refine (kO _ n6 n8 _ _ _ _ I5.out).mono ?_; rintro _ w9 ⟨⟨r0, ⟨r1, r2, r3⟩, r4, r5, r6⟩, rfl, ho9, a9⟩; have I9 : Hid (AX s b w (mustI s 93 i8) (mustW s 93 i8 wr8) (ou || oneO n6 n8) fu w9) := a9; have H9 : Hid (HO (fun g => w.heap.size + 1 ≤ g ∧ g < w9.heap.size) w9 (numT n6 n8) ⟨r0, ⟨r1, r2, r3⟩, r4, r5, r6⟩) := ho9; obtain ⟨y0, y1, y2⟩ := BlkT.cs I9.out.res; have z0 := I9.out.res.frozen; clear ho9 a9))
    refine bodyPost_ret (v := PC.v ⟨r0, ⟨r1, r2, r3⟩, ⟨r4, r5, r6⟩⟩) ?_ rfl (I9.out.fin H9.out (right_one _) (by have := M6.out; have := (mustI_le (c := 45) L6.out).1; have := M8.out; have := (mustI_le (c := 93) L8.out).1; omega) (mustI_le L8.out).2 (atom_91 h91 F6.out F8.out) _ _ _)
    simp [results, Tryz.results70]
    have B := blk_put3 I9.out.res ⟨r0, ⟨r1, r2, r3⟩, ⟨r4, r5, r6⟩⟩
    simp only at B
    generalize hW7 : World.setCell _ _ _ = W7 at B ⊢
    exact run_ptv B
  | false =>
    have kN46 : ∀ W, AX s b w i wr ou fu W → Calls Tryz.prog 28 #[.pointer (some ⟨b, 0, none⟩), .int .u8 46] W fun e w' => e = .returned (.bool false) ∧ AX s b w i wr ou fu w' := fun W a => kN 46 W h46 a
    have kN33 : ∀ W, AX s b w i wr ou fu W → Calls Tryz.prog 28 #[.pointer (some ⟨b, 0, none⟩), .int .u8 33] W fun e w' => e = .returned (.bool false) ∧ AX s b w i wr ou fu w' := fun W a => kN 33 W h33 a
    have kN40 : ∀ W, AX s b w i wr ou fu W → Calls Tryz.prog 28 #[.pointer (some ⟨b, 0, none⟩), .int .u8 40] W fun e w' => e = .returned (.bool false) ∧ AX s b w i wr ou fu w' := fun W a => kN 40 W h40 a
    have kN91 : ∀ W, AX s b w i wr ou fu W → Calls Tryz.prog 28 #[.pointer (some ⟨b, 0, none⟩), .int .u8 91] W fun e w' => e = .returned (.bool false) ∧ AX s b w i wr ou fu w' := fun W a => kN 91 W h91 a
    clear kN kY kM
    go_enter Tryz.func70, Tryz.ntmps70
    go_upto_region 1 with fail
    clear hW
    go_wp2_with (first
      | (go_at_call 28; (with_reducible refine (kN46 _ HI.out).mono ?_); rintro _ w1 ⟨rfl, a2⟩; have I1 : Hid (AX s b w i wr ou fu w1) := a2; clear a2)
      | (go_at_call 28; (with_reducible refine (kN33 _ I1.out).mono ?_); rintro _ w2 ⟨rfl, a2⟩; have I2 : Hid (AX s b w i wr ou fu w2) := a2; clear a2)
      | (go_at_call 28; (with_reducible refine (kN40 _ I2.out).mono ?_); rintro _ w3 ⟨rfl, a2⟩; have I3 : Hid (AX s b w i wr ou fu w3) := a2; clear a2)
      | (go_at_call 28; (with_reducible refine (kN91 _ I3.out).mono ?_); rintro _ w4 ⟨rfl, a2⟩; have I4 : Hid (AX s b w i wr ou fu w4) := a2; clear a2)
      | (go_at_call 84; refine (kU i wr ou fu _ HIi.out I4.out).mono ?_; rintro _ w6 ⟨n6, i6, wr6, rfl, a2, le4, le5, f2⟩; have I6 : Hid (AX s b w i6 wr6 ou fu w6) := a2; have L6 : Hid (i6 ≤ s.size) := le4; have M6 : Hid (i ≤ i6) := le5; have F6 : Hid (NumF s i wr n6 i6 wr6) := f2; clear a2 le4 le5 f2)
      | (go_at_call 85; refine (kO _ n6 n6 _ _ _ _ I6.out).mono ?_; rintro _ w9 ⟨⟨r0, ⟨r1, r2, r3⟩, r4, r5, r6⟩, rfl, ho9, a9⟩; have I9 : Hid (AX s b w i6 wr6 (ou || oneO n6 n6) fu w9) := a9; have H9 : Hid (HO (fun g => w.heap.size + 1 ≤ g ∧ g < w9.heap.size) w9 (numT n6 n6) ⟨r0, ⟨r1, r2, r3⟩, r4, r5, r6⟩) := ho9; obtain ⟨y0, y1, y2⟩ := BlkT.cs I9.out.res; have z0 := I9.out.res.frozen; clear ho9 a9))
    refine bodyPost_ret (v := PC.v ⟨r0, ⟨r1, r2, r3⟩, ⟨r4, r5, r6⟩⟩) ?_ rfl (I9.out.fin H9.out (right_one _) M6.out L6.out (atom_num h46 h33 h40 h91 F6.out) _ _ _)
    simp [results, Tryz.results70]
    have B := blk_put3 I9.out.res ⟨r0, ⟨r1, r2, r3⟩, ⟨r4, r5, r6⟩⟩
    simp only at B
    generalize hW7 : World.setCell _ _ _ = W7 at B ⊢
    exact run_ptv B

end Go.Proofs.YtihnmamejfoeeaaGreatDoor

namespace Go.Proofs.YtihnmamejfoeeaaGreatDoor
open Go.RowKit

set_option maxRecDepth 100000 in
set_option maxHeartbeats 1000000 in
theorem star_P {P : Nat → Prop} {t : Tree} {x : PC} {w : World} (hP : ∀ g, P g → g < w.heap.size) (hx : HO P w t x) :
    Calls Tryz.prog 31 #[x.v] w fun e w' => ∃ r : PC, e = .returned r.v ∧ HO (fun g => P g ∨ (w.heap.size ≤ g ∧ g < w'.heap.size)) w' (stT t) r ∧ Below w.heap.size w w' := by
  have HX : Hid (HO P w t x) := hx
  have HPp : Hid (∀ g, P g → g < w.heap.size) := hP
  obtain ⟨xk, ⟨x1, x2, x3⟩, x4, x5, x6⟩ := x
  clear hx hP
  go_enter Tryz.func31, Tryz.ntmps31
  go_wp2_with fail
  refine bodyPost_ret (v := PC.v ⟨4, ⟨none, 0, 0⟩, ⟨some ⟨w.heap.size + 1 + 1, 0, none⟩, 1, 1⟩⟩) ?_ rfl ⟨_, rfl, ?_, bstep (bstep (bel_alloc _ _) (bel_alloc _ _)) (bel_alloc _ _)⟩
  · simp [results, Tryz.results31]
    exact run_ptv (x := ⟨4, ⟨none, 0, 0⟩, ⟨some ⟨w.heap.size + 1 + 1, 0, none⟩, 1, 1⟩⟩) ((Blk.new' _ _ _ _ (by simp)).alloc _)
  · exact HO_sub1 (HO.same (fun _ h => Or.inl h) (fun g hg => (bstep (bstep (bel_alloc _ _) (bel_alloc _ _)) (bel_alloc _ _)).block g (HPp.out g hg)) HX.out) (Blk.new' _ _ _ _ (by simp)) rfl (Or.inr ⟨by omega, by simp⟩)

/-- Between the signs: the pattern lies in block b3. -/
structure IX (s : ByteArray) (b : Nat) (w : World) (b3 i : Nat) (wr ou fu : Bool) (t : Tree) (x : PC) (W : World) : Prop where
  ax : AX s b w i wr ou fu W
  me : Blk W b3 (encT x).toArray 26
  ho : HO (fun g => w.heap.size + 1 ≤ g ∧ g < W.heap.size ∧ g ≠ b3) W t x
  hb3 : w.heap.size < b3
  rt : rightT t = true
  le : i ≤ s.size
theorem IX.go {s : ByteArray} {b : Nat} {w : World} {b3 i i' : Nat} {wr ou fu wr' ou' fu' : Bool} {t : Tree} {x : PC} {W W' : World} (h : IX s b w b3 i wr ou fu t x W) (g : Ex b W W') (hb : BlkR W' b s i' wr' ou' fu') (hi : i' ≤ s.size) : IX s b w b3 i' wr' ou' fu' t x W' :=
  ⟨h.ax.go g hb, Blk.ex g h.me (by have := h.ax.lt; have := h.hb3; omega), HO.same (fun _ h1 => ⟨h1.1, Nat.lt_of_lt_of_le h1.2.1 g.size, h1.2.2⟩) (fun q h1 => g.block q h1.2.1 (by have := h.ax.lt; omega)) h.ho, h.hb3, h.rt, hi⟩
theorem IX.step {s : ByteArray} {b : Nat} {w : World} {b3 i : Nat} {wr ou fu fu' : Bool} {t t' : Tree} {x r : PC} {W W' : World} (h : IX s b w b3 i wr ou fu t x W) (g : Ex b W W') (hb : BlkR W' b s i wr ou fu') (hr : HO (fun g => w.heap.size + 1 ≤ g ∧ g < W'.heap.size ∧ g ≠ b3) W' t' r) (hk : rightT t' = true) :
    IX s b w b3 i wr ou fu' t' r (((W'.setCell ⟨b3, 0, none⟩ (.int .i64 r.k)).setCell ⟨b3, 1, none⟩ (.slice r.s.a r.s.n r.s.c)).setCell ⟨b3, 2, none⟩ (.slice r.b.a r.b.n r.b.c)) := by
  have h1 := h.ax.go g hb
  have hlt := h.ax.lt
  have h3 := h.hb3
  have hm := Blk.ex g h.me (by omega : b3 ≠ b)
  refine ⟨⟨set3_ex h1.ex (by omega) _ _ _, h1.res.set3 (by omega) _ _ _, h1.rd.set3 (by omega) _ _ _, hlt⟩, ?_, ?_, h3, hk, h.le⟩
  · exact blk_put3 hm r
  · exact HO.same (fun q hq => ⟨hq.1, by simpa using hq.2.1, hq.2.2⟩) (fun q hq => heap_set3 hq.2.2 _ _ _) hr
theorem IX.start {s : ByteArray} {b : Nat} {w : World} {i : Nat} {wr ou fu : Bool} {t : Tree} {r : PC} {W : World} (h : AX s b w i wr ou fu W) (hr : HO (fun g => w.heap.size + 1 ≤ g ∧ g < W.heap.size) W t r) (hk : rightT t = true) (hi : i ≤ s.size) :
    IX s b w W.heap.size i wr ou fu t r (W.alloc (.cells #[.int .i64 r.k, .slice r.s.a r.s.n r.s.c, .slice r.b.a r.b.n r.b.c] 26)) :=
  ⟨h.bel (bel_alloc _ _), Blk.new _ _ _, HO.same (fun q hq => ⟨hq.1, by simp; omega, by omega⟩) (fun q hq => (bel_alloc _ _).block q hq.2) hr, h.res.lt, hk, hi⟩
theorem IX.held {s : ByteArray} {b : Nat} {w : World} {b3 i : Nat} {wr ou fu : Bool} {t : Tree} {x : PC} {W : World} (h : IX s b w b3 i wr ou fu t x W) : HT W t x := h.ho.held

/-- What is left to be read behind an atom, between the signs. -/
def SignD (s : ByteArray) (wr0 ou0 fu0 : Bool) (M : Option Rd) (t : Tree) (i : Nat) (wr ou fu : Bool) : Prop :=
  (wr0 = true → wr = true) ∧ (wr0 = false → (M = none ∧ wr = true) ∨ (wr = false ∧ ∃ o f, ou = (ou0 || o) ∧ fu = (fu0 || f) ∧ M = some ⟨(signsM (s.data.toList.drop i) t f).1, o, (signsM (s.data.toList.drop i) t f).2.1, (signsM (s.data.toList.drop i) t f).2.2⟩))

theorem SignD.start {s : ByteArray} {alt : Bs → Option Rd} {r : Bs} {t : Tree} {i : Nat} {wr0 ou0 fu0 wr ou fu : Bool} (h : Does s wr0 ou0 fu0 (atomM alt r) t i wr ou fu) : SignD s wr0 ou0 fu0 (itemM alt r) t i wr ou fu := by
  refine ⟨h.1, fun hw => ?_⟩
  rcases h.2 hw with ⟨h1, h2⟩ | ⟨x, h1, h2, h3, h4, h5, h6⟩
  · left; unfold itemM; rw [h1]; exact ⟨rfl, h2⟩
  · right
    refine ⟨h2, x.o, x.f, h5, h6, ?_⟩
    unfold itemM
    rw [h1, h3, h4]
theorem SignD.fin {s : ByteArray} {M : Option Rd} {t : Tree} {i : Nat} {wr0 ou0 fu0 wr ou fu : Bool} (h : SignD s wr0 ou0 fu0 M t i wr ou fu) (h1 : headIs 42 (s.data.toList.drop i) = false) (h2 : headIs 43 (s.data.toList.drop i) = false) (h3 : headIs 63 (s.data.toList.drop i) = false) : Does s wr0 ou0 fu0 M t i wr ou fu := by
  refine ⟨h.1, fun hw => ?_⟩
  rcases h.2 hw with h4 | ⟨h4, o, f, h5, h6, h7⟩
  · exact Or.inl h4
  · right
    have hs : signsM (s.data.toList.drop i) t f = (t, f, s.data.toList.drop i) := by
      cases e : s.data.toList.drop i with
      | nil => rw [signsM]
      | cons c r =>
        rw [e] at h1 h2 h3
        simp [headIs_cons] at h1 h2 h3
        rw [signsM, if_neg h1, if_neg h2, if_neg h3]
    rw [hs] at h7
    exact ⟨_, h7, h4, rfl, rfl, h5, h6⟩
theorem SignD.step {s : ByteArray} {M : Option Rd} {t : Tree} {i : Nat} {wr0 ou0 fu0 wr ou fu : Bool} {c : UInt8} {F : Tree → Tree} (hF : ∀ r t f, signsM (c :: r) t f = signsM r (keptM (F t)).1 (f || (keptM (F t)).2)) (h : SignD s wr0 ou0 fu0 M t i wr ou fu) (h1 : headIs c (s.data.toList.drop i) = true) : SignD s wr0 ou0 fu0 M (keptM (F t)).1 (i + 1) wr ou (fu || (keptM (F t)).2) := by
  refine ⟨h.1, fun hw => ?_⟩
  rcases h.2 hw with h4 | ⟨h4, o, f, h5, h6, h7⟩
  · exact Or.inl h4
  · right
    rw [(headIs_drop h1).1, hF] at h7
    exact ⟨h4, o, f || (keptM (F t)).2, h5, by rw [h6, Bool.or_assoc], h7⟩
theorem signs_42 (r : Bs) (t : Tree) (f : Bool) : signsM (42 :: r) t f = signsM r (keptM (stT t)).1 (f || (keptM (stT t)).2) := by rw [signsM, if_pos rfl]
theorem signs_43 (r : Bs) (t : Tree) (f : Bool) : signsM (43 :: r) t f = signsM r (keptM (plusT t)).1 (f || (keptM (plusT t)).2) := by rw [signsM, if_neg (by decide), if_pos rfl]
theorem signs_63 (r : Bs) (t : Tree) (f : Bool) : signsM (63 :: r) t f = signsM r (keptM (optT t)).1 (f || (keptM (optT t)).2) := by rw [signsM, if_neg (by decide), if_neg (by decide), if_pos rfl]

set_option maxRecDepth 100000 in
set_option maxHeartbeats 8000000 in
theorem item_any {s : ByteArray} {b n : Nat} {alt : Bs → Option Rd} (hs : s.size ≤ 3000) (ka : CA s b 70 (atomM alt) n) : CA s b 57 (itemM alt) n := by
  intro i wr ou fu w hi hlim hb
  have HA := AX.start hb
  have HS : Hid (s.size ≤ 3000) := hs
  have HKA := ka i wr ou fu _ hi hlim HA.rd
  have kN : ∀ (c : UInt8) (b3 j : Nat) (wr' ou' fu' : Bool) (t : Tree) (x : PC) (W : World), headIs c (s.data.toList.drop j) = false → IX s b w b3 j wr' ou' fu' t x W → Calls Tryz.prog 28 #[.pointer (some ⟨b, 0, none⟩), .int .u8 c.toNat] W fun e w' => e = .returned (.bool false) ∧ IX s b w b3 j wr' ou' fu' t x w' := fun c b3 j wr' ou' fu' t x W h a => (took_no a.le a.ax.rd h).mono fun _ _ h => ⟨h.1, a.go (.of_gr h.2) (a.ax.rd.gr h.2) a.le⟩
  have kY : ∀ (c : UInt8) (b3 j : Nat) (wr' ou' fu' : Bool) (t : Tree) (x : PC) (W : World), headIs c (s.data.toList.drop j) = true → IX s b w b3 j wr' ou' fu' t x W → Calls Tryz.prog 28 #[.pointer (some ⟨b, 0, none⟩), .int .u8 c.toNat] W fun e w' => e = .returned (.bool true) ∧ IX s b w b3 (j + 1) wr' ou' fu' t x w' := fun c b3 j wr' ou' fu' t x W h a => (took_yes hs a.ax.rd h).mono fun _ _ h' => ⟨h'.1, a.go h'.2.1 h'.2.2 (headIs_drop h).2⟩
  generalize hW : w.alloc (.cells #[.int .i64 0, .slice none 0 0, .slice none 0 0] 26) = W0 at HA HKA
  have HI : Hid (AX s b w i wr ou fu W0) := HA
  clear hb HA hi hs ka hlim
  go_enter Tryz.func57, Tryz.ntmps57
  go_upto_region 1 with fail
  clear hW
  go_wp2_with (go_at_call 70; refine HKA.mono ?_; rintro _ w4 ⟨⟨r0, ⟨r1, r2, r3⟩, r4, r5, r6⟩, t4, i4, wr4, ou4, fu4, rfl, ho4, hk4, ex4, b4, le4, le5, d4⟩; have I4 : Hid (IX s b w w4.heap.size i4 wr4 ou4 fu4 t4 ⟨r0, ⟨r1, r2, r3⟩, r4, r5, r6⟩ (w4.alloc (.cells #[.int .i64 r0, .slice r1 r2 r3, .slice r4 r5 r6] 26))) := IX.start (HI.out.go ex4 b4) (ho4.low (by have := HI.out.res.lt; omega)) hk4 le5; have D4 : Hid (SignD s wr ou fu (itemM alt (s.data.toList.drop i)) t4 i4 wr4 ou4 fu4) := SignD.start d4; have L4 : Hid (i ≤ i4) := le4; clear ho4 hk4 ex4 b4 le4 le5 d4)
  generalize w4.heap.size = b3 at I4 ⊢
  go_loopw [7] (fun _ wr0 => ∃ (i5 : Nat) (wr5 ou5 fu5 : Bool) (t5 : Tree) (x5 : PC), Hid (IX s b w b3 i5 wr5 ou5 fu5 t5 x5 wr0) ∧ Hid (SignD s wr ou fu (itemM alt (s.data.toList.drop i)) t5 i5 wr5 ou5 fu5) ∧ Hid (i ≤ i5)) (fun _ wr0 => s.size - posOf b wr0)
  case atStart => exact ⟨i4, wr4, ou4, fu4, t4, _, I4, D4, L4⟩
  case round =>
    clear I4 D4 L4 HKA HI
    obtain ⟨i5, wr5, ou5, fu5, t5, ⟨q0, ⟨q1, q2, q3⟩, q4, q5, q6⟩, I5, D5, L5⟩ := hrel
    have HP : Hid (posOf b _ = i5) := posOf_blk I5.out.ax.rd
    cases h42 : headIs 42 (s.data.toList.drop i5) with
    | true =>
      have kY42 : ∀ W, IX s b w b3 i5 wr5 ou5 fu5 t5 ⟨q0, ⟨q1, q2, q3⟩, q4, q5, q6⟩ W → Calls Tryz.prog 28 #[.pointer (some ⟨b, 0, none⟩), .int .u8 42] W fun e w' => e = .returned (.bool true) ∧ IX s b w b3 (i5 + 1) wr5 ou5 fu5 t5 ⟨q0, ⟨q1, q2, q3⟩, q4, q5, q6⟩ w' := fun W a => kY 42 _ _ _ _ _ _ _ W h42 a
      clear kN kY
      go_wp2_with (first
        | (go_at_call 28; (with_reducible refine (kY42 _ I5.out).mono ?_); rintro _ w7 ⟨rfl, a2⟩; have I7 : Hid (IX s b w b3 (i5 + 1) wr5 ou5 fu5 t5 ⟨q0, ⟨q1, q2, q3⟩, q4, q5, q6⟩ w7) := a2; obtain ⟨m0, m1, m2⟩ := BlkT.cs I7.out.me; simp only at m0 m1 m2; have mf := I7.out.me.frozen; have ml := I7.out.me.lt; clear a2)
        | (go_at_call 31; refine (star_P (P := fun g => w.heap.size + 1 ≤ g ∧ g < w7.heap.size ∧ g ≠ b3) (fun g hg => hg.2.1) I7.out.ho).mono ?_; rintro _ w8 ⟨⟨u0, ⟨u1, u2, u3⟩, u4, u5, u6⟩, rfl, ho8, bb8⟩; have I8 : Hid (IX s b w b3 (i5 + 1) wr5 ou5 fu5 t5 ⟨q0, ⟨q1, q2, q3⟩, q4, q5, q6⟩ w8) := I7.out.go (.of_bel bb8) (I7.out.ax.rd.bel bb8) I7.out.le; have H8 : Hid (HO (fun g => w.heap.size + 1 ≤ g ∧ g < w8.heap.size ∧ g ≠ b3) w8 (stT t5) ⟨u0, ⟨u1, u2, u3⟩, u4, u5, u6⟩) := ho8.imp' (by intro g hg; have h1 := bb8.size; have h2 := I7.out.me.lt; have h3 := I7.out.hb3; omega); clear ho8 bb8)
        | (go_at_call 33; refine (kept_any (P := fun g => w.heap.size + 1 ≤ g ∧ g < w8.heap.size ∧ g ≠ b3) I8.out.ax.rd (ok_st I8.out.rt) (fun g hg => hg.2.1) H8.out).mono ?_; rintro _ w9 ⟨⟨p0, ⟨p1, p2, p3⟩, p4, p5, p6⟩, rfl, ho9, ex9, b9⟩; have S9 : Hid (IX s b w b3 (i5 + 1) wr5 ou5 (fu5 || (keptM (stT t5)).2) (keptM (stT t5)).1 ⟨p0, ⟨p1, p2, p3⟩, p4, p5, p6⟩ (((w9.setCell ⟨b3, 0, none⟩ (.int .i64 p0)).setCell ⟨b3, 1, none⟩ (.slice p1 p2 p3)).setCell ⟨b3, 2, none⟩ (.slice p4 p5 p6))) := I8.out.step ex9 b9 (ho9.imp' (fun g hg => ⟨hg.1, Nat.lt_of_lt_of_le hg.2.1 ex9.size, hg.2.2⟩)) (right_kept _); have M9 : Hid (Blk w9 b3 (encT ⟨q0, ⟨q1, q2, q3⟩, q4, q5, q6⟩).toArray 26) := Blk.ex ex9 I8.out.me (by have := I8.out.ax.lt; have := I8.out.hb3; omega); obtain ⟨n0, n1, n2⟩ := BlkT.cs M9.out; have nf := M9.out.frozen; clear ho9 ex9 b9))
      generalize hW10 : World.setCell _ _ _ = W10 at S9 ⊢
      have S10 : Hid (IX s b w b3 (i5 + 1) wr5 ou5 (fu5 || (keptM (stT t5)).2) (keptM (stT t5)).1 ⟨p0, ⟨p1, p2, p3⟩, p4, p5, p6⟩ W10) := S9.out
      clear hW10 S9
      go_roundw
      case rel => exact ⟨i5 + 1, wr5, ou5, _, _, _, S10, SignD.step (c := 42) (F := stT) signs_42 D5.out h42, by have := L5.out; exact (by omega : i ≤ i5 + 1)⟩
      case measure => rw [posOf_blk S10.out.ax.rd, HP.out]; have := (headIs_drop h42).2; omega
    | false =>
    cases h43 : headIs 43 (s.data.toList.drop i5) with
    | true =>
      have kN42 : ∀ W, IX s b w b3 i5 wr5 ou5 fu5 t5 ⟨q0, ⟨q1, q2, q3⟩, q4, q5, q6⟩ W → Calls Tryz.prog 28 #[.pointer (some ⟨b, 0, none⟩), .int .u8 42] W fun e w' => e = .returned (.bool false) ∧ IX s b w b3 i5 wr5 ou5 fu5 t5 ⟨q0, ⟨q1, q2, q3⟩, q4, q5, q6⟩ w' := fun W a => kN 42 _ _ _ _ _ _ _ W h42 a
      have kY43 : ∀ W, IX s b w b3 i5 wr5 ou5 fu5 t5 ⟨q0, ⟨q1, q2, q3⟩, q4, q5, q6⟩ W → Calls Tryz.prog 28 #[.pointer (some ⟨b, 0, none⟩), .int .u8 43] W fun e w' => e = .returned (.bool true) ∧ IX s b w b3 (i5 + 1) wr5 ou5 fu5 t5 ⟨q0, ⟨q1, q2, q3⟩, q4, q5, q6⟩ w' := fun W a => kY 43 _ _ _ _ _ _ _ W h43 a
      clear kN kY
      go_wp2_with (first
        | (go_at_call 28; (with_reducible refine (kN42 _ I5.out).mono ?_); rintro _ w6 ⟨rfl, a2⟩; have I6 : Hid (IX s b w b3 i5 wr5 ou5 fu5 t5 ⟨q0, ⟨q1, q2, q3⟩, q4, q5, q6⟩ w6) := a2; obtain ⟨m0, m1, m2⟩ := BlkT.cs I6.out.me; clear a2)
        | (go_at_call 28; (with_reducible refine (kY43 _ I6.out).mono ?_); rintro _ w7 ⟨rfl, a2⟩; have I7 : Hid (IX s b w b3 (i5 + 1) wr5 ou5 fu5 t5 ⟨q0, ⟨q1, q2, q3⟩, q4, q5, q6⟩ w7) := a2; obtain ⟨m0, m1, m2⟩ := BlkT.cs I7.out.me; simp only at m0 m1 m2; have mf := I7.out.me.frozen; have ml := I7.out.me.lt; clear a2)
        | (go_at_call 71; refine (again_P I7.out.ax.rd I7.out.rt I7.out.held).mono ?_; rintro _ w9 ⟨⟨p0, ⟨p1, p2, p3⟩, p4, p5, p6⟩, rfl, ho9, ex9, b9⟩; have S9 : Hid (IX s b w b3 (i5 + 1) wr5 ou5 (fu5 || (keptM (plusT t5)).2) (keptM (plusT t5)).1 ⟨p0, ⟨p1, p2, p3⟩, p4, p5, p6⟩ (((w9.setCell ⟨b3, 0, none⟩ (.int .i64 p0)).setCell ⟨b3, 1, none⟩ (.slice p1 p2 p3)).setCell ⟨b3, 2, none⟩ (.slice p4 p5 p6))) := I7.out.step ex9 b9 (ho9.imp' (by intro g hg; have h2 := I7.out.me.lt; have h3 := I7.out.hb3; omega)) (right_kept _); have M9 : Hid (Blk w9 b3 (encT ⟨q0, ⟨q1, q2, q3⟩, q4, q5, q6⟩).toArray 26) := Blk.ex ex9 I7.out.me (by have := I7.out.ax.lt; have := I7.out.hb3; omega); obtain ⟨n0, n1, n2⟩ := BlkT.cs M9.out; have nf := M9.out.frozen; clear ho9 ex9 b9))
      generalize hW10 : World.setCell _ _ _ = W10 at S9 ⊢
      have S10 : Hid (IX s b w b3 (i5 + 1) wr5 ou5 (fu5 || (keptM (plusT t5)).2) (keptM (plusT t5)).1 ⟨p0, ⟨p1, p2, p3⟩, p4, p5, p6⟩ W10) := S9.out
      clear hW10 S9
      go_roundw
      case rel => exact ⟨i5 + 1, wr5, ou5, _, _, _, S10, SignD.step (c := 43) (F := plusT) signs_43 D5.out h43, by have := L5.out; exact (by omega : i ≤ i5 + 1)⟩
      case measure => rw [posOf_blk S10.out.ax.rd, HP.out]; have := (headIs_drop h43).2; omega
    | false =>
    cases h63 : headIs 63 (s.data.toList.drop i5) with
    | true =>
      have kN42 : ∀ W, IX s b w b3 i5 wr5 ou5 fu5 t5 ⟨q0, ⟨q1, q2, q3⟩, q4, q5, q6⟩ W → Calls Tryz.prog 28 #[.pointer (some ⟨b, 0, none⟩), .int .u8 42] W fun e w' => e = .returned (.bool false) ∧ IX s b w b3 i5 wr5 ou5 fu5 t5 ⟨q0, ⟨q1, q2, q3⟩, q4, q5, q6⟩ w' := fun W a => kN 42 _ _ _ _ _ _ _ W h42 a
      have kN43 : ∀ W, IX s b w b3 i5 wr5 ou5 fu5 t5 ⟨q0, ⟨q1, q2, q3⟩, q4, q5, q6⟩ W → Calls Tryz.prog 28 #[.pointer (some ⟨b, 0, none⟩), .int .u8 43] W fun e w' => e = .returned (.bool false) ∧ IX s b w b3 i5 wr5 ou5 fu5 t5 ⟨q0, ⟨q1, q2, q3⟩, q4, q5, q6⟩ w' := fun W a => kN 43 _ _ _ _ _ _ _ W h43 a
      have kY63 : ∀ W, IX s b w b3 i5 wr5 ou5 fu5 t5 ⟨q0, ⟨q1, q2, q3⟩, q4, q5, q6⟩ W → Calls Tryz.prog 28 #[.pointer (some ⟨b, 0, none⟩), .int .u8 63] W fun e w' => e = .returned (.bool true) ∧ IX s b w b3 (i5 + 1) wr5 ou5 fu5 t5 ⟨q0, ⟨q1, q2, q3⟩, q4, q5, q6⟩ w' := fun W a => kY 63 _ _ _ _ _ _ _ W h63 a
      clear kN kY
      go_wp2_with (first
        | (go_at_call 28; (with_reducible refine (kN42 _ I5.out).mono ?_); rintro _ w1 ⟨rfl, a2⟩; have I1 : Hid (IX s b w b3 i5 wr5 ou5 fu5 t5 ⟨q0, ⟨q1, q2, q3⟩, q4, q5, q6⟩ w1) := a2; obtain ⟨m0, m1, m2⟩ := BlkT.cs I1.out.me; clear a2)
        | (go_at_call 28; (with_reducible refine (kN43 _ I1.out).mono ?_); rintro _ w6 ⟨rfl, a2⟩; have I6 : Hid (IX s b w b3 i5 wr5 ou5 fu5 t5 ⟨q0, ⟨q1, q2, q3⟩, q4, q5, q6⟩ w6) := a2; obtain ⟨m0, m1, m2⟩ := BlkT.cs I6.out.me; clear a2)
        | (go_at_call 28; (with_reducible refine (kY63 _ I6.out).mono ?_); rintro _ w7 ⟨rfl, a2⟩; have I7 : Hid (IX s b w b3 (i5 + 1) wr5 ou5 fu5 t5 ⟨q0, ⟨q1, q2, q3⟩, q4, q5, q6⟩ w7) := a2; obtain ⟨m0, m1, m2⟩ := BlkT.cs I7.out.me; simp only at m0 m1 m2; have mf := I7.out.me.frozen; have ml := I7.out.me.lt; clear a2)
        | (have I8 : Hid (IX s b w b3 (i5 + 1) wr5 ou5 fu5 t5 ⟨q0, ⟨q1, q2, q3⟩, q4, q5, q6⟩ (w7.alloc (.cells #[.int .i64 q0, .slice q1 q2 q3, .slice q4 q5 q6, .int .i64 2, .slice none 0 0, .slice none 0 0] 26))) := I7.out.go (.of_bel (bel_alloc _ _)) (I7.out.ax.rd.alloc _) I7.out.le; go_at_call 33; refine (kept_any (P := fun g => w.heap.size + 1 ≤ g ∧ g < (w7.alloc (.cells #[.int .i64 q0, .slice q1 q2 q3, .slice q4 q5 q6, .int .i64 2, .slice none 0 0, .slice none 0 0] 26)).heap.size ∧ g ≠ b3) I8.out.ax.rd (ok_opt I8.out.rt) (fun g hg => hg.2.1) (HO_sub2 I8.out.ho (HO_none 2) (Blk.new _ _ _) rfl ⟨by have := I7.out.me.lt; have := I7.out.hb3; omega, by simp, by have := I7.out.me.lt; omega⟩)).mono ?_; rintro _ w9 ⟨⟨p0, ⟨p1, p2, p3⟩, p4, p5, p6⟩, rfl, ho9, ex9, b9⟩; have S9 : Hid (IX s b w b3 (i5 + 1) wr5 ou5 (fu5 || (keptM (optT t5)).2) (keptM (optT t5)).1 ⟨p0, ⟨p1, p2, p3⟩, p4, p5, p6⟩ (((w9.setCell ⟨b3, 0, none⟩ (.int .i64 p0)).setCell ⟨b3, 1, none⟩ (.slice p1 p2 p3)).setCell ⟨b3, 2, none⟩ (.slice p4 p5 p6))) := I8.out.step ex9 b9 (ho9.imp' (fun g hg => ⟨hg.1, Nat.lt_of_lt_of_le hg.2.1 ex9.size, hg.2.2⟩)) (right_kept _); have M9 : Hid (Blk w9 b3 (encT ⟨q0, ⟨q1, q2, q3⟩, q4, q5, q6⟩).toArray 26) := Blk.ex ex9 I8.out.me (by have := I8.out.ax.lt; have := I8.out.hb3; omega); obtain ⟨n0, n1, n2⟩ := BlkT.cs M9.out; have nf := M9.out.frozen; clear ho9 ex9 b9))
      generalize hW10 : World.setCell _ _ _ = W10 at S9 ⊢
      have S10 : Hid (IX s b w b3 (i5 + 1) wr5 ou5 (fu5 || (keptM (optT t5)).2) (keptM (optT t5)).1 ⟨p0, ⟨p1, p2, p3⟩, p4, p5, p6⟩ W10) := S9.out
      clear hW10 S9
      go_roundw
      case rel => exact ⟨i5 + 1, wr5, ou5, _, _, _, S10, SignD.step (c := 63) (F := optT) signs_63 D5.out h63, by have := L5.out; exact (by omega : i ≤ i5 + 1)⟩
      case measure => rw [posOf_blk S10.out.ax.rd, HP.out]; have := (headIs_drop h63).2; omega
    | false =>
      have kN42 : ∀ W, IX s b w b3 i5 wr5 ou5 fu5 t5 ⟨q0, ⟨q1, q2, q3⟩, q4, q5, q6⟩ W → Calls Tryz.prog 28 #[.pointer (some ⟨b, 0, none⟩), .int .u8 42] W fun e w' => e = .returned (.bool false) ∧ IX s b w b3 i5 wr5 ou5 fu5 t5 ⟨q0, ⟨q1, q2, q3⟩, q4, q5, q6⟩ w' := fun W a => kN 42 _ _ _ _ _ _ _ W h42 a
      have kN43 : ∀ W, IX s b w b3 i5 wr5 ou5 fu5 t5 ⟨q0, ⟨q1, q2, q3⟩, q4, q5, q6⟩ W → Calls Tryz.prog 28 #[.pointer (some ⟨b, 0, none⟩), .int .u8 43] W fun e w' => e = .returned (.bool false) ∧ IX s b w b3 i5 wr5 ou5 fu5 t5 ⟨q0, ⟨q1, q2, q3⟩, q4, q5, q6⟩ w' := fun W a => kN 43 _ _ _ _ _ _ _ W h43 a
      have kN63 : ∀ W, IX s b w b3 i5 wr5 ou5 fu5 t5 ⟨q0, ⟨q1, q2, q3⟩, q4, q5, q6⟩ W → Calls Tryz.prog 28 #[.pointer (some ⟨b, 0, none⟩), .int .u8 63] W fun e w' => e = .returned (.bool false) ∧ IX s b w b3 i5 wr5 ou5 fu5 t5 ⟨q0, ⟨q1, q2, q3⟩, q4, q5, q6⟩ w' := fun W a => kN 63 _ _ _ _ _ _ _ W h63 a
      clear kN kY
      go_wp2_with (first
        | (go_at_call 28; (with_reducible refine (kN42 _ I5.out).mono ?_); rintro _ w1 ⟨rfl, a2⟩; have I1 : Hid (IX s b w b3 i5 wr5 ou5 fu5 t5 ⟨q0, ⟨q1, q2, q3⟩, q4, q5, q6⟩ w1) := a2; obtain ⟨m0, m1, m2⟩ := BlkT.cs I1.out.me; clear a2)
        | (go_at_call 28; (with_reducible refine (kN43 _ I1.out).mono ?_); rintro _ w6 ⟨rfl, a2⟩; have I6 : Hid (IX s b w b3 i5 wr5 ou5 fu5 t5 ⟨q0, ⟨q1, q2, q3⟩, q4, q5, q6⟩ w6) := a2; obtain ⟨m0, m1, m2⟩ := BlkT.cs I6.out.me; clear a2)
        | (go_at_call 28; (with_reducible refine (kN63 _ I6.out).mono ?_); rintro _ w7 ⟨rfl, a2⟩; have I7 : Hid (IX s b w b3 i5 wr5 ou5 fu5 t5 ⟨q0, ⟨q1, q2, q3⟩, q4, q5, q6⟩ w7) := a2; obtain ⟨m0, m1, m2⟩ := BlkT.cs I7.out.me; simp only at m0 m1 m2; obtain ⟨y0, y1, y2⟩ := BlkT.cs I7.out.ax.res; have z0 := I7.out.ax.res.frozen; clear a2))
      refine bodyPost_ret (v := PC.v ⟨q0, ⟨q1, q2, q3⟩, ⟨q4, q5, q6⟩⟩) ?_ rfl (I7.out.ax.fin (I7.out.ho.imp' (fun g hg => ⟨hg.1, hg.2.1⟩)) I7.out.rt L5.out I7.out.le (D5.out.fin h42 h43 h63) _ _ _)
      simp [results, Tryz.results57]
      have B := blk_put3 I7.out.ax.res ⟨q0, ⟨q1, q2, q3⟩, ⟨q4, q5, q6⟩⟩
      simp only at B
      generalize hW7 : World.setCell _ _ _ = W7 at B ⊢
      exact run_ptv B

end Go.Proofs.YtihnmamejfoeeaaGreatDoor

namespace Go.Proofs.YtihnmamejfoeeaaGreatDoor
open Go.RowKit

theorem ok_list' {k : Int} {ts : List Tree} (hl : ts.length ≤ 1000000) (h : ∀ t ∈ ts, rightT t = true) : okT (.mk k [] ts) :=
  (okT_mk _ _ _).2 ⟨by simp, by omega, okL_of fun t ht => ok_right (h t ht)⟩

/-- A list of parts in memory: its pattern lies in block b3, its Subs in a row of the call's own. -/
structure LI (s : ByteArray) (b : Nat) (w : World) (b3 i : Nat) (wr ou fu : Bool) (k : Int) (ts : List Tree) (bs : Sl) (rows : List PC) (W : World) : Prop where
  ax : AX s b w i wr ou fu W
  me : Blk W b3 (encT ⟨k, ⟨none, 0, 0⟩, bs⟩).toArray 26
  row : OwnT 0 W bs.v rows
  rowP : ∀ g, bs.v.ownBlock = some g → w.heap.size + 1 ≤ g ∧ g ≠ b3
  hos : HOs (fun g => w.heap.size + 1 ≤ g ∧ g < W.heap.size ∧ g ≠ b3 ∧ bs.v.ownBlock ≠ some g) W ts rows
  hb3 : w.heap.size < b3
  rt : ∀ t ∈ ts, rightT t = true
  le : i ≤ s.size
  len : ts.length ≤ i + 4

theorem LI.go {s : ByteArray} {b : Nat} {w : World} {b3 i i' : Nat} {wr ou fu wr' ou' fu' : Bool} {k : Int} {ts : List Tree} {bs : Sl} {rows : List PC} {W W' : World} (h : LI s b w b3 i wr ou fu k ts bs rows W) (g : Ex b W W') (hb : BlkR W' b s i' wr' ou' fu') (hi : i' ≤ s.size) (hii : i ≤ i') : LI s b w b3 i' wr' ou' fu' k ts bs rows W' :=
  ⟨h.ax.go g hb, Blk.ex g h.me (by have := h.ax.lt; have := h.hb3; omega), h.row.same (fun q hq => g.block q (h.row.lt hq).2 (by have := (h.rowP q hq).1; have := h.ax.lt; omega)), h.rowP, HOs.same (fun _ h1 => ⟨h1.1, Nat.lt_of_lt_of_le h1.2.1 g.size, h1.2.2⟩) (fun q h1 => g.block q h1.2.1 (by have := h.ax.lt; omega)) h.hos, h.hb3, h.rt, hi, Nat.le_trans h.len (by omega)⟩
theorem LI.bel {s : ByteArray} {b : Nat} {w : World} {b3 i : Nat} {wr ou fu : Bool} {k : Int} {ts : List Tree} {bs : Sl} {rows : List PC} {W W' : World} (h : LI s b w b3 i wr ou fu k ts bs rows W) (g : Below W.heap.size W W') : LI s b w b3 i wr ou fu k ts bs rows W' := h.go (.of_bel g) (h.ax.rd.bel g) h.le (Nat.le_refl _)

/-- One part more behind the row. -/
theorem LI.step {s : ByteArray} {b : Nat} {w : World} {b3 i : Nat} {wr ou fu : Bool} {k : Int} {ts : List Tree} {bs : Sl} {rows : List PC} {W W' : World} (h : LI s b w b3 i wr ou fu k ts bs rows W) {t : Tree} {r : PC} {lo : Nat} (hr : HO (fun g => lo ≤ g ∧ g < W.heap.size) W t r) (hk : rightT t = true) (hlo3 : b3 < lo) (hlo4 : ∀ g, bs.v.ownBlock = some g → g < lo) (hlen : ts.length + 1 ≤ i + 4)
    {g n cap : Nat} (how : OwnT 0 W' (.slice (some ⟨g, 0, none⟩) n cap) (rows ++ [r])) (gr : W.grownBy W' bs.v.ownBlock) (hg : bs.v.ownBlock = some g ∨ g = W.heap.size) :
    LI s b w b3 i wr ou fu k (ts ++ [t]) ⟨some ⟨g, 0, none⟩, n, cap⟩ (rows ++ [r]) (W'.setCell ⟨b3, 2, none⟩ (.slice (some ⟨g, 0, none⟩) n cap)) := by
  have hb3 := h.hb3
  have m3 := h.me.lt
  have hlt := h.ax.lt
  have hk' : ∀ q, bs.v.ownBlock = some q → w.heap.size ≤ q := fun q hq => by have := (h.rowP q hq).1; omega
  have hgb : w.heap.size + 1 ≤ g ∧ g ≠ b3 := by
    rcases hg with hg | hg
    · exact h.rowP g hg
    · have := h.ax.res.lt; omega
  have hnew : ∀ q, q < W.heap.size → bs.v.ownBlock ≠ some q → (Sl.v ⟨some ⟨g, 0, none⟩, n, cap⟩).ownBlock ≠ some q := fun q h1 h2 e => by
    injection e with e
    have e : g = q := e
    subst e
    rcases hg with hg | hg
    · exact h2 hg
    · omega
  have hheap : ∀ q, q < W.heap.size → q ≠ b3 → bs.v.ownBlock ≠ some q → (W'.setCell ⟨b3, 2, none⟩ (.slice (some ⟨g, 0, none⟩) n cap)).heap[q]? = W.heap[q]? := fun q h1 h2 h3 => (Below.heap_setCell _ _ _ _ h2).trans (gr.block q h1 (fun e => h3 e.symm))
  have hsz : (W'.setCell ⟨b3, 2, none⟩ (.slice (some ⟨g, 0, none⟩) n cap)).heap.size = W'.heap.size := by simp
  have hex : Ex b w (W'.setCell ⟨b3, 2, none⟩ (.slice (some ⟨g, 0, none⟩) n cap)) := (h.ax.ex.grown gr hk').setNew (by omega) 2 _
  refine ⟨⟨hex, (h.ax.res.grown gr (fun e => by have := (h.rowP _ e).1; omega)).other (by show w.heap.size ≠ b3; omega) _, (h.ax.rd.grown gr (fun e => by have := (h.rowP _ e).1; omega)).other (by show b ≠ b3; omega) _, hlt⟩, ?_, how.setOther (by intro e; injection e with e; exact hgb.2 e) _, ?_, ?_, hb3, ?_, h.le, by simp; omega⟩
  · exact (h.me.grown gr (fun e => (h.rowP _ e).2 rfl)).set 2 (.slice (some ⟨g, 0, none⟩) n cap)
  · intro g1 hg1
    injection hg1 with hg1
    have hg1 : g = g1 := hg1
    subst hg1
    exact hgb
  · refine HOs.snoc (HOs.same ?_ ?_ h.hos) (HO.same ?_ ?_ hr)
    · intro q ⟨h1, h2, h3, h4⟩
      exact ⟨h1, by rw [hsz]; exact Nat.lt_of_lt_of_le h2 gr.size, h3, hnew q h2 h4⟩
    · intro q ⟨h1, h2, h3, h4⟩
      exact hheap q h2 h3 h4
    · intro q ⟨h1, h2⟩
      exact ⟨by omega, by rw [hsz]; exact Nat.lt_of_lt_of_le h2 gr.size, by omega, hnew q h2 (fun e => by have := hlo4 q e; omega)⟩
    · intro q ⟨h1, h2⟩
      exact hheap q h2 (by omega) (fun e => by have := hlo4 q e; omega)
  · intro u hu
    rcases List.mem_append.1 hu with hu | hu
    · exact h.rt u hu
    · simp at hu; subst hu; exact hk
theorem LI.ho {s : ByteArray} {b : Nat} {w : World} {b3 i : Nat} {wr ou fu : Bool} {k : Int} {ts : List Tree} {bs : Sl} {rows : List PC} {W : World} (h : LI s b w b3 i wr ou fu k ts bs rows W) : HO (fun g => w.heap.size + 1 ≤ g ∧ g < W.heap.size ∧ g ≠ b3) W (.mk k [] ts) ⟨k, ⟨none, 0, 0⟩, bs⟩ :=
  (HO_mk _ _ _ _ _ _).2 ⟨rfl, ⟨OwnX.nil _ _ _ _ _, fun g hg => by cases hg⟩, rows, ⟨h.row, fun g hg => ⟨(h.rowP g hg).1, (h.row.lt hg).2, (h.rowP g hg).2⟩⟩, HOs.same (fun _ h1 => ⟨h1.1, h1.2.1, h1.2.2.1⟩) (fun _ _ => rfl) h.hos⟩
theorem LI.rlen {s : ByteArray} {b : Nat} {w : World} {b3 i : Nat} {wr ou fu : Bool} {k : Int} {ts : List Tree} {bs : Sl} {rows : List PC} {W : World} (h : LI s b w b3 i wr ou fu k ts bs rows W) : rows.length ≤ i + 4 := by rw [h.hos.len]; exact h.len
theorem LI.me_grown {s : ByteArray} {b : Nat} {w : World} {b3 i : Nat} {wr ou fu : Bool} {k : Int} {ts : List Tree} {bs : Sl} {rows : List PC} {W W' : World} (h : LI s b w b3 i wr ou fu k ts bs rows W) (gr : W.grownBy W' bs.v.ownBlock) : Blk W' b3 (encT ⟨k, ⟨none, 0, 0⟩, bs⟩).toArray 26 := h.me.grown gr (fun e => (h.rowP _ e).2 rfl)
theorem LI.nil {s : ByteArray} {b : Nat} {w : World} {i : Nat} {wr ou fu : Bool} {k : Int} {W : World} (h : AX s b w i wr ou fu W) (hi : i ≤ s.size) : LI s b w W.heap.size i wr ou fu k [] ⟨none, 0, 0⟩ [] (W.alloc (.cells #[.int .i64 k, .slice none 0 0, .slice none 0 0] 26)) :=
  ⟨h.bel (bel_alloc _ _), Blk.new _ _ _, OwnX.nil _ _ _ _ _, (fun g hg => by cases hg), (HOs_nil _ _ _).2 rfl, h.res.lt, (fun t ht => by cases ht), hi, by simp⟩
theorem LI.one {s : ByteArray} {b : Nat} {w : World} {i : Nat} {wr ou fu : Bool} {k : Int} {W : World} {t : Tree} {r : PC} (h : AX s b w i wr ou fu W) (hr : HO (fun g => w.heap.size + 1 ≤ g ∧ g < W.heap.size) W t r) (hk : rightT t = true) (hi : i ≤ s.size) :
    LI s b w (W.heap.size + 1) i wr ou fu k [t] ⟨some ⟨W.heap.size, 0, none⟩, 1, 1⟩ [r] ((W.alloc (.cells #[.int .i64 r.k, .slice r.s.a r.s.n r.s.c, .slice r.b.a r.b.n r.b.c] 26)).alloc (.cells #[.int .i64 k, .slice none 0 0, .slice (some ⟨W.heap.size, 0, none⟩) 1 1] 26)) := by
  have hB : Below W.heap.size W ((W.alloc (.cells #[.int .i64 r.k, .slice r.s.a r.s.n r.s.c, .slice r.b.a r.b.n r.b.c] 26)).alloc (.cells #[.int .i64 k, .slice none 0 0, .slice (some ⟨W.heap.size, 0, none⟩) 1 1] 26)) := bstep (bel_alloc _ _) (bel_alloc _ _)
  have hl := h.res.lt
  refine ⟨h.bel hB, Blk.new' _ _ _ _ (by simp), OwnX.lit (l := [r]) encT_len ((Blk.new _ _ _).alloc _) rfl (Nat.zero_le _) (by simp), ?_, ?_, by omega, ?_, hi, by simp <;> omega⟩
  · intro g hg
    injection hg with hg
    have hg : W.heap.size = g := hg
    omega
  · refine (HOs_cons _ _ _ _ _).2 ⟨r, [], rfl, HO.same ?_ (fun q hq => hB.block q hq.2) hr, (HOs_nil _ _ _).2 rfl⟩
    intro q hq
    refine ⟨hq.1, by simp; omega, by omega, ?_⟩
    intro e
    injection e with e
    have e : W.heap.size = q := e
    omega
  · intro u hu; simp at hu; subst hu; exact hk

/-! ### What is left to be read -/

def finM (k : Int) (x : Option (List Tree × Bool × Bool × Bs)) : Option Rd :=
  match x with
  | none => none
  | some (l, o, f, r') => some ⟨(singleM k l).1, o, f || (singleM k l).2, r'⟩

def SepD (s : ByteArray) (wr0 ou0 fu0 : Bool) (M : Option Rd) (one : Bs → Option Rd) (c : UInt8) (k : Int) (ts : List Tree) (i : Nat) (wr ou fu : Bool) : Prop :=
  (wr0 = true → wr = true) ∧ (wr0 = false → (M = none ∧ wr = true) ∨ (wr = false ∧ ∃ o f q, ou = (ou0 || o) ∧ fu = (fu0 || f) ∧ (s.data.toList.drop i).length < q ∧ M = finM k (sepM one c q ts o f (s.data.toList.drop i))))

theorem SepD.start {s : ByteArray} {one : Bs → Option Rd} {c : UInt8} {k : Int} {r : Bs} {t : Tree} {i : Nat} {wr0 ou0 fu0 wr ou fu : Bool} (h : Does s wr0 ou0 fu0 (one r) t i wr ou fu) : SepD s wr0 ou0 fu0 (listM one c k r) one c k [t] i wr ou fu := by
  refine ⟨h.1, fun hw => ?_⟩
  rcases h.2 hw with ⟨h1, h2⟩ | ⟨x, h1, h2, h3, h4, h5, h6⟩
  · left; unfold listM; rw [h1]; exact ⟨rfl, h2⟩
  · right
    refine ⟨h2, x.o, x.f, x.r.length + 1, h5, h6, by rw [h4]; omega, ?_⟩
    unfold listM
    rw [h1, h3, h4]
    rfl
theorem SepD.step {s : ByteArray} {M : Option Rd} {one : Bs → Option Rd} {c : UInt8} {k : Int} {ts : List Tree} {t : Tree} {i i2 : Nat} {wr0 ou0 fu0 wr ou fu wr2 ou2 fu2 : Bool} (h : SepD s wr0 ou0 fu0 M one c k ts i wr ou fu) (hc : headIs c (s.data.toList.drop i) = true) (hd : Does s wr ou fu (one (s.data.toList.drop (i + 1))) t i2 wr2 ou2 fu2) (hi : i + 1 ≤ i2) (h2s : i2 ≤ s.size) : SepD s wr0 ou0 fu0 M one c k (ts ++ [t]) i2 wr2 ou2 fu2 := by
  refine ⟨fun hw => hd.1 (h.1 hw), fun hw => ?_⟩
  rcases h.2 hw with ⟨h1, h2⟩ | ⟨h1, o, f, q, h2, h3, h4, h5⟩
  · exact Or.inl ⟨h1, hd.1 h2⟩
  · rw [(headIs_drop hc).1] at h4 h5
    obtain ⟨q', rfl⟩ : ∃ q', q = q' + 1 := ⟨q - 1, by simp at h4; omega⟩
    rw [sepM, if_pos rfl] at h5
    rcases hd.2 h1 with ⟨a1, a2⟩ | ⟨x, a1, a2, a3, a4, a5, a6⟩
    · left
      rw [a1] at h5
      exact ⟨h5, a2⟩
    · right
      rw [a1] at h5
      refine ⟨a2, o || x.o, f || x.f, q', by rw [a5, h2, Bool.or_assoc], by rw [a6, h3, Bool.or_assoc], ?_, ?_⟩
      · rw [List.length_cons, drop_len] at h4
        rw [drop_len]
        omega
      · rw [a3, a4]; exact h5
theorem sep_stop' {one : Bs → Option Rd} {c : UInt8} {k : Nat} {l : List Tree} {o f : Bool} {r : Bs} (h : headIs c r = false) : sepM one c (k + 1) l o f r = some (l, o, f, r) := by
  cases r with
  | nil => rw [sepM]
  | cons d r =>
    simp [headIs_cons] at h
    rw [sepM]
    simp [h]
theorem SepD.fin {s : ByteArray} {M : Option Rd} {one : Bs → Option Rd} {c : UInt8} {k : Int} {ts : List Tree} {i : Nat} {wr0 ou0 fu0 wr ou fu : Bool} (h : SepD s wr0 ou0 fu0 M one c k ts i wr ou fu) (hc : headIs c (s.data.toList.drop i) = false) : Does s wr0 ou0 fu0 M (singleM k ts).1 i wr ou (fu || (singleM k ts).2) := by
  refine ⟨h.1, fun hw => ?_⟩
  rcases h.2 hw with h1 | ⟨h1, o, f, q, h2, h3, h4, h5⟩
  · exact Or.inl h1
  · right
    obtain ⟨q', rfl⟩ : ∃ q', q = q' + 1 := ⟨q - 1, by omega⟩
    rw [sep_stop' hc] at h5
    exact ⟨_, h5, h1, rfl, rfl, h2, by rw [h3, Bool.or_assoc]⟩

end Go.Proofs.YtihnmamejfoeeaaGreatDoor
