/-
  The document's examples, as trees.
  The document's examples of texts: what they say; what a small pattern's text is.
  The walk of alive: the document's examples hold.
-/
import Derived.Test.YtjjlkjfhhpogaaaGreatDoorTm
import Derived.Test.YtjjlkjfhhpogaaaGreatDoorMa
import Derived.Test.YtjjlkjfhhpogaaaGreatDoorRg2
import Derived.Test.YtjjlkjfhhpogaaaGreatDoorPr4
import Derived.Test.YtjjlkjfhhpogaaaGreatDoorRt
namespace Go.Proofs.YtjjlkjfhhpogaaaGreatDoor

theorem takes_one {k : Int} (hk : k = 1) (set : List (Int × Int)) (s : List Int) : takes (.mk k set []) s ↔ ∃ n, s = [n] ∧ inSet set n = true := by
  subst hk
  rw [takes_mk]
  constructor
  · rintro (⟨_, h⟩ | ⟨h, _⟩ | ⟨h, _⟩ | ⟨h, _⟩)
    · exact h
    · cases h
    · cases h
    · cases h
  · intro h; exact Or.inl ⟨rfl, h⟩
theorem takes_cat (set : List (Int × Int)) (subs : List Tree) (s : List Int) : takes (.mk 2 set subs) s ↔ takesCat subs s := by
  rw [takes_mk]
  constructor
  · rintro (⟨h, _⟩ | ⟨_, h⟩ | ⟨h, _⟩ | ⟨h, _⟩)
    · cases h
    · exact h
    · cases h
    · cases h
  · intro h; exact Or.inr (Or.inl ⟨rfl, h⟩)
theorem takes_alt (set : List (Int × Int)) (subs : List Tree) (s : List Int) : takes (.mk 3 set subs) s ↔ takesAlt subs s := by
  rw [takes_mk]
  constructor
  · rintro (⟨h, _⟩ | ⟨h, _⟩ | ⟨_, h⟩ | ⟨h, _⟩)
    · cases h
    · cases h
    · exact h
    · cases h
  · intro h; exact Or.inr (Or.inr (Or.inl ⟨rfl, h⟩))
theorem takes_star (set : List (Int × Int)) (t : Tree) (s : List Int) : takes (.mk 4 set [t]) s ↔ StarL (takes t) s := by
  have e : takesAlt [t] = takes t := by funext s; exact propext (takesAlt_one t s)
  rw [takes_mk, e]
  constructor
  · rintro (⟨h, _⟩ | ⟨h, _⟩ | ⟨h, _⟩ | ⟨_, h⟩)
    · cases h
    · cases h
    · cases h
    · exact h
  · intro h; exact Or.inr (Or.inr (Or.inr ⟨rfl, h⟩))

theorem takes_five (s : List Int) : takes fiveT s ↔ s = [5] := by
  rw [fiveT, takes_one rfl]
  constructor
  · rintro ⟨n, rfl, h⟩
    simp [inSet] at h
    have : n = 5 := by omega
    subst this
    rfl
  · rintro rfl
    exact ⟨5, rfl, by simp [inSet]⟩
theorem takes_any (s : List Int) : takes anyT s ↔ ∃ n, s = [n] ∧ 0 ≤ n ∧ n ≤ 4294967295 := by
  rw [anyT, takes_one rfl]
  constructor
  · rintro ⟨n, rfl, h⟩
    simp [inSet] at h
    exact ⟨n, rfl, h⟩
  · rintro ⟨n, rfl, h⟩
    exact ⟨n, rfl, by simp [inSet]; exact h⟩

/-- Cat of five and Star of Any. -/
def exT : Tree := .mk 2 [] [fiveT, starT anyT]
theorem right_ex : rightT exT = true := by
  simp [rightT, exT, starT, fiveT, anyT, size_mk, sizeL_cons, sizeL_nil, deep_mk, deepL_cons, deepL_nil, kindsT_mk, kindsL_cons, kindsL_nil, okAlone]
theorem star_anyT : ∀ (s : List Int), (∀ n ∈ s, 0 ≤ n ∧ n ≤ 4294967295) → StarL (takes anyT) s
  | [], _ => .nil
  | n :: s, h => StarL.cons (a := [n]) ((takes_any _).2 ⟨n, rfl, h n (by simp)⟩) (star_anyT s fun m hm => h m (by simp [hm]))
theorem takes_ex {s : List Int} (h : ∀ n ∈ s, 0 ≤ n ∧ n ≤ 4294967295) : takes exT (5 :: s) := by
  rw [exT, takes_cat, takesCat_cons]
  refine ⟨[5], s, rfl, (takes_five _).2 rfl, ?_⟩
  rw [takesCat_cons]
  exact ⟨s, [], by simp, by rw [starT, takes_star]; exact star_anyT s h, (takesCat_nil _).2 rfl⟩
theorem not_takes_ex : ¬ takes exT [7] := by
  rw [exT, takes_cat, takesCat_cons]
  rintro ⟨a, b, h1, h2, _⟩
  rw [takes_five] at h2
  subst h2
  simp at h1
theorem match_ex1 : matchP exT [5] := ⟨right_ex, by simp, takes_ex (s := []) (by simp)⟩
theorem match_ex2 : matchP exT [5, 7, 9] := ⟨right_ex, by simp, takes_ex (s := [7, 9]) (by simp)⟩
theorem match_ex3 : ¬ matchP exT [7] := fun h => not_takes_ex h.2.2
theorem match_alt : ¬ matchP (.mk 3 [] []) [] := fun h => by
  have := h.2.2
  rw [takes_alt, takesAlt_nil] at this
  exact this
theorem match_cat : matchP (.mk 2 [] []) [] := by
  refine ⟨?_, by simp, ?_⟩
  · simp [rightT, size_mk, sizeL_nil, deep_mk, deepL_nil, kindsT_mk, kindsL_nil, okAlone]
  · rw [takes_cat, takesCat_nil]

/-- Five once or twice. -/
def oneTwo : Tree := rowT fiveT 1 1 false
theorem right_five : rightT fiveT = true := by
  simp [rightT, fiveT, size_mk, sizeL_nil, deep_mk, deepL_nil, kindsT_mk, kindsL_nil, okAlone]
theorem right_oneTwo : rightT oneTwo = true := by
  simp [rightT, oneTwo, rowT, rowL, mayT, catT, fiveT, size_mk, sizeL_cons, sizeL_nil, deep_mk, deepL_cons, deepL_nil, kindsT_mk, kindsL_cons, kindsL_nil, okAlone]
theorem times_five : timesT fiveT 1 2 = (oneTwo, 0) := by
  have h := timesT_4 (t := fiveT) (a := 1) (m := 1) (b := 2) (e := false) right_five (by omega) (by decide) (by decide)
  rw [show rowT fiveT 1 1 false = oneTwo from rfl, right_oneTwo] at h
  exact h
theorem match_oneTwo : matchP oneTwo [5, 5] := by
  refine ⟨right_oneTwo, by simp, ?_⟩
  rw [oneTwo, rowT, takes_cat]
  show takesCat [fiveT, mayT fiveT] [5, 5]
  rw [takesCat_cons]
  refine ⟨[5], [5], rfl, (takes_five _).2 rfl, ?_⟩
  rw [takesCat_cons]
  exact ⟨[5], [], rfl, by rw [mayT, takes_alt, takesAlt_cons]; exact Or.inl ((takes_five _).2 rfl), (takesCat_nil _).2 rfl⟩
theorem not_match_oneTwo : ¬ matchP oneTwo [] := by
  rintro ⟨_, _, h⟩
  rw [oneTwo, rowT, takes_cat] at h
  have h : takesCat [fiveT, mayT fiveT] [] := h
  rw [takesCat_cons] at h
  obtain ⟨a, b, h1, h2, _⟩ := h
  rw [takes_five] at h2
  subst h2
  simp at h1

end Go.Proofs.YtjjlkjfhhpogaaaGreatDoor

namespace Go.Proofs.YtjjlkjfhhpogaaaGreatDoor
open Go.RowKit

def tx1 : Bs := [94, 54, 53, 48, 48, 48, 95, 91, 54, 52, 53, 49, 50, 45, 54, 53, 53, 51, 52, 93, 42, 36]
def pT : Tree := .mk 2 [] [.mk 1 [(65000,65000)] [], .mk 4 [] [.mk 1 [(64512,65534)] []]]
def qT : Tree := .mk 2 [] [.mk 4 [] [.mk 1 [(0,4294967295)] []], .mk 1 [(7,7)] [], .mk 4 [] [.mk 1 [(0,4294967295)] []]]
def aT : Tree := .mk 3 [] [.mk 1 [(1,1)] [], .mk 2 [] []]
theorem parse1 : parseM tx1 = (pT, 0) := by kernel_rfl
theorem parse2 : parseM [55] = (qT, 0) := by kernel_rfl
theorem parse3 : parseM [48,55] = (zeT, 4) := by kernel_rfl
theorem parse4 : parseM [91, 53, 45, 52, 93] = (zeT, 5) := by kernel_rfl
theorem right_a : rightT aT = true := by kernel_rfl
theorem nf_11 : nf [(1, 1)] = [(1, 1)] := nf_eq ⟨by simp, List.pairwise_singleton _ _⟩ fun _ => rfl
theorem dec_1 : dec 1 = [49] := by
  show Lib.decDigits 1 = [49]
  rw [dec_small (by omega)]
  rfl
theorem text_1 (p : Nat) : textT styI (.mk 1 [(1, 1)] []) p = [49] := by
  rw [textT_mk]
  simp only [if_true, nf_11, setX, spanX, List.map, List.length, brX]
  simp [dec_1, Lib.join]
theorem text_none : textT styI (.mk 2 [] []) 1 = [] := by
  rw [textT_mk]
  simp [textsT_map, Lib.join, brX]
theorem whole_a : printM aT = ([94, 49, 124, 36], 0) := by
  unfold printM
  rw [if_pos right_a, wholeX, aT, textT_mk]
  simp [textsT_map, text_1, text_none, Lib.join, brX]

theorem takes_in (lo hi : Int) (s : List Int) : takes (.mk 1 [(lo, hi)] []) s ↔ ∃ n, s = [n] ∧ lo ≤ n ∧ n ≤ hi := by
  rw [takes_one rfl]
  simp [inSet]
theorem star_in {lo hi : Int} : ∀ (s : List Int), (∀ n ∈ s, lo ≤ n ∧ n ≤ hi) → StarL (takes (.mk 1 [(lo, hi)] [])) s
  | [], _ => .nil
  | n :: s, h => StarL.cons (a := [n]) ((takes_in _ _ _).2 ⟨n, rfl, h n (by simp)⟩) (star_in s fun m hm => h m (by simp [hm]))
theorem takes_p1 : takes pT [65000, 64600, 65534] := by
  rw [pT, takes_cat, takesCat_cons]
  refine ⟨[65000], [64600, 65534], rfl, (takes_in _ _ _).2 ⟨_, rfl, by omega, by omega⟩, ?_⟩
  rw [takesCat_cons]
  exact ⟨[64600, 65534], [], by simp, by rw [takes_star]; exact star_in _ (by simp), (takesCat_nil _).2 rfl⟩
theorem not_takes_p2 : ¬ takes pT [64600] := by
  rw [pT, takes_cat, takesCat_cons]
  rintro ⟨a, b, h1, h2, _⟩
  rw [takes_in] at h2
  obtain ⟨n, rfl, h3, h4⟩ := h2
  simp at h1
  omega
theorem takes_q : takes qT [3, 7, 9] := by
  rw [qT, takes_cat, takesCat_cons]
  refine ⟨[3], [7, 9], rfl, by rw [takes_star]; exact star_in _ (by simp), ?_⟩
  rw [takesCat_cons]
  refine ⟨[7], [9], rfl, (takes_in _ _ _).2 ⟨_, rfl, by omega, by omega⟩, ?_⟩
  rw [takesCat_cons]
  exact ⟨[9], [], by simp, by rw [takes_star]; exact star_in _ (by simp), (takesCat_nil _).2 rfl⟩
theorem size_p : size pT ≤ 200 := by decide
theorem size_q : size qT ≤ 200 := by decide
theorem kinds_p : kindsT pT = true := by kernel_rfl
theorem kinds_q : kindsT qT = true := by kernel_rfl
theorem ok_a : okT aT := (okT_mk _ _ _).2 ⟨by simp, by simp, (okL_cons _ _).2 ⟨(okT_mk _ _ _).2 ⟨by simp, by simp, okL_nil.2 trivial⟩, (okL_cons _ _).2 ⟨(okT_mk _ _ _).2 ⟨by simp, by simp, okL_nil.2 trivial⟩, okL_nil.2 trivial⟩⟩⟩
theorem good_a : goodT aT := by
  rw [aT, goodT_mk, goodL_cons, goodL_cons, goodT_mk, goodT_mk, goodL_nil]
  refine ⟨fun s hs => by simp at hs, ⟨fun s hs => ?_, trivial⟩, ⟨fun s hs => by simp at hs, trivial⟩, trivial⟩
  simp at hs
  subst hs
  exact ⟨by decide, by decide, by decide⟩

end Go.Proofs.YtjjlkjfhhpogaaaGreatDoor

namespace Go.Proofs.YtjjlkjfhhpogaaaGreatDoor
open Go.RowKit

theorem row_lit {w : World} {b n : Nat} {l : List Int} {cs : Array Value} (hb : Blk w b cs 42) (hcs : cs.toList = cellsOf encN l) (hn : l.length = n) (hl : n ≤ 1000) : RowN w (.slice (some ⟨b, 0, none⟩) n n) l := by
  subst hn
  exact (OwnX.lit (t := 42) (base := 0) encN_len hb hcs (Nat.zero_le _) hl).row encN_len
theorem ref_lit {t : Tree} {x : PC} {l : List Int} {b n : Nat} {W : World} {cs : Array Value} (hz : size t ≤ 200) (hk : kindsT t = true) (hx : HT W t x) (hb : Blk W b cs 42) (hcs : cs.toList = cellsOf encN l) (hn : l.length = n) (hl : n ≤ 255) :
    Calls Tryz.prog 24 #[x.v, .slice (some ⟨b, 0, none⟩) n n] W fun e w' => (∃ q : Bool, e = .returned (.bool q) ∧ (q = true ↔ takes t l)) ∧ Gr W w' :=
  rmatch_any t x _ l W hz hk (by omega) hx (row_lit hb hcs hn (by omega))
theorem bool_false {q : Bool} {p : Prop} (h : q = true ↔ p) (hp : ¬ p) : q = false := by
  cases q
  · rfl
  · exact absurd (h.1 rfl) hp

theorem parse_lit {r : Tree × Int} (s : ByteArray) (W : World) (h : parseM s.data.toList = r) : Calls Tryz.prog 11 #[.string s] W fun e w' => PostT r W e w' := by
  subst h
  exact (parse_any s W).mono fun _ _ h => h.1

/-- Between the examples. -/
structure AV (w : World) (b1 : Nat) (px : PC) (b2 : Nat) (qx : PC) (W : World) : Prop where
  bel : Below w.heap.size w W
  hp : HT W pT px
  hq : HT W qT qx
  p1 : Blk W b1 (encT px).toArray 26
  p2 : Blk W b2 (encT qx).toArray 26
theorem AV.go {w : World} {b1 : Nat} {px : PC} {b2 : Nat} {qx : PC} {W W' : World} (h : AV w b1 px b2 qx W) (g : Below W.heap.size W W') : AV w b1 px b2 qx W' :=
  ⟨bstep h.bel g, HT.bel g h.hp, HT.bel g h.hq, h.p1.bel g, h.p2.bel g⟩

set_option maxRecDepth 100000 in
set_option maxHeartbeats 8000000 in
theorem alive_any (w : World) (hP : TabP w) : Calls Tryz.prog 10 #[] w fun e w' => e = .returned (.bool true) ∧ Below w.heap.size w w' := by
  have k1 : ∀ W, Calls Tryz.prog 11 #[.string { data := #[94, 54, 53, 48, 48, 48, 95, 91, 54, 52, 53, 49, 50, 45, 54, 53, 53, 51, 52, 93, 42, 36] }] W fun e w' => PostT (pT, 0) W e w' := fun W => parse_lit ⟨#[94, 54, 53, 48, 48, 48, 95, 91, 54, 52, 53, 49, 50, 45, 54, 53, 53, 51, 52, 93, 42, 36]⟩ W parse1
  have k2 : ∀ W, Calls Tryz.prog 11 #[.string { data := #[55] }] W fun e w' => PostT (qT, 0) W e w' := fun W => parse_lit ⟨#[55]⟩ W parse2
  have k3 : ∀ W, Calls Tryz.prog 11 #[.string { data := #[48, 55] }] W fun e w' => PostT (zeT, 4) W e w' := fun W => parse_lit ⟨#[48, 55]⟩ W parse3
  have k4 : ∀ W, Calls Tryz.prog 11 #[.string { data := #[91, 53, 45, 52, 93] }] W fun e w' => PostT (zeT, 5) W e w' := fun W => parse_lit ⟨#[91, 53, 45, 52, 93]⟩ W parse4
  have kp : ∀ (x : PC) W, HT W aT x → TabP W → Calls Tryz.prog 16 #[x.v] W fun e w' => e = .returned (.tuple #[.string { data := #[94, 49, 124, 36] }, .int .i64 0]) ∧ Below W.heap.size W w' := fun x W h hT => (print_any aT x W ok_a good_a h hT).mono fun e w' h => by rw [whole_a] at h; exact h
  have HTb : Hid (TabP w) := hP
  clear hP
  go_enter Tryz.func10, Tryz.ntmps10
  go_upto_region 2 with (go_at_call 11; refine (k1 _).mono ?_; rintro _ w1 ⟨⟨f0, ⟨f1, f2, f3⟩, f4, f5, f6⟩, rfl, ho1, bb1⟩; have H1 : Hid (HT w1 pT ⟨f0, ⟨f1, f2, f3⟩, ⟨f4, f5, f6⟩⟩) := ho1.held; have B1 : Hid (Below w.heap.size w w1) := bb1; clear ho1 bb1)
  generalize hW2 : World.alloc _ _ = W2
  have H2 : Hid (Below w.heap.size w W2 ∧ HT W2 pT ⟨f0, ⟨f1, f2, f3⟩, ⟨f4, f5, f6⟩⟩ ∧ Blk W2 w1.heap.size (encT ⟨f0, ⟨f1, f2, f3⟩, ⟨f4, f5, f6⟩⟩).toArray 26) := by
    rw [← hW2]
    exact ⟨bstep B1.out (bel_alloc _ _), HT.bel (bel_alloc _ _) H1.out, Blk.new _ _ _⟩
  clear hW2 H1 B1 k1
  go_upto_region 3 with (go_at_call 11; refine (k2 _).mono ?_; rintro _ w3 ⟨⟨g0, ⟨g1, g2, g3⟩, g4, g5, g6⟩, rfl, ho3, bb3⟩; have H3 : Hid (HT w3 qT ⟨g0, ⟨g1, g2, g3⟩, ⟨g4, g5, g6⟩⟩) := ho3.held; have B3 : Hid (Below W2.heap.size W2 w3) := bb3; clear ho3 bb3)
  generalize hW4 : World.alloc _ _ = W4
  have V4 : Hid (AV w w1.heap.size ⟨f0, ⟨f1, f2, f3⟩, ⟨f4, f5, f6⟩⟩ w3.heap.size ⟨g0, ⟨g1, g2, g3⟩, ⟨g4, g5, g6⟩⟩ W4) := by
    have b : Below W2.heap.size W2 W4 := by rw [← hW4]; exact bstep B3.out (bel_alloc _ _)
    obtain ⟨a1, a2, a3⟩ := H2.out
    exact ⟨bstep a1 b, HT.bel b a2, by rw [← hW4]; exact HT.bel (bel_alloc _ _) H3.out, a3.bel b, by rw [← hW4]; exact Blk.new _ _ _⟩
  clear hW4 H2 H3 B3 k2
  go_upto_region 4 with (go_at_call 11; refine (k3 _).mono ?_; rintro _ w5 ⟨⟨z0, ⟨z1, z2, z3⟩, z4, z5, z6⟩, rfl, _, bb5⟩; have B5 : Hid (Below W4.heap.size W4 w5) := bb5; clear bb5)
  generalize hW6 : World.alloc _ _ = W6
  have V6 : Hid (AV w w1.heap.size ⟨f0, ⟨f1, f2, f3⟩, ⟨f4, f5, f6⟩⟩ w3.heap.size ⟨g0, ⟨g1, g2, g3⟩, ⟨g4, g5, g6⟩⟩ W6) := V4.out.go (by rw [← hW6]; exact bstep B5.out (bel_alloc _ _))
  clear hW6 V4 B5 k3
  go_upto_region 5 with (go_at_call 11; refine (k4 _).mono ?_; rintro _ w7 ⟨⟨y0, ⟨y1, y2, y3⟩, y4, y5, y6⟩, rfl, _, bb7⟩; have B7 : Hid (Below W6.heap.size W6 w7) := bb7; clear bb7)
  generalize hW8 : World.alloc _ _ = W8
  have V8 : Hid (AV w w1.heap.size ⟨f0, ⟨f1, f2, f3⟩, ⟨f4, f5, f6⟩⟩ w3.heap.size ⟨g0, ⟨g1, g2, g3⟩, ⟨g4, g5, g6⟩⟩ W8) := V6.out.go (by rw [← hW8]; exact bstep B7.out (bel_alloc _ _))
  clear hW8 V6 B7 k4
  have kp8 : ∀ W9, W9 = (W8.alloc (.cells #[.int .u32 1, .int .u32 1] 44)).alloc (.cells #[.int .i64 1, .slice (some ⟨W8.heap.size, 0, none⟩) 1 1, .slice none 0 0, .int .i64 2, .slice none 0 0, .slice none 0 0] 26) → Calls Tryz.prog 16 #[.agg #[.int .i64 3, .slice none 0 0, .slice (some ⟨W8.heap.size + 1, 0, none⟩) 2 2]] W9 fun e w' => e = .returned (.tuple #[.string { data := #[94, 49, 124, 36] }, .int .i64 0]) ∧ Below W9.heap.size W9 w' := by
    rintro _ rfl
    refine kp ⟨3, ⟨none, 0, 0⟩, ⟨some ⟨W8.heap.size + 1, 0, none⟩, 2, 2⟩⟩ _ ?_ (HTb.out.bel' (bstep (bstep V8.out.bel (bel_alloc _ _)) (bel_alloc _ _)))
    exact HO.held (P := fun _ => True) (HO_sub2 (HO_one ((Blk.new _ _ _).bel (bel_alloc _ _)) rfl trivial) (HO_none 2) (Blk.new' _ _ _ _ (by simp)) rfl trivial)
  go_upto_region 6 with (go_at_call 16; refine (kp8 _ rfl).mono ?_; rintro _ w9 ⟨rfl, bb9⟩; have V9 : Hid (AV w w1.heap.size ⟨f0, ⟨f1, f2, f3⟩, ⟨f4, f5, f6⟩⟩ w3.heap.size ⟨g0, ⟨g1, g2, g3⟩, ⟨g4, g5, g6⟩⟩ w9) := ((V8.out.go (bel_alloc _ _)).go (bel_alloc _ _)).go bb9; clear bb9)
  clear kp8 V8 kp HTb
  have km1 : ∀ W, HT W pT ⟨f0, ⟨f1, f2, f3⟩, ⟨f4, f5, f6⟩⟩ → Calls Tryz.prog 24 #[PC.v ⟨f0, ⟨f1, f2, f3⟩, ⟨f4, f5, f6⟩⟩, .slice (some ⟨W.heap.size, 0, none⟩) 3 3] (W.alloc (.cells #[.int .u32 65000, .int .u32 64600, .int .u32 65534] 42)) fun e w' => (∃ q : Bool, e = .returned (.bool q) ∧ (q = true ↔ takes pT [65000, 64600, 65534])) ∧ Gr (W.alloc (.cells #[.int .u32 65000, .int .u32 64600, .int .u32 65534] 42)) w' := fun W h => ref_lit (l := [65000, 64600, 65534]) size_p kinds_p (HT.bel (bel_alloc _ _) h) (Blk.new _ _ _) rfl rfl (by omega)
  have km2 : ∀ W, HT W pT ⟨f0, ⟨f1, f2, f3⟩, ⟨f4, f5, f6⟩⟩ → Calls Tryz.prog 24 #[PC.v ⟨f0, ⟨f1, f2, f3⟩, ⟨f4, f5, f6⟩⟩, .slice (some ⟨W.heap.size, 0, none⟩) 1 1] (W.alloc (.cells #[.int .u32 64600] 42)) fun e w' => (∃ q : Bool, e = .returned (.bool q) ∧ (q = true ↔ takes pT [64600])) ∧ Gr (W.alloc (.cells #[.int .u32 64600] 42)) w' := fun W h => ref_lit (l := [64600]) size_p kinds_p (HT.bel (bel_alloc _ _) h) (Blk.new _ _ _) rfl rfl (by omega)
  have km3 : ∀ W, HT W qT ⟨g0, ⟨g1, g2, g3⟩, ⟨g4, g5, g6⟩⟩ → Calls Tryz.prog 24 #[PC.v ⟨g0, ⟨g1, g2, g3⟩, ⟨g4, g5, g6⟩⟩, .slice (some ⟨W.heap.size, 0, none⟩) 3 3] (W.alloc (.cells #[.int .u32 3, .int .u32 7, .int .u32 9] 42)) fun e w' => (∃ q : Bool, e = .returned (.bool q) ∧ (q = true ↔ takes qT [3, 7, 9])) ∧ Gr (W.alloc (.cells #[.int .u32 3, .int .u32 7, .int .u32 9] 42)) w' := fun W h => ref_lit (l := [3, 7, 9]) size_q kinds_q (HT.bel (bel_alloc _ _) h) (Blk.new _ _ _) rfl rfl (by omega)
  obtain ⟨c910, c911, c912⟩ := BlkT.cs V9.out.p1
  simp only at c910 c911 c912
  go_wp2_with (first
    | (go_at_call 24; (with_reducible refine (km3 _ V11.out.hq).mono ?_); rintro _ w12 ⟨⟨q, rfl, hq⟩, gw⟩; have hqt : q = true := hq.2 takes_q; subst hqt; clear hq; have V12 : Hid (AV w w1.heap.size ⟨f0, ⟨f1, f2, f3⟩, ⟨f4, f5, f6⟩⟩ w3.heap.size ⟨g0, ⟨g1, g2, g3⟩, ⟨g4, g5, g6⟩⟩ w12) := (V11.out.go (bel_alloc _ _)).go gw.below; clear gw)
    | (go_at_call 24; (with_reducible refine (km2 _ V10.out.hp).mono ?_); rintro _ w11 ⟨⟨q, rfl, hq⟩, gw⟩; have hqt : q = false := bool_false hq not_takes_p2; subst hqt; clear hq; have V11 : Hid (AV w w1.heap.size ⟨f0, ⟨f1, f2, f3⟩, ⟨f4, f5, f6⟩⟩ w3.heap.size ⟨g0, ⟨g1, g2, g3⟩, ⟨g4, g5, g6⟩⟩ w11) := (V10.out.go (bel_alloc _ _)).go gw.below; clear gw; obtain ⟨c1120, c1121, c1122⟩ := BlkT.cs V11.out.p2)
    | (go_at_call 24; (with_reducible refine (km1 _ V9.out.hp).mono ?_); rintro _ w10 ⟨⟨q, rfl, hq⟩, gw⟩; have hqt : q = true := hq.2 takes_p1; subst hqt; clear hq; have V10 : Hid (AV w w1.heap.size ⟨f0, ⟨f1, f2, f3⟩, ⟨f4, f5, f6⟩⟩ w3.heap.size ⟨g0, ⟨g1, g2, g3⟩, ⟨g4, g5, g6⟩⟩ w10) := (V9.out.go (bel_alloc _ _)).go gw.below; clear gw; obtain ⟨c1010, c1011, c1012⟩ := BlkT.cs V10.out.p1))
  go_ret
  exact ⟨rfl, V12.out.bel⟩

end Go.Proofs.YtjjlkjfhhpogaaaGreatDoor
