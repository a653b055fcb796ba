/-
  The document's examples of texts: what they say; what a small pattern's text is.
-/
import Derived.Test.YtihnmamejfoeeaaDoorRb7
import Derived.Test.YtihnmamejfoeeaaDoorPr4
import Derived.Test.YtihnmamejfoeeaaDoorAm
import Derived.Test.YtihnmamejfoeeaaDoorRt
namespace Go.Proofs.YtihnmamejfoeeaaDoor
open Go.RowKit

def tx1 : Bs := [94, 54, 53, 48, 48, 48, 95, 91, 54, 52, 53, 49, 50, 45, 54, 53, 53, 51, 52, 93, 42, 36]
def pT : Tree := .mk 2 [] [.mk 1 [(65000,65000)] [], .mk 4 [] [.mk 1 [(64512,65534)] []]]
def qT : Tree := .mk 2 [] [.mk 4 [] [.mk 1 [(0,4294967295)] []], .mk 1 [(7,7)] [], .mk 4 [] [.mk 1 [(0,4294967295)] []]]
def aT : Tree := .mk 3 [] [.mk 1 [(1,1)] [], .mk 2 [] []]
theorem parse1 : parseM tx1 = (pT, 0) := by kernel_rfl
theorem parse2 : parseM [55] = (qT, 0) := by kernel_rfl
theorem parse3 : parseM [48,55] = (zeT, 4) := by kernel_rfl
theorem parse4 : parseM [91, 53, 45, 52, 93] = (zeT, 5) := by kernel_rfl
theorem right_a : rightT aT = true := by kernel_rfl
theorem nf_11 : nf [(1, 1)] = [(1, 1)] := nf_eq ⟨by simp, List.pairwise_singleton _ _⟩ fun _ => rfl
theorem dec_1 : dec 1 = [49] := by
  show Lib.decDigits 1 = [49]
  rw [dec_small (by omega)]
  rfl
theorem text_1 (p : Nat) : textT (.mk 1 [(1, 1)] []) p = [49] := by
  rw [textT_mk]
  simp only [if_true, nf_11, setX, spanX, List.map, List.length, brX]
  simp [dec_1, Lib.join]
theorem text_none : textT (.mk 2 [] []) 1 = [] := by
  rw [textT_mk]
  simp [textsT_map, Lib.join, brX]
theorem whole_a : printM aT = ([94, 49, 124, 36], 0) := by
  unfold printM
  rw [if_pos right_a, wholeX, aT, textT_mk]
  simp [textsT_map, text_1, text_none, Lib.join, brX]

theorem takes_in (lo hi : Int) (s : List Int) : takes (.mk 1 [(lo, hi)] []) s ↔ ∃ n, s = [n] ∧ lo ≤ n ∧ n ≤ hi := by
  rw [takes_one rfl]
  simp [inSet]
theorem star_in {lo hi : Int} : ∀ (s : List Int), (∀ n ∈ s, lo ≤ n ∧ n ≤ hi) → StarL (takes (.mk 1 [(lo, hi)] [])) s
  | [], _ => .nil
  | n :: s, h => StarL.cons (a := [n]) ((takes_in _ _ _).2 ⟨n, rfl, h n (by simp)⟩) (star_in s fun m hm => h m (by simp [hm]))
theorem takes_p1 : takes pT [65000, 64600, 65534] := by
  rw [pT, takes_cat, takesCat_cons]
  refine ⟨[65000], [64600, 65534], rfl, (takes_in _ _ _).2 ⟨_, rfl, by omega, by omega⟩, ?_⟩
  rw [takesCat_cons]
  exact ⟨[64600, 65534], [], by simp, by rw [takes_star]; exact star_in _ (by simp), (takesCat_nil _).2 rfl⟩
theorem not_takes_p2 : ¬ takes pT [64600] := by
  rw [pT, takes_cat, takesCat_cons]
  rintro ⟨a, b, h1, h2, _⟩
  rw [takes_in] at h2
  obtain ⟨n, rfl, h3, h4⟩ := h2
  simp at h1
  omega
theorem takes_q : takes qT [3, 7, 9] := by
  rw [qT, takes_cat, takesCat_cons]
  refine ⟨[3], [7, 9], rfl, by rw [takes_star]; exact star_in _ (by simp), ?_⟩
  rw [takesCat_cons]
  refine ⟨[7], [9], rfl, (takes_in _ _ _).2 ⟨_, rfl, by omega, by omega⟩, ?_⟩
  rw [takesCat_cons]
  exact ⟨[9], [], by simp, by rw [takes_star]; exact star_in _ (by simp), (takesCat_nil _).2 rfl⟩
theorem size_p : size pT ≤ 200 := by decide
theorem size_q : size qT ≤ 200 := by decide
theorem kinds_p : kindsT pT = true := by kernel_rfl
theorem kinds_q : kindsT qT = true := by kernel_rfl
theorem ok_a : okT aT := (okT_mk _ _ _).2 ⟨by simp, by simp, (okL_cons _ _).2 ⟨(okT_mk _ _ _).2 ⟨by simp, by simp, okL_nil.2 trivial⟩, (okL_cons _ _).2 ⟨(okT_mk _ _ _).2 ⟨by simp, by simp, okL_nil.2 trivial⟩, okL_nil.2 trivial⟩⟩⟩
theorem good_a : goodT aT := by
  rw [aT, goodT_mk, goodL_cons, goodL_cons, goodT_mk, goodT_mk, goodL_nil]
  refine ⟨fun s hs => by simp at hs, ⟨fun s hs => ?_, trivial⟩, ⟨fun s hs => by simp at hs, trivial⟩, trivial⟩
  simp at hs
  subst hs
  exact ⟨by decide, by decide, by decide⟩

end Go.Proofs.YtihnmamejfoeeaaDoor
