/-
  The document's example of layer 8, as a tree; what its positions are.
-/
import Derived.Test.YtjjlkjfhhpogaaaDoorIt
namespace Go.Proofs.YtjjlkjfhhpogaaaDoor
open Go.RowKit

def exOne (n : Int) : Tree := .mk 1 [(n, n)] []
def exPos : Tree := .mk 2 [] [exOne 1, .mk 4 [] [exOne 2]]

theorem exPos_right : rightT exPos = true := by
  simp [rightT, exPos, exOne, size_mk, sizeL_cons, sizeL_nil, deep_mk, deepL_cons, deepL_nil, kindsT_mk, kindsL_cons, kindsL_nil, okAlone]
theorem exPos_sets : setsT exPos = [[(1, 1)], [(2, 2)]] := by
  simp [exPos, exOne, setsT_mk, setsL_cons, setsL_nil]
theorem exPos_emp : emp exPos = false := by rw [exPos, emp_mk]; simp [exOne, empC_cons, emp_mk]
theorem exPos_fir (i : Nat) : Fir exPos 0 i ↔ i = 0 := by
  simp [exPos, exOne, Fir_mk, FirC_cons, FirC_nil, FirA_cons, FirA_nil, emp_mk, ones_mk]
theorem exPos_las (i : Nat) : Las exPos 0 i ↔ i = 0 ∨ i = 1 := by
  simp [exPos, exOne, Las_mk, LasC_cons, LasC_nil, LasA_cons, LasA_nil, emp_mk, empC_cons, empC_nil, ones_mk]
theorem exPos_fol (i j : Nat) : Fol exPos 0 i j ↔ j = 1 ∧ (i = 0 ∨ i = 1) := by
  simp [exPos, exOne, Fol_mk, FolC_cons, FolC_nil, FolA_cons, FolA_nil, Fir_mk, FirC_cons, FirC_nil, FirA_cons, FirA_nil, Las_mk, LasA_cons, LasA_nil, emp_mk, ones_mk]
  omega

theorem exPos_takes : takes exPos [1, 2, 2] := by
  rw [takes_reach _ (right_parts exPos_right).2.2 _ (by simp)]
  refine ⟨1, ?_, (exPos_las 1).2 (Or.inr rfl)⟩
  rw [exPos_sets]
  refine (Reach.succ 2 1 (by omega)).2 ⟨⟨1, (Reach.succ 1 1 (by omega)).2 ⟨⟨0, (Reach.one 0).2 ⟨(exPos_fir 0).2 rfl, ⟨[(1, 1)], 1, rfl, rfl, rfl⟩⟩, (exPos_fol 0 1).2 ⟨rfl, Or.inl rfl⟩⟩, ⟨[(2, 2)], 2, rfl, rfl, rfl⟩⟩, (exPos_fol 1 1).2 ⟨rfl, Or.inr rfl⟩⟩, ⟨[(2, 2)], 2, rfl, rfl, rfl⟩⟩
theorem exPos_not : ¬ takes exPos [2] := by
  rw [takes_reach _ (right_parts exPos_right).2.2 _ (by simp), exPos_sets]
  rintro ⟨q, h, _⟩
  obtain ⟨h1, s, x, h2, h3, h4⟩ := (Reach.one q).1 h
  have e := (exPos_fir q).1 h1
  subst e
  simp at h2 h3
  subst h2 h3
  simp [inSet] at h4

theorem exPos_pos {sets : List (List (Int × Int))} {rows : List (List Nat)} {Lf Ll : List Nat} (h : IsPos exPos sets rows Lf Ll) : sets.length = 2 ∧ rows.length = 2 ∧ Lf = [0] ∧ Ll = [0, 1] ∧ rows[1]? = some [1] := by
  have h1 : sets.length = 2 := by rw [h.sts.1, exPos_sets]; rfl
  have h2 : rows.length = 2 := by rw [h.rws.1, exPos_sets]; rfl
  refine ⟨h1, h2, rises_ext h.lf.1 (by simp [Rises]) fun j => ?_, rises_ext h.ll.1 (by simp [Rises]) fun j => ?_, ?_⟩
  · rw [h.lf.2, exPos_fir]; simp
  · rw [h.ll.2, exPos_las]; simp
  · obtain ⟨L, hL⟩ : ∃ L, rows[1]? = some L := ⟨_, List.getElem?_eq_getElem (by omega)⟩
    have e : L = [1] := rises_ext (h.ok 1 L hL).1 (by simp [Rises]) fun j => by rw [h.rws.2 1 L hL j, exPos_fol]; simp
    rw [hL, e]

end Go.Proofs.YtjjlkjfhhpogaaaDoor
