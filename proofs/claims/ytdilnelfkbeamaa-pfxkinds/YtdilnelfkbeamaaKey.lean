/-
  Kinds as keys of a map: 64 bools.
-/
import Derived.Test.YtdilnelfkbeamaaMath4
import Derived.Test.YtdilnelfkbeamaaRows
import Derived.Maps.OwnSet
import Derived.DeepKeys4
namespace Go.Proofs.Ytdilnelfkbeamaa
open Go.RowKit Go.Maps

/-- A prefix's kind, in 64 places. -/
def kindB (l : List Rg) (p : Pf) : List Bool := (l.map fun x => inR x p) ++ List.replicate (64 - l.length) false

theorem kindB_len {l : List Rg} (h : l.length ≤ 64) (p : Pf) : (kindB l p).length = 64 := by
  unfold kindB
  simp
  omega

theorem kindB_eq {l : List Rg} {p q : Pf} : kindB l p = kindB l q ↔ alikeB l p q = true := by
  unfold kindB
  rw [alikeB_iff]
  constructor
  · intro h x hx
    have h1 := List.append_inj_left h (by simp)
    obtain ⟨i, hi⟩ := List.mem_iff_getElem?.1 hx
    have h2 : (l.map fun x => inR x p)[i]? = (l.map fun x => inR x q)[i]? := by rw [h1]
    simpa [hi] using h2
  · intro h
    congr 1
    exact List.map_congr_left h

/-- The cells of a kind, and the key that they are read as. -/
def kcells (bs : List Bool) : Array Value := (bs.map Value.bool).toArray
def klit (bs : List Bool) : Lit := .string (keyBytes (bs.map Lit.bool))

theorem laidOut' : laidOutB Try.prog = true := by kernel_rfl
theorem row65 : (65 : TypeId) < Try.prog.types.size := of_decide_eq_true (by kernel_rfl)
theorem wide65 : (match Try.prog.underlying 65 with | some (.array _ _) | some (.struct _) => true | _ => false) = true := by kernel_rfl
theorem law65 : Keyed Try.prog 65 := Keyed.of_law (deep_law_laid laidOut' (m := 2) (by omega) row65 (by kernel_rfl) wide65)
theorem zero67 (w : World) : (zeroValue 67).run Try.prog w = .ok (.agg #[]) w := Try.zeroValue67 w

theorem mapM_some {α β : Type} {f : α → Option β} {g : α → β} : ∀ (l : List α), (∀ x ∈ l, f x = some (g x)) → l.mapM f = some (l.map g)
  | [], _ => rfl
  | a :: l, h => by
    rw [List.mapM_cons, h a List.mem_cons_self, mapM_some l fun x hx => h x (List.mem_cons_of_mem _ hx)]
    rfl

theorem key_of (bs : List Bool) (h : bs.length = 64) : keyOf Try.prog 65 (.agg (kcells bs)) = some (klit bs) := by
  have hk : Try.prog.keyType 65 = true := by kernel_rfl
  have c65 : Try.prog.cellsOf 65 = 64 := by kernel_rfl
  have c4 : Try.prog.cellsOf 4 = 1 := by kernel_rfl
  have hf : (Value.agg (kcells bs)).formed Try.prog 65 = true := by
    simp [Value.formed, Try.underlying65, c65, kcells, h]
  unfold keyOf
  rw [Try.underlying65]
  simp only [hk, hf, Bool.and_self, if_true]
  have hl : Try.prog.keyLits (Try.prog.types.size + 1) 65 (Value.agg (kcells bs)).cells.toList = some (bs.map Lit.bool) := by
    obtain ⟨n, hn⟩ : ∃ n, Try.prog.types.size = n + 1 := ⟨Try.prog.types.size - 1, by have : 0 < Try.prog.types.size := of_decide_eq_true (by kernel_rfl); omega⟩
    have hcells : (Value.agg (kcells bs)).cells.toList = bs.map Value.bool := by simp [Value.cells, kcells]
    rw [hn, hcells]
    unfold Program.keyLits
    rw [Try.underlying65]
    simp only
    rw [if_pos (by rw [c65]; simp [h])]
    rw [mapM_some (g := fun i => [Lit.bool (bs[i]?.getD false)])]
    · rw [Option.map_some]
      refine congrArg some ?_
      have : (List.range 64).map (fun i => [Lit.bool (bs[i]?.getD false)]) = bs.map fun b => [Lit.bool b] := by
        apply List.ext_getElem?
        intro i
        by_cases hi : i < 64
        · simp [hi, show i < bs.length by omega]
        · simp [show ¬ i < 64 from hi, show bs.length ≤ i by omega]
      rw [this]
      clear this h hf hcells
      induction bs with
      | nil => rfl
      | cons b bs ih => simp only [List.map_cons, List.flatten_cons, ih]; rfl
    · intro i hi
      have hi' : i < 64 := List.mem_range.1 hi
      unfold Program.keyLits
      rw [Try.underlying4, c4]
      have : ((bs.map Value.bool).drop (i * 1)).take 1 = [.bool (bs[i]?.getD false)] := by
        rw [Nat.mul_one, List.drop_eq_getElem_cons (by simp; omega)]
        simp [show i < bs.length by omega]
      simp only [this]
  rw [hl]
  rfl

theorem klit_key (bs : List Bool) : WideAt.IsKeyLit (klit bs) := by
  unfold klit
  trivial

theorem klit_same {a b : List Bool} (ha : a.length = 64) (hb : b.length = 64) : (klit a).sameKey (klit b) = decide (a = b) := by
  by_cases e : a = b
  · subst e
    rw [decide_eq_true rfl]
    exact WideAt.sameKey_self (klit_key a)
  · rw [decide_eq_false e]
    cases hs : (klit a).sameKey (klit b)
    · rfl
    · exfalso
      apply e
      have h1 := WideAt.sameKey_eq hs
      have h2 := law65.inj (key_of a ha) (by rw [h1]; exact key_of b hb)
      injection h2 with h2
      unfold kcells at h2
      have h3 : a.map Value.bool = b.map Value.bool := by simpa using h2
      clear h1 h2 hs ha hb e
      induction a generalizing b with
      | nil => cases b <;> simp_all
      | cons x a ih =>
        cases b with
        | nil => simp at h3
        | cons y b =>
          simp at h3
          rw [h3.1]
          congr 1
          exact ih (by simpa using h3.2)

/-- The kinds that were met. -/
abbrev metOf (l : List Rg) (o : List Pf) : DataW Unit := setOf (.agg []) (o.map fun p => klit (kindB l p))

theorem met_has (l : List Rg) (o : List Pf) (p : Pf) (h : l.length ≤ 64) : Maps.has (metOf l o) (klit (kindB l p)) = o.any fun q => alikeB l p q := by
  unfold metOf
  rw [has_setOf]
  · rw [List.any_map]
    congr 1
    funext q
    simp only [Function.comp]
    rw [klit_same (kindB_len h q) (kindB_len h p)]
    apply bool_eq
    rw [decide_eq_true_iff, kindB_eq]
    exact ⟨alikeB_comm, alikeB_comm⟩
  · intro x hx
    obtain ⟨d, _, rfl⟩ := List.mem_map.1 hx
    exact klit_key _

end Go.Proofs.Ytdilnelfkbeamaa
