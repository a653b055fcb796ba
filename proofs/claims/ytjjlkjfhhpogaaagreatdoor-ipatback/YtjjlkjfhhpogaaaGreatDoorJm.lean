/-
  What a pattern's text says in the Jun dialect, as mathematics: a reader over lists of bytes that leaves out blanks. No program in sight.
-/
import Derived.Test.YtjjlkjfhhpogaaaGreatDoorPm
namespace Go.Proofs.YtjjlkjfhhpogaaaGreatDoor

/-- Blanks left out. -/
def dropBl (r : Bs) : Bs := r.dropWhile fun c => decide (c = 32)

/-- A pattern from m to n times, or one that stands for it. -/
def timesK (t : Tree) (m n : Int) : Tree × Bool := if (timesT t m n).2 = 0 then ((timesT t m n).1, false) else (emT, true)

/-- The most: a number, or what ends the braces at once. -/
def mostM (m : Nat) (r : Bs) : Option (Int × Int × Bool × Bs) :=
  match numM r with
  | none => none
  | some (n, r4) =>
    match dropBl r4 with
    | [] => none
    | c :: r5 => if c = 125 then some (wr m, wr n, decide (4294967295 < m) || decide (4294967295 < n) || decide (wr n < wr m), r5) else none

/-- What stands in braces: at least, at most, was a number outside, the rest. -/
def countsM (r : Bs) : Option (Int × Int × Bool × Bs) :=
  match numM (dropBl r) with
  | none => none
  | some (m, r1) =>
    match dropBl r1 with
    | [] => none
    | c :: r2 =>
      if c = 44 then
        match dropBl r2 with
        | [] => none
        | d :: r3 => if d = 125 then some (wr m, -1, decide (4294967295 < m), r3) else mostM m (d :: r3)
      else if c = 125 then some (wr m, wr m, decide (4294967295 < m), r2) else none

def jparM (x : Option Rd) : Option Rd :=
  match x with
  | none => none
  | some y =>
    match dropBl y.r with
    | [] => none
    | c :: r => if c = 41 then some ⟨y.t, y.o, y.f, r⟩ else none

def jnumsM (r : Bs) : Option Rd :=
  match numM r with
  | none => none
  | some (lo, r1) =>
    match dropBl r1 with
    | [] => some ⟨numT lo lo, oneO lo lo, false, []⟩
    | c :: r2 =>
      if c = 45 then
        match numM (dropBl r2) with
        | none => none
        | some (hi, r3) => some ⟨numT lo hi, oneO lo hi, false, r3⟩
      else some ⟨numT lo lo, oneO lo lo, false, c :: r2⟩

def jatomM (pat : Bs → Option Rd) (r : Bs) : Option Rd :=
  match dropBl r with
  | [] => none
  | c :: r' =>
    if c = 46 then some ⟨allT, false, false, r'⟩
    else if c = 33 then some ⟨noT, false, false, r'⟩
    else if c = 40 then jparM (pat r')
    else jnumsM (c :: r')

/-- The signs behind an atom. -/
def jsignsM : Nat → Bs → Tree → Bool → Bool → Option Rd
  | 0, _, _, _, _ => none
  | k + 1, r, t, o, f =>
    match dropBl r with
    | [] => some ⟨t, o, f, []⟩
    | c :: r' =>
      if c = 42 then jsignsM k r' (keptM (stT t)).1 o (f || (keptM (stT t)).2)
      else if c = 43 then jsignsM k r' (keptM (plusT t)).1 o (f || (keptM (plusT t)).2)
      else if c = 63 then jsignsM k r' (keptM (optT t)).1 o (f || (keptM (optT t)).2)
      else if c = 123 then
        match countsM r' with
        | none => none
        | some (m, n, o', r'') => jsignsM k r'' (timesK t m n).1 (o || o') (f || (timesK t m n).2)
      else some ⟨t, o, f, c :: r'⟩

def jitemM (pat : Bs → Option Rd) (r : Bs) : Option Rd :=
  match jatomM pat r with
  | none => none
  | some x => jsignsM (x.r.length + 1) x.r x.t x.o x.f

/-- Does an item begin here? -/
def beginsM : Bs → Bool
  | [] => false
  | c :: _ => isDig c || decide (c = 46) || decide (c = 33) || decide (c = 40)

def jfinM (k : Int) (x : Option (List Tree × Bool × Bool × Bs)) : Option Rd :=
  match x with
  | none => none
  | some (l, o, f, r) => some ⟨(singleM k l).1, o, f || (singleM k l).2, r⟩

/-- Items, as many as there are, behind those that have been read. -/
def jitemsM (one : Bs → Option Rd) : Nat → List Tree → Bool → Bool → Bs → Option (List Tree × Bool × Bool × Bs)
  | 0, _, _, _, _ => none
  | k + 1, l, o, f, r =>
    if beginsM (dropBl r) = true then
      match one (dropBl r) with
      | none => none
      | some x => jitemsM one k (l ++ [x.t]) (o || x.o) (f || x.f) x.r
    else some (l, o, f, dropBl r)

def jcatM (pat : Bs → Option Rd) (r : Bs) : Option Rd := jfinM 2 (jitemsM (jitemM pat) (r.length + 1) [] false false r)

/-- Parts with | between them, behind those that have been read. -/
def jsepM (one : Bs → Option Rd) : Nat → List Tree → Bool → Bool → Bs → Option (List Tree × Bool × Bool × Bs)
  | 0, _, _, _, _ => none
  | k + 1, l, o, f, r =>
    match dropBl r with
    | [] => some (l, o, f, [])
    | c :: r' =>
      if c = 124 then
        match one r' with
        | none => none
        | some x => jsepM one k (l ++ [x.t]) (o || x.o) (f || x.f) x.r
      else some (l, o, f, c :: r')

def jpatM (pat : Bs → Option Rd) (r : Bs) : Option Rd :=
  match jcatM pat r with
  | none => none
  | some x => jfinM 3 (jsepM (jcatM pat) (x.r.length + 1) [x.t] x.o x.f x.r)

/-- A pattern, no more brackets within one another than n. -/
def jpatN : Nat → Bs → Option Rd
  | 0, _ => none
  | n + 1, r => jpatM (jpatN n) r

/-- What a text says, and the error. -/
def jparseM (s : Bs) : Tree × Int :=
  if 2000 < s.length then (zeT, 6) else
    match jpatN (s.length + 1) s with
    | none => (zeT, 4)
    | some x => if x.r ≠ [] then (zeT, 4) else if x.o then (zeT, 5) else if x.f then (zeT, 6) else (x.t, 0)

theorem times_right (t : Tree) (m n : Int) : rightT (timesK t m n).1 = true := by
  unfold timesK
  split
  · rename_i h
    unfold timesT at h ⊢
    generalize rowT t m.toNat (if n < 0 then 0 else n - m).toNat (decide (n < 0)) = u at h ⊢
    split at h
    · simp at h
    · rename_i h1
      rw [if_neg h1]
      split at h
      · simp at h
      · rename_i h2
        rw [if_neg h2]
        split at h
        · simp at h
        · rename_i h3
          rw [if_neg h3]
          split at h
          · rename_i h4
            rw [if_pos h4]
            exact h4
          · simp at h
  · exact right_em

end Go.Proofs.YtjjlkjfhhpogaaaGreatDoor
