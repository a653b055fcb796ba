/-
  What a pattern's text says, as mathematics: a reader over lists of bytes. No program in sight.
-/
import Derived.Test.YtjjlkjfhhpogaaaDoorMath2
namespace Go.Proofs.YtjjlkjfhhpogaaaDoor

abbrev Bs := List UInt8

def allT : Tree := .mk 1 [(0, 4294967295)] []
def emT : Tree := .mk 2 [] []
def noT : Tree := .mk 3 [] []
def stT (t : Tree) : Tree := .mk 4 [] [t]
def plusT (t : Tree) : Tree := .mk 2 [] [t, stT t]
def optT (t : Tree) : Tree := .mk 3 [] [t, emT]

/-- A pattern that is right, or one that stands for it. -/
def keptM (t : Tree) : Tree × Bool := if rightT t = true then (t, false) else (emT, true)

def isDig (c : UInt8) : Bool := decide (48 ≤ c.toNat) && decide (c.toNat ≤ 57)
def val (ds : Bs) : Nat := ds.foldl (fun n c => 10 * n + (c.toNat - 48)) 0

/-- A number: its value and the rest. -/
def numM (r : Bs) : Option (Nat × Bs) :=
  if r.takeWhile isDig = [] ∨ ((r.takeWhile isDig).head? = some 48 ∧ 1 < (r.takeWhile isDig).length) then none
  else some (val (r.takeWhile isDig), r.dropWhile isDig)

/-- A number as a span has it. -/
def wr (n : Nat) : Int := if 4294967295 < n then 0 else n
def numT (lo hi : Nat) : Tree := .mk 1 [(wr lo, wr hi)] []
def oneO (lo hi : Nat) : Bool := decide (4294967295 < lo) || decide (4294967295 < hi) || decide (hi < lo)

/-- A part that was read: the pattern, was a number outside, is something too full, the rest. -/
structure Rd where
  t : Tree
  o : Bool
  f : Bool
  r : Bs

/-- The signs behind an atom. -/
def signsM : Bs → Tree → Bool → Tree × Bool × Bs
  | [], t, f => (t, f, [])
  | c :: r, t, f =>
    if c = 42 then signsM r (keptM (stT t)).1 (f || (keptM (stT t)).2)
    else if c = 43 then signsM r (keptM (plusT t)).1 (f || (keptM (plusT t)).2)
    else if c = 63 then signsM r (keptM (optT t)).1 (f || (keptM (optT t)).2)
    else (t, f, c :: r)

/-- What stands in brackets [ ]. -/
def spanM (r : Bs) : Option Rd :=
  match numM r with
  | some (lo, 45 :: r1) =>
    match numM r1 with
    | some (hi, 93 :: r2) => some ⟨numT lo hi, oneO lo hi, false, r2⟩
    | _ => none
  | _ => none

/-- What stands in brackets ( ). -/
def parM (x : Option Rd) : Option Rd :=
  match x with
  | some ⟨t, o, f, 41 :: r⟩ => some ⟨t, o, f, r⟩
  | _ => none

def atomM (alt : Bs → Option Rd) : Bs → Option Rd
  | [] => none
  | c :: r =>
    if c = 46 then some ⟨allT, false, false, r⟩
    else if c = 33 then some ⟨noT, false, false, r⟩
    else if c = 40 then parM (alt r)
    else if c = 91 then spanM r
    else match numM (c :: r) with
      | some (n, r') => some ⟨numT n n, oneO n n, false, r'⟩
      | none => none

def itemM (alt : Bs → Option Rd) (r : Bs) : Option Rd :=
  match atomM alt r with
  | some x => some ⟨(signsM x.r x.t x.f).1, x.o, (signsM x.r x.t x.f).2.1, (signsM x.r x.t x.f).2.2⟩
  | none => none

/-- Parts with a sign between them, behind those that are there. -/
def sepM (one : Bs → Option Rd) (c : UInt8) : Nat → List Tree → Bool → Bool → Bs → Option (List Tree × Bool × Bool × Bs)
  | 0, l, o, f, r => some (l, o, f, r)
  | k + 1, l, o, f, r =>
    match r with
    | [] => some (l, o, f, [])
    | d :: r' =>
      if d = c then
        match one r' with
        | some x => sepM one c k (l ++ [x.t]) (o || x.o) (f || x.f) x.r
        | none => none
      else some (l, o, f, d :: r')

/-- The one part that there is, else all of them. -/
def singleM (k : Int) (l : List Tree) : Tree × Bool :=
  match l with
  | [t] => (t, false)
  | l => keptM (.mk k [] l)

def listM (one : Bs → Option Rd) (c : UInt8) (k : Int) (r : Bs) : Option Rd :=
  match one r with
  | none => none
  | some x =>
    match sepM one c (x.r.length + 1) [x.t] x.o x.f x.r with
    | none => none
    | some (l, o, f, r') => some ⟨(singleM k l).1, o, f || (singleM k l).2, r'⟩

/-- Does a cat end here? -/
def endsM : Bs → Bool
  | [] => true
  | c :: _ => decide (c = 124) || decide (c = 41) || decide (c = 36)

def catM (alt : Bs → Option Rd) (r : Bs) : Option Rd :=
  if endsM r = true then some ⟨emT, false, false, r⟩ else listM (itemM alt) 95 2 r

def altM (alt : Bs → Option Rd) (r : Bs) : Option Rd := listM (catM alt) 124 3 r

/-- An alt, no more brackets within one another than n. -/
def altN : Nat → Bs → Option Rd
  | 0, _ => none
  | n + 1, r => altM (altN n) r

def headIs (c : UInt8) (r : Bs) : Bool := decide (r.head? = some c)
def tailIf (b : Bool) (r : Bs) : Bs := if b then r.tail else r

/-- The whole pattern, of what its alt says: does it begin, does it end. -/
def wholeL (b e : Bool) (x : Tree) : List Tree := (if b then [] else [stT allT]) ++ [x] ++ (if e then [] else [stT allT])
def wholeM (b e : Bool) (x : Tree) : Tree × Bool := if b && e then (x, false) else keptM (.mk 2 [] (wholeL b e x))

def patM (s : Bs) : Option (Tree × Bool × Bool) :=
  match altN (s.length + 1) (tailIf (headIs 94 s) s) with
  | none => none
  | some x =>
    if tailIf (headIs 36 x.r) x.r = [] then
      some ((wholeM (headIs 94 s) (headIs 36 x.r) x.t).1, x.o, x.f || (wholeM (headIs 94 s) (headIs 36 x.r) x.t).2)
    else none

def zeT : Tree := .mk 0 [] []

/-- What a text says, and the error. -/
def parseM (s : Bs) : Tree × Int :=
  if 2000 < s.length then (zeT, 6) else
    match patM s with
    | none => (zeT, 4)
    | some (t, o, f) => if o then (zeT, 5) else if f then (zeT, 6) else (t, 0)

/-! ### What is read is right -/

theorem right_em : rightT emT = true := by
  simp [rightT, emT, size_mk, sizeL_nil, deep_mk, deepL_nil, kindsT_mk, kindsL_nil, okAlone]
theorem right_no : rightT noT = true := by
  simp [rightT, noT, size_mk, sizeL_nil, deep_mk, deepL_nil, kindsT_mk, kindsL_nil, okAlone]
theorem right_one (x : Int × Int) : rightT (.mk 1 [x] []) = true := by
  simp [rightT, size_mk, sizeL_nil, deep_mk, deepL_nil, kindsT_mk, kindsL_nil, okAlone]
theorem right_all : rightT allT = true := right_one _
theorem right_kept (t : Tree) : rightT (keptM t).1 = true := by
  unfold keptM
  split
  · assumption
  · exact right_em
theorem right_stAll : rightT (stT allT) = true := by
  simp [rightT, stT, allT, size_mk, sizeL_nil, sizeL_cons, deep_mk, deepL_nil, deepL_cons, kindsT_mk, kindsL_nil, kindsL_cons, okAlone]

theorem right_signs : ∀ (r : Bs) (t : Tree) (f : Bool), rightT t = true → rightT (signsM r t f).1 = true
  | [], t, f, h => by rw [signsM]; exact h
  | c :: r, t, f, h => by
    rw [signsM]
    split
    · exact right_signs r _ _ (right_kept _)
    · split
      · exact right_signs r _ _ (right_kept _)
      · split
        · exact right_signs r _ _ (right_kept _)
        · exact h

theorem right_single (k : Int) (l : List Tree) (h : ∀ t ∈ l, rightT t = true) : rightT (singleM k l).1 = true := by
  unfold singleM
  split
  · exact h _ (by simp)
  · exact right_kept _

end Go.Proofs.YtjjlkjfhhpogaaaDoor
