/-
  Plain mathematics of boxes: no program in sight.
-/
namespace Go.Proofs.Ytepioggejacfjaa

/-- A box: its Lo and its Hi. -/
abbrev Sp := Int × Int

/-- Does c lie in the box? -/
def inB (b : Sp) (c : Int) : Bool := decide (b.1 / 65536 ≤ c / 65536) && decide (b.1 % 65536 ≤ c % 65536) && (decide (c / 65536 ≤ b.2 / 65536) && decide (c % 65536 ≤ b.2 % 65536))

/-- A number of 32 bits. -/
def Num (c : Int) : Prop := 0 ≤ c ∧ c ≤ 4294967295

/-- A box of such numbers. -/
def Bx (b : Sp) : Prop := Num b.1 ∧ Num b.2

/-- Numbers of 32 bits. -/
def Good (l : List Sp) : Prop := ∀ s ∈ l, 0 ≤ s.1 ∧ s.1 ≤ 4294967295 ∧ 0 ≤ s.2 ∧ s.2 ≤ 4294967295

theorem Good.at {l : List Sp} (h : Good l) {k : Nat} {x : Sp} (hx : l[k]? = some x) : Bx x := by
  have := h x (List.mem_of_getElem? hx)
  exact ⟨⟨this.1, this.2.1⟩, ⟨this.2.2.1, this.2.2.2⟩⟩

theorem bool_eq {a b : Bool} (h : a = true ↔ b = true) : a = b := by
  cases a <;> cases b <;> simp_all

/-- The box of what lies in both. -/
def meetB (a b : Sp) : Sp := (65536 * max (a.1 / 65536) (b.1 / 65536) + max (a.1 % 65536) (b.1 % 65536), 65536 * min (a.2 / 65536) (b.2 / 65536) + min (a.2 % 65536) (b.2 % 65536))

/-- Has it anything? -/
def some2 (a b : Sp) : Bool := decide (max (a.1 / 65536) (b.1 / 65536) ≤ min (a.2 / 65536) (b.2 / 65536)) && decide (max (a.1 % 65536) (b.1 % 65536) ≤ min (a.2 % 65536) (b.2 % 65536))

end Go.Proofs.Ytepioggejacfjaa
