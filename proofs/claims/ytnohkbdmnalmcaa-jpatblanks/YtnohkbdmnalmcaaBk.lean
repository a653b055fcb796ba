/-
  A prefix and the same prefix with blanks ahead of its signs: mathematics. No program in sight.
-/
import Derived.Test.YtnohkbdmnalmcaaJk
namespace Go.Proofs.Ytnohkbdmnalmcaa

/-- What follows may be read behind either. -/
def BP (p q : Bs) : Prop := ∀ r r', Bla r r' → Bla (p ++ r) (q ++ r')
theorem BP.nil : BP [] [] := fun _ _ h => h
theorem Bla.one {c : UInt8} {b r r' : Bs} (hb : ∀ x ∈ b, x = 32) (hd : isDig c = true → b = []) (h : Bla r r') : Bla (c :: r) (b ++ c :: r') := ⟨b, r', rfl, hb, hd, h⟩
theorem BP.step {p q b : Bs} {c : UInt8} (h : BP p q) (hb : ∀ x ∈ b, x = 32) (hd : isDig c = true → b = []) : BP (p ++ [c]) (q ++ b ++ [c]) := by
  intro r r' hr
  have e1 : p ++ [c] ++ r = p ++ (c :: r) := by simp
  have e2 : q ++ b ++ [c] ++ r' = q ++ (b ++ c :: r') := by simp
  rw [e1, e2]
  exact h _ _ (Bla.one hb hd hr)
theorem BP.done {p q : Bs} (h : BP p q) : Bla p (q ++ [32]) := by
  have := h [] [32] (by show dropBl [32] = []; rw [dropBl_32]; rfl)
  simpa using this

/-- The first k bytes of a text, with blanks. -/
structure BT (s t : ByteArray) (k : Nat) : Prop where
  le : t.size ≤ 3 * k
  bp : BP (s.data.toList.take k) t.data.toList
theorem BT.start (s : ByteArray) : BT s ⟨#[]⟩ 0 := ⟨by simp [ByteArray.size], by rw [List.take_zero]; exact BP.nil⟩
/-- The like, and m blanks more. -/
structure BU (s t : ByteArray) (k m : Nat) : Prop where
  le : t.size ≤ 3 * k + m
  bp : ∃ q b, t.data.toList = q ++ b ∧ (∀ x ∈ b, x = 32) ∧ b.length = m ∧ BP (s.data.toList.take k) q
theorem BT.zero {s t : ByteArray} {k : Nat} (h : BT s t k) : BU s t k 0 := ⟨by have := h.le; omega, _, [], by simp, by simp, rfl, h.bp⟩
theorem app_data (a b : ByteArray) : (a ++ b).data.toList = a.data.toList ++ b.data.toList := by simp
theorem app_size (a b : ByteArray) : (a ++ b).size = a.size + b.size := by simp
theorem BU.more {s t : ByteArray} {k m : Nat} (h : BU s t k m) : BU s (t ++ ⟨#[32]⟩) k (m + 1) := by
  obtain ⟨h1, q, b, h2, h3, h4, h5⟩ := h
  refine ⟨?_, q, b ++ [32], ?_, ?_, by simp [h4], h5⟩
  · rw [app_size]
    have : (⟨#[32]⟩ : ByteArray).size = 1 := rfl
    omega
  · rw [app_data, h2]; simp
  · intro x hx
    rcases List.mem_append.1 hx with h | h
    · exact h3 x h
    · simpa using h
theorem ext_data {s : ByteArray} {k : Nat} (h : k < s.size) : (s.extract k (k + 1)).data.toList = [s.data.toList[k]'(by rw [Array.length_toList]; exact h)] ∧ (s.extract k (k + 1)).size = 1 := by
  constructor
  · rw [ByteArray.data_extract]
    apply List.ext_getElem?
    intro i
    cases i with
    | zero => simp
    | succ i => simp <;> omega
  · rw [ByteArray.size_extract]; omega
theorem take_next {s : ByteArray} {k : Nat} (h : k < s.size) : s.data.toList.take (k + 1) = s.data.toList.take k ++ [s.data.toList[k]'(by rw [Array.length_toList]; exact h)] := by
  rw [List.take_add_one, List.getElem?_eq_getElem (by rw [Array.length_toList]; exact h)]
  rfl
theorem BU.next {s t : ByteArray} {k m : Nat} (h : BU s t k m) (hk : k < s.size) (hm : m ≤ 2) (hd : isDig (s.data.toList[k]'(by rw [Array.length_toList]; exact hk)) = true → m = 0) : BT s (t ++ s.extract k (k + 1)) (k + 1) := by
  obtain ⟨h1, q, b, h2, h3, h4, h5⟩ := h
  obtain ⟨e1, e2⟩ := ext_data hk
  refine ⟨?_, ?_⟩
  · rw [app_size, e2]; omega
  · rw [app_data, h2, e1, take_next hk]
    exact h5.step h3 fun hdg => List.length_eq_zero_iff.1 (by rw [h4, hd hdg])
theorem BT.full {s t : ByteArray} (h : BT s t s.size) : Bla s.data.toList (t ++ ⟨#[32]⟩).data.toList ∧ (t ++ ⟨#[32]⟩).size ≤ 3 * s.size + 1 := by
  have e : s.data.toList.take s.size = s.data.toList := List.take_of_length_le (by rw [Array.length_toList]; exact Nat.le_refl _)
  have h2 := h.bp
  rw [e] at h2
  constructor
  · rw [app_data]; exact h2.done
  · rw [app_size]
    have : (⟨#[32]⟩ : ByteArray).size = 1 := rfl
    have := h.le
    omega

end Go.Proofs.Ytnohkbdmnalmcaa
