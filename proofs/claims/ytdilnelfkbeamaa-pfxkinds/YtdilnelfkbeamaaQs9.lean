/-
  slices.pdqsortOrdered at uint32 sorts its stretch.
-/
import Derived.Test.YtdilnelfkbeamaaQs8
namespace Go.Proofs.Ytdilnelfkbeamaa
open Go.RowKit Go.Shelf
open Go.Sort (Holds putRow PermIn SortedIn Below ltInt swp size_swp swp_permIn permIn_refl permIn_trans permIn_all permIn_mono swo_ltInt swp_get insertionSort insertionSort_holds)

theorem sorted_le {a b : Nat} {d : Array Int} (h : SortedIn ltInt a b d) (i j : Nat) (h1 : a ≤ i) (h2 : i < j) (h3 : j < b) : d[i]! ≤ d[j]! := lt_false (h i j h1 h2 h3)
theorem ltInt_false {x y : Int} (h : y ≤ x) : ltInt x y = false := by unfold ltInt; exact decide_eq_false (by omega)

/-- Two sorted stretches side by side, no number of the first above one of the second. -/
theorem sorted_glue {a m b : Nat} {d : Array Int} (h1 : SortedIn ltInt a m d) (h2 : SortedIn ltInt m b d) (h : ∀ i j, a ≤ i → i < m → m ≤ j → j < b → d[i]! ≤ d[j]!) : SortedIn ltInt a b d := by
  intro i j hi hij hj
  by_cases e1 : j < m
  · exact h1 i j hi hij e1
  · by_cases e2 : m ≤ i
    · exact h2 i j e2 hij hj
    · exact ltInt_false (h i j hi (by omega) (by omega) hj)

theorem below_le {a b : Nat} {d : Array Int} (h : Below ltInt a b d) (ha : 0 < a) (i : Nat) (h1 : a ≤ i) (h2 : i < b) : d[a - 1]! ≤ d[i]! := by
  rcases h with h | h
  · omega
  · exact lt_false (h i h1 h2)

/-- pdqsort's loop: what is left to do is to sort [a', b'). -/
structure PInv (w0 : World) (blk off : Nat) (d : Array Int) (a b a' b' : Nat) (dk : Array Int) (W : World) : Prop where
  size : dk.size = d.size
  bs : b ≤ d.size
  perm : PermIn a b d dk
  aa : a ≤ a'
  ab : a' ≤ b'
  bb : b' ≤ b
  bel : Below ltInt a' b' dk
  fin : ∀ d2, PermIn a' b' dk d2 → SortedIn ltInt a' b' d2 → SortedIn ltInt a b d2
  sw : SWu w0 blk off dk W

variable {w0 : World} {blk off : Nat} {d d0 : Array Int} {a b a' b' : Nat} {dk d1 : Array Int} {W W1 : World}

theorem PInv.on (h : PInv w0 blk off d a b a' b' dk W) (hP : PermIn a' b' dk d1) (hS : SWu w0 blk off d1 W1) : PInv w0 blk off d a b a' b' d1 W1 :=
  ⟨hP.1.trans h.size, h.bs, permIn_trans _ _ _ _ _ h.perm (permIn_mono dk d1 a' b' a b h.aa h.bb (by rw [h.size]; exact h.bs) hP), h.aa, h.ab, h.bb,
    Below.permA permIn_all (by rw [h.size]; have := h.bb; have := h.bs; omega) h.bel hP, fun d2 h1 h2 => h.fin d2 (permIn_trans _ _ _ _ _ hP h1) h2, hS⟩

theorem PInv.same (h : PInv w0 blk off d a b a' b' dk W) (hS : SWu w0 blk off dk W1) : PInv w0 blk off d a b a' b' dk W1 := h.on (permIn_refl _ _ _) hS

/-- Done. -/
theorem PInv.done (h : PInv w0 blk off d a b a' b' dk W) (hP : PermIn a' b' dk d1) (hs : SortedIn ltInt a' b' d1) : PermIn a b d d1 ∧ SortedIn ltInt a b d1 :=
  ⟨permIn_trans _ _ _ _ _ h.perm (permIn_mono dk d1 a' b' a b h.aa h.bb (by rw [h.size]; exact h.bs) hP), h.fin d1 hP hs⟩

/-- The numbers like the one before a' are put first. -/
theorem PInv.equal (h : PInv w0 blk off d a b a' b' dk W) (v : Int) (hv : ∀ i, a' ≤ i → i < b' → v ≤ dk[i]!) (m : Nat) (hm : a' < m) (hmb : m ≤ b') (hP : PermIn a' b' dk d1)
    (hlo : ∀ t, a' ≤ t → t < m → d1[t]! ≤ v) (hhi : ∀ t, m ≤ t → t < b' → v < d1[t]!) (hS : SWu w0 blk off d1 W1) : PInv w0 blk off d a b m b' d1 W1 := by
  have hbs : b' ≤ dk.size := by rw [h.size]; have := h.bb; have := h.bs; omega
  have hall := permIn_all dk d1 a' b' (fun x => v ≤ x) hbs hP hv
  have h1 := h.on hP hS
  refine ⟨h1.size, h.bs, h1.perm, by have := h.aa; omega, hmb, h.bb, Or.inr fun i h2 h3 => ltInt_false ?_, fun d2 hP2 hs2 => h1.fin d2 (permIn_mono d1 d2 m b' a' b' (by omega) (Nat.le_refl _) (by rw [hP.1]; exact hbs) hP2) ?_, hS⟩
  · have e1 := hlo (m - 1) (by omega) (by omega)
    have e2 := hhi i h2 h3
    omega
  · have g2 := permIn_all d1 d2 m b' (fun x => v ≤ x) (by rw [hP.1]; exact hbs) hP2 (fun i h3 h4 => hall i (by omega) h4)
    have keep : ∀ t, t < m → d2[t]! = d1[t]! := fun t ht => hP2.2.1 t (Or.inl ht)
    refine sorted_glue (fun i j h3 h4 h5 => ?_) hs2 (fun i j h3 h4 h5 h6 => ?_)
    · rw [keep i (by omega), keep j h5]
      have e1 := hlo i h3 (by omega)
      have e2 := hall j (by omega) (by omega)
      exact ltInt_false (by omega)
    · rw [keep i h4]
      have e1 := hlo i h3 h4
      have e2 := g2 j h5 h6
      omega

/-- Parted at m, the left side sorted. -/
theorem PInv.left (h : PInv w0 blk off d a b a' b' dk W) (m : Nat) (hm : a' ≤ m) (hmb : m < b') (hlo : ∀ t, a' ≤ t → t < m → dk[t]! ≤ dk[m]!) (hhi : ∀ t, m < t → t < b' → dk[m]! ≤ dk[t]!)
    (hP : PermIn a' m dk d1) (hs : SortedIn ltInt a' m d1) (hS : SWu w0 blk off d1 W1) : PInv w0 blk off d a b (m + 1) b' d1 W1 := by
  have hbs : b' ≤ dk.size := by rw [h.size]; have := h.bb; have := h.bs; omega
  have hP' : PermIn a' b' dk d1 := permIn_mono dk d1 a' m a' b' (Nat.le_refl _) (by omega) hbs hP
  have h1 := h.on hP' hS
  have hl := permIn_all dk d1 a' m (fun x => x ≤ dk[m]!) (by omega) hP hlo
  have keep : ∀ t, m ≤ t → d1[t]! = dk[t]! := fun t ht => hP.2.1 t (Or.inr ht)
  refine ⟨h1.size, h.bs, h1.perm, by have := h.aa; omega, by omega, h.bb, Or.inr fun i h2 h3 => ltInt_false ?_, fun d2 hP2 hs2 => h1.fin d2 (permIn_mono d1 d2 (m + 1) b' a' b' (by omega) (Nat.le_refl _) (by rw [hP.1]; exact hbs) hP2) ?_, hS⟩
  · rw [Nat.add_sub_cancel, keep m (Nat.le_refl _), keep i (by omega)]
    exact hhi i (by omega) h3
  · have g2 := permIn_all d1 d2 (m + 1) b' (fun x => dk[m]! ≤ x) (by rw [hP.1]; exact hbs) hP2 (fun i h3 h4 => by rw [keep i (by omega)]; exact hhi i (by omega) h4)
    have keep2 : ∀ t, t < m + 1 → d2[t]! = d1[t]! := fun t ht => hP2.2.1 t (Or.inl ht)
    refine sorted_glue (m := m + 1) (fun i j h3 h4 h5 => ?_) hs2 (fun i j h3 h4 h5 h6 => ?_)
    · rw [keep2 i (by omega), keep2 j h5]
      by_cases e : j = m
      · rw [e, keep m (Nat.le_refl _)]
        exact ltInt_false (hl i h3 (by omega))
      · exact hs i j h3 h4 (by omega)
    · rw [keep2 i h4]
      have e2 := g2 j h5 h6
      by_cases e : i = m
      · rw [e, keep m (Nat.le_refl _)]; exact e2
      · have := hl i h3 (by omega)
        omega

/-- Parted at m, the right side sorted. -/
theorem PInv.right (h : PInv w0 blk off d a b a' b' dk W) (m : Nat) (hm : a' ≤ m) (hmb : m < b') (hlo : ∀ t, a' ≤ t → t < m → dk[t]! ≤ dk[m]!) (hhi : ∀ t, m < t → t < b' → dk[m]! ≤ dk[t]!)
    (hP : PermIn (m + 1) b' dk d1) (hs : SortedIn ltInt (m + 1) b' d1) (hS : SWu w0 blk off d1 W1) : PInv w0 blk off d a b a' m d1 W1 := by
  have hbs : b' ≤ dk.size := by rw [h.size]; have := h.bb; have := h.bs; omega
  have hP' : PermIn a' b' dk d1 := permIn_mono dk d1 (m + 1) b' a' b' (by omega) (Nat.le_refl _) hbs hP
  have h1 := h.on hP' hS
  have hl := permIn_all dk d1 (m + 1) b' (fun x => dk[m]! ≤ x) hbs hP (fun i h3 h4 => hhi i (by omega) h4)
  have keep : ∀ t, t < m + 1 → d1[t]! = dk[t]! := fun t ht => hP.2.1 t (Or.inl ht)
  refine ⟨h1.size, h.bs, h1.perm, h.aa, hm, by have := h.bb; omega, ?_, fun d2 hP2 hs2 => h1.fin d2 (permIn_mono d1 d2 a' m a' b' (Nat.le_refl _) (by omega) (by rw [hP.1]; exact hbs) hP2) ?_, hS⟩
  · rcases h1.bel with e | e
    · exact Or.inl e
    · exact Or.inr fun i h3 h4 => e i h3 (by omega)
  · have g2 := permIn_all d1 d2 a' m (fun x => x ≤ dk[m]!) (by rw [hP.1]; omega) hP2 (fun i h3 h4 => by rw [keep i (by omega)]; exact hlo i h3 h4)
    have keep2 : ∀ t, m ≤ t → d2[t]! = d1[t]! := fun t ht => hP2.2.1 t (Or.inr ht)
    refine sorted_glue (m := m) hs2 (fun i j h3 h4 h5 => ?_) (fun i j h3 h4 h5 h6 => ?_)
    · rw [keep2 i h3, keep2 j (by omega)]
      by_cases e : i = m
      · rw [e, keep m (by omega)]
        exact ltInt_false (hl j (by omega) h5)
      · exact hs i j (by omega) h4 h5
    · rw [keep2 j h5]
      have e1 := g2 i h3 h4
      by_cases e : j = m
      · rw [e, keep m (by omega)]; exact e1
      · have := hl j (by omega) h6
        omega

theorem insertion_sw (cap : Nat) (R : RowU w0 blk off d0) (hs : d.size = d0.size) (hab : a ≤ b) (hb : b ≤ d.size) (hsz : d.size < 4611686018427387904) (h : SWu w0 blk off d W) :
    Calls Try.prog 48 #[.slice (some ⟨blk, off, none⟩) d.size cap, .int .i64 a, .int .i64 b] W fun e W' =>
      e = .returned (.tuple #[]) ∧ ∃ d', PermIn a b d d' ∧ SortedIn ltInt a b d' ∧ SWu w0 blk off d' W' := by
  refine (insertion_any blk off cap a b d W (h.holds R.hblk R.hH hs) hab hb hsz).mono ?_
  rintro e W' ⟨rfl, n, rfl⟩
  have hi := insertionSort_holds (lt := ltInt) swo_ltInt d a b hab hb
  refine ⟨rfl, _, hi.1, hi.2, ?_⟩
  have := h.on R.hblk n (insertionSort ltInt d a b) #[] hi.1.1
  unfold sortWorld at this
  rwa [Go.Sort.grow_empty] at this
end Go.Proofs.Ytdilnelfkbeamaa
