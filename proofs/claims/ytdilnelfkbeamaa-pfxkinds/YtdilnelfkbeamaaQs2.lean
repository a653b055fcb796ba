/-
  slices.Sort's parts at uint32: order2, median, medianAdjacent, choosePivot: the row stays; the pivot lies within.
-/
import Derived.Test.YtdilnelfkbeamaaQs1
namespace Go.Proofs.Ytdilnelfkbeamaa
open Go.RowKit
open Go.Sort (Holds putRow PermIn SortedIn ltInt swp)

/-- A counter of the call's own, beside the row. -/
structure Cnt (w0 : World) (blk off : Nat) (d : Array Int) (sb : Nat) (s : Int) (W : World) : Prop where
  sw : SWu w0 blk off d W
  new : w0.heap.size ≤ sb
  cell : W.cell? ⟨sb, 0, none⟩ = some (.int .i64 s)
  fz : W.frozen? ⟨sb, 0, none⟩ = false
  lo : 0 ≤ s

theorem Cnt.drewN {w0 : World} {blk off : Nat} {d : Array Int} {sb : Nat} {s : Int} {W : World} (h : Cnt w0 blk off d sb s W) (n : Nat) : Cnt w0 blk off d sb s (W.drewN n) :=
  ⟨h.sw.drewN n, h.new, h.cell, h.fz, h.lo⟩

theorem Cnt.set {w0 : World} {blk off : Nat} {d : Array Int} {sb : Nat} {s : Int} {W : World} (h : Cnt w0 blk off d sb s W) (t : Int) (ht : 0 ≤ t) : Cnt w0 blk off d sb t (W.setCell ⟨sb, 0, none⟩ (.int .i64 t)) :=
  ⟨h.sw.setCell_new sb 0 _ h.new, h.new, World.cell?_setCell_same _ _ _ h.cell, by rw [World.frozen?_setCell]; exact h.fz, ht⟩

set_option maxHeartbeats 1000000 in
theorem order2_any (w0 : World) (blk off cap a b : Nat) (d0 d : Array Int) (sb : Nat) (s : Int) (W : World) (R : RowU w0 blk off d0) (hs : d.size = d0.size) (ha : a < d.size) (hb : b < d.size) (hS : s ≤ 1000) (h : Cnt w0 blk off d sb s W) :
    Calls Try.prog 65 #[.slice (some ⟨blk, off, none⟩) d.size cap, .int .i64 a, .int .i64 b, .pointer (some ⟨sb, 0, none⟩)] W fun e W' =>
      ∃ (p q : Nat) (t : Int), e = .returned (.tuple #[.int .i64 p, .int .i64 q]) ∧ (p = a ∧ q = b ∨ p = b ∧ q = a) ∧ t ≤ s + 1 ∧ Cnt w0 blk off d sb t W' := by
  obtain ⟨G, hG, hcw, hfw⟩ := fam R h.sw hs
  have hca := hcw a ha
  have hcb := hcw b hb
  have hc := h.cell
  have hf := h.fz
  have hlo := h.lo
  clear hG hcw hfw
  cases hl : ltInt (G b) (G a) with
  | true =>
    have hless := fun V => less_any (G b) (G a) V
    rw [hl] at hless
    clear hl
    go_enter Try.func65, Try.ntmps65
    go_wp2_with fail
    go_quiet (first | (go_at_call 54; refine Calls.quiet_of_same (hless _)))
    have hn := (h.drewN nq).set (s + 1) (by omega)
    go_wp2_with fail
    go_ret2
    exact ⟨b, a, s + 1, rfl, Or.inr ⟨rfl, rfl⟩, by omega, hn⟩
  | false =>
    have hless := fun V => less_any (G b) (G a) V
    rw [hl] at hless
    clear hl
    go_enter Try.func65, Try.ntmps65
    go_wp2_with fail
    go_quiet (first | (go_at_call 54; refine Calls.quiet_of_same (hless _)))
    go_wp2_with fail
    go_ret2
    exact ⟨a, b, s, rfl, Or.inl ⟨rfl, rfl⟩, by omega, h.drewN nq⟩

set_option maxHeartbeats 1000000 in
theorem median_any (w0 : World) (blk off cap a b c : Nat) (d0 d : Array Int) (sb : Nat) (s : Int) (W : World) (R : RowU w0 blk off d0) (hs : d.size = d0.size) (ha : a < d.size) (hb : b < d.size) (hc : c < d.size) (hS : s ≤ 900) (h : Cnt w0 blk off d sb s W) :
    Calls Try.prog 63 #[.slice (some ⟨blk, off, none⟩) d.size cap, .int .i64 a, .int .i64 b, .int .i64 c, .pointer (some ⟨sb, 0, none⟩)] W fun e W' =>
      ∃ (m : Nat) (t : Int), e = .returned (.int .i64 m) ∧ (m = a ∨ m = b ∨ m = c) ∧ t ≤ s + 3 ∧ Cnt w0 blk off d sb t W' := by
  have HS : Hid (d.size = d0.size) := hs
  clear hs
  go_enter Try.func63, Try.ntmps63
  go_wp2_with fail
  refine (order2_any w0 blk off cap a b d0 d sb s W R HS.out ha hb (by omega) h).mono ?_
  rintro e W1 ⟨p1, q1, t1, rfl, h1, l1, C1⟩
  have hp1 : p1 < d.size := by omega
  have hq1 : q1 < d.size := by omega
  have H1 : Hid (p1 = a ∧ q1 = b ∨ p1 = b ∧ q1 = a) := h1
  clear h1
  go_wp2_with fail
  refine (order2_any w0 blk off cap q1 c d0 d sb t1 W1 R HS.out hq1 hc (by omega) C1).mono ?_
  rintro e W2 ⟨p2, q2, t2, rfl, h2, l2, C2⟩
  have hp2 : p2 < d.size := by omega
  have H2 : Hid (p2 = q1 ∧ q2 = c ∨ p2 = c ∧ q2 = q1) := h2
  clear h2
  go_wp2_with fail
  refine (order2_any w0 blk off cap p1 p2 d0 d sb t2 W2 R HS.out hp1 hp2 (by omega) C2).mono ?_
  rintro e W3 ⟨p3, q3, t3, rfl, h3, l3, C3⟩
  have H3 : Hid (p3 = p1 ∧ q3 = p2 ∨ p3 = p2 ∧ q3 = p1) := h3
  clear h3
  go_wp2_with fail
  go_ret
  refine ⟨q3, t3, rfl, ?_, by omega, C3⟩
  have h1 := H1.out
  have h2 := H2.out
  have h3 := H3.out
  omega

set_option maxHeartbeats 1000000 in
theorem medianAdj_any (w0 : World) (blk off cap x : Nat) (d0 d : Array Int) (sb : Nat) (s : Int) (W : World) (R : RowU w0 blk off d0) (hs : d.size = d0.size) (hb : x + 2 < d.size) (hsz : d.size < 4611686018427387904) (hS : s ≤ 900) (h : Cnt w0 blk off d sb s W) :
    Calls Try.prog 62 #[.slice (some ⟨blk, off, none⟩) d.size cap, .int .i64 ((x : Int) + 1), .pointer (some ⟨sb, 0, none⟩)] W fun e W' =>
      ∃ (m : Nat) (t : Int), e = .returned (.int .i64 m) ∧ x ≤ m ∧ m ≤ x + 2 ∧ t ≤ s + 3 ∧ Cnt w0 blk off d sb t W' := by
  have hm := median_any w0 blk off cap x (x + 1) (x + 2) d0 d sb s W R hs (by omega) (by omega) (by omega) hS h
  have e1 : (((x + 1 : Nat) : Int)) = (x : Int) + 1 := by omega
  have e2 : (((x + 2 : Nat) : Int)) = (x : Int) + 1 + 1 := by omega
  rw [e1, e2] at hm
  clear hs e1 e2 h
  go_enter Try.func62, Try.ntmps62
  go_wp2_with fail
  refine hm.mono ?_
  rintro e W1 ⟨m, t, rfl, h1, l1, C1⟩
  have H1 : Hid (m = x ∨ m = x + 1 ∨ m = x + 2) := h1
  clear h1 hm
  go_wp2_with fail
  go_ret
  refine ⟨m, t, rfl, ?_, ?_, l1, C1⟩ <;> (have h1 := H1.out; omega)

theorem medianAdj_at (w0 : World) (blk off cap x : Nat) (z : Int) (hz : z = (x : Int) + 1) (d0 d : Array Int) (sb : Nat) (s : Int) (W : World) (R : RowU w0 blk off d0) (hs : d.size = d0.size) (hb : x + 2 < d.size) (hsz : d.size < 4611686018427387904) (hS : s ≤ 900) (h : Cnt w0 blk off d sb s W) :
    Calls Try.prog 62 #[.slice (some ⟨blk, off, none⟩) d.size cap, .int .i64 z, .pointer (some ⟨sb, 0, none⟩)] W fun e W' =>
      ∃ (m : Nat) (t : Int), e = .returned (.int .i64 m) ∧ x ≤ m ∧ m ≤ x + 2 ∧ t ≤ s + 3 ∧ Cnt w0 blk off d sb t W' := by
  subst hz
  exact medianAdj_any w0 blk off cap x d0 d sb s W R hs hb hsz hS h

theorem median_at (w0 : World) (blk off cap a b c : Nat) (za zb zc : Int) (ea : za = a) (eb : zb = b) (ec : zc = c) (d0 d : Array Int) (sb : Nat) (s : Int) (W : World) (R : RowU w0 blk off d0) (hs : d.size = d0.size) (ha : a < d.size) (hb : b < d.size) (hc : c < d.size) (hS : s ≤ 900) (h : Cnt w0 blk off d sb s W) :
    Calls Try.prog 63 #[.slice (some ⟨blk, off, none⟩) d.size cap, .int .i64 za, .int .i64 zb, .int .i64 zc, .pointer (some ⟨sb, 0, none⟩)] W fun e W' =>
      ∃ (m : Nat) (t : Int), e = .returned (.int .i64 m) ∧ (m = a ∨ m = b ∨ m = c) ∧ t ≤ s + 3 ∧ Cnt w0 blk off d sb t W' := by
  subst ea eb ec
  exact median_any w0 blk off cap a b c d0 d sb s W R hs ha hb hc hS h

theorem Cnt.start {w0 : World} {blk off : Nat} {d : Array Int} {W : World} (h : SWu w0 blk off d W) : Cnt w0 blk off d W.heap.size 0 (W.alloc (.cells #[.int .i64 0] 3)) :=
  ⟨h.alloc _, h.le, by simp [go_sem], by simp [go_sem], by omega⟩

set_option maxHeartbeats 2000000 in
theorem choosePivot_any (w0 : World) (blk off cap a l : Nat) (d0 d : Array Int) (W : World) (R : RowU w0 blk off d0) (hs : d.size = d0.size) (hl : 0 < l) (hb : a + l ≤ d.size) (hsz : d.size < 4611686018427387904) (h : SWu w0 blk off d W) :
    Calls Try.prog 51 #[.slice (some ⟨blk, off, none⟩) d.size cap, .int .i64 a, .int .i64 ((a : Int) + l)] W fun e W' =>
      ∃ (p : Nat) (hint : Int), e = .returned (.tuple #[.int .i64 p, .int .i64 hint]) ∧ a ≤ p ∧ p < a + l ∧ 0 ≤ hint ∧ hint ≤ 2 ∧ SWu w0 blk off d W' := by
  have C0 := Cnt.start h
  have HS : Hid (d.size = d0.size) := hs
  clear hs h
  by_cases h8 : 8 ≤ l
  · by_cases h50 : 50 ≤ l
    · go_enter Try.func51, Try.ntmps51
      go_wp2_with fail
      refine (medianAdj_at w0 blk off cap (a + l / 4 - 1) _ (by omega) d0 d _ 0 _ R HS.out (by omega) hsz (by omega) C0).mono ?_
      rintro e W1 ⟨m1, t1, rfl, l1, u1, s1, C1⟩
      clear C0
      go_wp2_with fail
      refine (medianAdj_at w0 blk off cap (a + l / 4 * 2 - 1) _ (by omega) d0 d _ t1 _ R HS.out (by omega) hsz (by omega) C1).mono ?_
      rintro e W2 ⟨m2, t2, rfl, l2, u2, s2, C2⟩
      clear C1
      go_wp2_with fail
      refine (medianAdj_at w0 blk off cap (a + l / 4 * 3 - 1) _ (by omega) d0 d _ t2 _ R HS.out (by omega) hsz (by omega) C2).mono ?_
      rintro e W3 ⟨m3, t3, rfl, l3, u3, s3, C3⟩
      clear C2
      go_wp2_with fail
      refine (median_at w0 blk off cap m1 m2 m3 _ _ _ rfl rfl rfl d0 d _ t3 _ R HS.out (by omega) (by omega) (by omega) (by omega) C3).mono ?_
      rintro e W4 ⟨m4, t4, rfl, hm4, s4, C4⟩
      have p1 : a ≤ m4 := by omega
      have p2 : m4 < a + l := by omega
      clear C3 hm4
      have hcell := C4.cell
      by_cases t0 : t4 = 0
      · subst t0
        go_wp2_with fail
        go_ret2
        exact ⟨m4, 1, rfl, p1, p2, by omega, by omega, C4.sw⟩
      · have e0 : (t4 == 0) = false := by simpa using t0
        by_cases t12 : t4 = 12
        · subst t12
          go_wp2_with fail
          go_ret2
          exact ⟨m4, 2, rfl, p1, p2, by omega, by omega, C4.sw⟩
        · have e12 : (t4 == 12) = false := by simpa using t12
          go_wp2_with fail
          go_ret2
          exact ⟨m4, 0, rfl, p1, p2, by omega, by omega, C4.sw⟩
    · go_enter Try.func51, Try.ntmps51
      go_wp2_with fail
      refine (median_at w0 blk off cap (a + l / 4) (a + l / 4 * 2) (a + l / 4 * 3) _ _ _ (by omega) (by omega) (by omega) d0 d _ 0 _ R HS.out (by omega) (by omega) (by omega) (by omega) C0).mono ?_
      rintro e W4 ⟨m4, t4, rfl, hm4, s4, C4⟩
      have p1 : a ≤ m4 := by omega
      have p2 : m4 < a + l := by omega
      clear C0 hm4
      have hcell := C4.cell
      by_cases t0 : t4 = 0
      · subst t0
        go_wp2_with fail
        go_ret2
        exact ⟨m4, 1, rfl, p1, p2, by omega, by omega, C4.sw⟩
      · have e0 : (t4 == 0) = false := by simpa using t0
        have e12 : (t4 == 12) = false := by simp; omega
        go_wp2_with fail
        go_ret2
        exact ⟨m4, 0, rfl, p1, p2, by omega, by omega, C4.sw⟩
  · have hcell := C0.cell
    have hq : ((a : Int) + l - a) / 4 * 2 = ((l / 4 * 2 : Nat) : Int) := by omega
    have HQ : Hid (((a : Int) + l - a) / 4 * 2 = ((l / 4 * 2 : Nat) : Int)) := hq
    clear hq
    go_enter Try.func51, Try.ntmps51
    go_wp2_with fail
    go_ret2
    refine ⟨a + l / 4 * 2, 1, ?_, by omega, by omega, by omega, by omega, C0.sw⟩
    have e : (((a + l / 4 * 2 : Nat) : Int)) = (a : Int) + ((a : Int) + l - a) / 4 * 2 := by rw [HQ.out]; omega
    rw [e]
    rfl
end Go.Proofs.Ytdilnelfkbeamaa
