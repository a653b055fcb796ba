/-
  What stands between two places of a path; the walk of IpatSigns.
-/
import Derived.Test.YtjjlkjfhhpogaaaGreatDoorL3
namespace Go.Proofs.YtjjlkjfhhpogaaaGreatDoor
open Go.RowKit

/-- A bool tells whether. -/
def Tells (q : Bool) (p : Prop) : Prop := q = true ↔ p

/-- What has been found between two places, the first below i, or i itself and the second below k. -/
def AnyS (t : Tree) (l : List Int) (i k : Nat) : Prop := (∃ j k', j < i ∧ j ≤ k' ∧ k' ≤ l.length ∧ takes t (seg l j k')) ∨ ∃ k', i ≤ k' ∧ k' < k ∧ takes t (seg l i k')
theorem any_start (t : Tree) (l : List Int) : ¬ AnyS t l 0 0 := by
  rintro (⟨j, _, h, _⟩ | ⟨j, _, h, _⟩) <;> omega
theorem any_step {t : Tree} {l : List Int} {i k : Nat} (h : i ≤ k) : AnyS t l i (k + 1) ↔ AnyS t l i k ∨ takes t (seg l i k) := by
  constructor
  · rintro (h | ⟨j, a, b, c⟩)
    · exact Or.inl (Or.inl h)
    · by_cases e : j = k
      · subst e; exact Or.inr c
      · exact Or.inl (Or.inr ⟨j, a, by omega, c⟩)
  · rintro ((h | ⟨j, a, b, c⟩) | h')
    · exact Or.inl h
    · exact Or.inr ⟨j, a, by omega, c⟩
    · exact Or.inr ⟨k, h, by omega, h'⟩
theorem any_next {t : Tree} {l : List Int} {i : Nat} : AnyS t l (i + 1) (i + 1) ↔ AnyS t l i (l.length + 1) := by
  constructor
  · rintro (⟨j, k, a, b, c, d⟩ | ⟨j, a, b, c⟩)
    · by_cases e : j = i
      · subst e; exact Or.inr ⟨k, b, by omega, d⟩
      · exact Or.inl ⟨j, k, by omega, b, c, d⟩
    · omega
  · rintro (⟨j, k, a, b, c, d⟩ | ⟨j, a, b, c⟩)
    · exact Or.inl ⟨j, k, by omega, b, c, d⟩
    · exact Or.inl ⟨i, j, by omega, a, by omega, c⟩
theorem any_end {t : Tree} {l : List Int} : AnyS t l (l.length + 1) (l.length + 1) ↔ ∃ i k : Nat, i ≤ k ∧ k ≤ l.length ∧ takes t (seg l i k) := by
  constructor
  · rintro (⟨j, k, a, b, c, d⟩ | ⟨j, a, b, c⟩)
    · exact ⟨j, k, b, c, d⟩
    · omega
  · rintro ⟨j, k, b, c, d⟩
    exact Or.inl ⟨j, k, by omega, b, c, d⟩
theorem match_seg {t : Tree} (hr : rightT t = true) (hq : rightT (readT t) = true) (hg : goodT t) {l : List Int} (hl : l.length ≤ 20) (i k : Nat) : matchP (readT t) (seg l i k) ↔ takes t (seg l i k) := by
  rw [match_read hr hq hg]
  unfold matchP
  exact ⟨fun h => h.2.2, fun h => ⟨hr, by unfold seg; simp; omega, h⟩⟩
theorem match_some {t s : Tree} (hs : s = .mk 2 [] [stT allT, readT t, stT allT]) (hr : rightT s = true) (hk : kindsT t = true) (hg : goodT t) {l : List Int} (hl : l.length ≤ 20) (hb : ∀ n ∈ l, 0 ≤ n ∧ n ≤ 4294967295) : matchP s l ↔ AnyS t l (l.length + 1) (l.length + 1) := by
  subst hs
  unfold matchP
  rw [any_end, takes_some _ _ hb]
  constructor
  · rintro ⟨_, _, i, k, a, b, c⟩
    exact ⟨i, k, a, b, (takes_read _ t (Nat.le_refl _) hk hg _).1 c⟩
  · rintro ⟨i, k, a, b, c⟩
    exact ⟨hr, by omega, i, k, a, b, (takes_read _ t (Nat.le_refl _) hk hg _).2 c⟩

/-- A part of a row. -/
theorem row_seg {w : World} {b off n c : Nat} {l : List Int} (h : RowN w (.slice (some ⟨b, off, none⟩) n c) l) (i k : Nat) (hik : i ≤ k) (hk : k ≤ n) (m c' : Nat) (hm : m = k - i) (hc : n ≤ c) : RowN w (.slice (if c = i then some ⟨b, off, none⟩ else some ⟨b, off + i, none⟩) m c') (seg l i k) := by
  obtain ⟨ao, cap, e, h1, h2⟩ := h
  injection e with e1 e2 e3
  subst e1 e2 e3 hm
  refine ⟨_, c', by rw [show (seg l i k).length = k - i by unfold seg; simp; omega], fun hne => ?_, fun e => by split at e <;> cases e⟩
  have hlt : i < k := by
    rcases Nat.lt_or_ge i k with h | h
    · exact h
    · exact absurd (List.length_eq_zero_iff.1 (by unfold seg; simp; omega)) hne
  obtain ⟨b', off', e, hb, hcell⟩ := h1 (by intro e; subst e; simp at hk; omega)
  injection e with e
  injection e with ea eb
  subst ea eb
  refine ⟨b, off + i, by rw [if_neg (by omega)], hb, fun j x hx q y hy => ?_⟩
  have hx2 : l[i + j]? = some x := by
    unfold seg at hx
    simp only [List.getElem?_take, List.getElem?_drop] at hx
    split at hx
    · rw [← hx]
    · cases hx
  have := hcell (i + j) x hx2 q y hy
  rw [show off + i + j * 1 + q = off + (i + j) * 1 + q by omega]
  exact this
theorem row_nilS (W : World) {ao : Option Addr} {n c : Nat} {l : List Int} (hl : l = []) (hn : n = 0) (h : ao = none → c = 0) : RowN W (.slice ao n c) l := by
  subst hl hn
  exact ⟨ao, c, rfl, fun h => absurd rfl h, h⟩

/-- Two patterns in two boxes. -/
structure BZ (w : World) (y z : PC) (b c : Nat) (t s : Tree) (W : World) : Prop where
  bel : Below w.heap.size w W
  one : Blk W b (encT y).toArray 26
  two : Blk W c (encT z).toArray 26
  held : HT W t y
  held2 : HT W s z
theorem BZ.go {w : World} {y z : PC} {b c : Nat} {t s : Tree} {W W' : World} (h : BZ w y z b c t s W) (g : Below W.heap.size W W') : BZ w y z b c t s W' := ⟨bstep h.bel g, h.one.bel g, h.two.bel g, HT.bel g h.held, HT.bel g h.held2⟩

theorem whole_parts (t : Tree) : (⟨(wholeX t).toArray⟩ : ByteArray).size = (textT styI t 0).length + 2 ∧ (⟨(wholeX t).toArray⟩ : ByteArray).extract 1 ((textT styI t 0).length + 1) = ⟨(textT styI t 0).toArray⟩ := by
  refine ⟨by show (wholeX t).toArray.size = _; simp [wholeX], ?_⟩
  apply ByteArray.ext
  rw [ByteArray.data_extract]
  show (wholeX t).toArray.extract 1 ((textT styI t 0).length + 1) = _
  apply Array.ext'
  simp [wholeX]

set_option maxRecDepth 100000 in
set_option maxHeartbeats 8000000 in
theorem law_signs (t : Tree) (x : PC) (pv : Value) (l : List Int) (w : World) (hok : okT t) (hg : goodT t) (hx : HT w t x) (hp : RowN w pv l) (hcap : ∀ ao n c, pv = .slice ao n c → n ≤ c) (hbd : ∀ n ∈ l, 0 ≤ n ∧ n ≤ 4294967295) (hl : l.length ≤ 4611686018427387903) (hT : Tab w) (hP : TabP w) :
    Calls Tryz.prog 6 #[x.v, pv] w fun e w' => e = .returned (.bool true) ∧ Below w.heap.size w w' := by
  have kal := fun W h => alive_any W h
  have kg := fun W h => great_any t x W hok h
  have kr := fun W h => right_any t x W hok h
  have kp := fun W h1 h2 => print_any t x W hok hg h1 h2
  have HX : Hid (HT w t x) := hx
  have HTb : Hid (Tab w) := hT
  have HTp : Hid (TabP w) := hP
  obtain ⟨pa, pc, rfl⟩ := hp.form
  have HP : Hid (RowN w (.slice pa l.length pc) l) := hp
  have hcp := hcap _ _ _ rfl
  have HBd : Hid (∀ n ∈ l, 0 ≤ n ∧ n ≤ 4294967295) := hbd
  obtain ⟨L, hL⟩ : ∃ L, L = l.length := ⟨_, rfl⟩
  have HL : Hid (L = l.length) := hL
  rw [← hL] at HP hl hcp ⊢
  obtain ⟨xk, ⟨x1, x2, x3⟩, x4, x5, x6⟩ := x
  have HOk : Hid (okT t) := hok
  have HGd : Hid (goodT t) := hg
  clear hx hT hP hp hL hok hg hcap hbd
  go_enter Tryz.func6, Tryz.ntmps6
  go_upto_region 1 with fail
  generalize hW : World.alloc _ _ = W
  have HI : Hid (BX w ⟨xk, ⟨x1, x2, x3⟩, ⟨x4, x5, x6⟩⟩ W) := by
    rw [← hW]
    exact ⟨(Below.refl _ _).alloc (Nat.le_refl _) _, Blk.new _ _ _⟩
  clear hW
  go_upto_region 3 with (go_at_call 10; refine (kal _ (HTp.out.bel HI.out.bel)).mono ?_; rintro _ w2 ⟨rfl, gw⟩; have I2 : Hid (BX w ⟨xk, ⟨x1, x2, x3⟩, ⟨x4, x5, x6⟩⟩ w2) := HI.out.go gw; clear gw; obtain ⟨e0, e1, e2⟩ := BlkT.cs I2.out.box)
  clear HI kal
  by_cases c1 : 3000 < size t
  · have kg2 : ∀ W, HT W t ⟨xk, ⟨x1, x2, x3⟩, ⟨x4, x5, x6⟩⟩ → Calls Tryz.prog 14 #[PC.v ⟨xk, ⟨x1, x2, x3⟩, ⟨x4, x5, x6⟩⟩] W fun e w' => e = .returned (.bool true) ∧ Gr W w' := fun W h => by have := kg W h; simpa [c1] using this
    clear kg kr kp
    go_wp2_with (go_at_call 14; refine (kg2 _ (HT.bel I2.out.bel HX.out)).mono ?_; rintro _ w3 ⟨rfl, gw⟩; have I3 : Hid (BX w ⟨xk, ⟨x1, x2, x3⟩, ⟨x4, x5, x6⟩⟩ w3) := I2.out.go gw.below; clear gw)
    go_ret
    exact ⟨rfl, I3.out.bel⟩
  have kg2 : ∀ W, HT W t ⟨xk, ⟨x1, x2, x3⟩, ⟨x4, x5, x6⟩⟩ → Calls Tryz.prog 14 #[PC.v ⟨xk, ⟨x1, x2, x3⟩, ⟨x4, x5, x6⟩⟩] W fun e w' => e = .returned (.bool false) ∧ Gr W w' := fun W h => by have := kg W h; simpa [c1] using this
  clear kg c1
  by_cases c2 : L ≤ 20
  case neg =>
    have c3 : decide ((20 : Int) < L) = true := by simp; omega
    clear kr kp
    go_wp2_with (go_at_call 14; refine (kg2 _ (HT.bel I2.out.bel HX.out)).mono ?_; rintro _ w3 ⟨rfl, gw⟩; have I3 : Hid (BX w ⟨xk, ⟨x1, x2, x3⟩, ⟨x4, x5, x6⟩⟩ w3) := I2.out.go gw.below; clear gw)
    go_ret
    exact ⟨rfl, I3.out.bel⟩
  have c3 : decide ((20 : Int) < L) = false := by simp; omega
  cases hr : rightT t with
  | false =>
    have kp2 : ∀ W, HT W t ⟨xk, ⟨x1, x2, x3⟩, ⟨x4, x5, x6⟩⟩ → TabP W → Calls Tryz.prog 16 #[PC.v ⟨xk, ⟨x1, x2, x3⟩, ⟨x4, x5, x6⟩⟩] W fun e w' => e = .returned (.tuple #[.string ⟨#[]⟩, .int .i64 4]) ∧ Below W.heap.size W w' := fun W h1 h2 => by
      have := kp W h1 h2
      rw [show printM t = ([], 4) by unfold printM; rw [hr]; rfl] at this
      exact this
    rw [hr] at kr
    clear kp hr
    go_wp2_with (first
      | (go_at_call 14; refine (kg2 _ (HT.bel I2.out.bel HX.out)).mono ?_; rintro _ w3 ⟨rfl, gw⟩; have I3 : Hid (BX w ⟨xk, ⟨x1, x2, x3⟩, ⟨x4, x5, x6⟩⟩ w3) := I2.out.go gw.below; clear gw; obtain ⟨f0, f1, f2⟩ := BlkT.cs I3.out.box)
      | (go_at_call 16; refine (kp2 _ (HT.bel I3.out.bel HX.out) (HTp.out.bel I3.out.bel)).mono ?_; rintro _ w4 ⟨rfl, gw⟩; have I4 : Hid (BX w ⟨xk, ⟨x1, x2, x3⟩, ⟨x4, x5, x6⟩⟩ w4) := I3.out.go gw; clear gw; obtain ⟨d0, d1, d2⟩ := BlkT.cs I4.out.box)
      | (go_at_call 18; refine (kr _ (HT.bel I4.out.bel HX.out)).mono ?_; rintro _ w5 ⟨rfl, gw⟩; have I5 : Hid (BX w ⟨xk, ⟨x1, x2, x3⟩, ⟨x4, x5, x6⟩⟩ w5) := I4.out.go gw.below; clear gw))
    go_ret
    exact ⟨rfl, I5.out.bel⟩
  | true =>
    have kp2 : ∀ W, HT W t ⟨xk, ⟨x1, x2, x3⟩, ⟨x4, x5, x6⟩⟩ → TabP W → Calls Tryz.prog 16 #[PC.v ⟨xk, ⟨x1, x2, x3⟩, ⟨x4, x5, x6⟩⟩] W fun e w' => e = .returned (.tuple #[.string ⟨(wholeX t).toArray⟩, .int .i64 0]) ∧ Below W.heap.size W w' := fun W h1 h2 => by
      have := kp W h1 h2
      rw [show printM t = (wholeX t, 0) by unfold printM; rw [hr]; rfl] at this
      exact this
    have HR : Hid (rightT t = true) := hr
    rw [hr] at kr
    clear kp hr
    obtain ⟨hsz, hex⟩ := whole_parts t
    have hlen := text_len styI okY_I _ t (Nat.le_refl _) (right_parts HR.out).1 (right_parts HR.out).2.2 HGd.out 0
    have hlen2 := (right_parts HR.out).1
    obtain ⟨M, hM⟩ : ∃ M, M = (textT styI t 0).length := ⟨_, rfl⟩
    rw [← hM] at hsz hex hlen
    have hM2 : M ≤ 8000000 := by omega
    have kq := back_whole (right_parts HR.out).2.2 HGd.out
    have ks := back_some (right_parts HR.out).2.2 HGd.out
    obtain ⟨t1, k1, h1⟩ : ∃ t1 k1, parseM (wholeX t) = (t1, k1) := ⟨_, _, rfl⟩
    obtain ⟨t2, k2, h2⟩ : ∃ t2 k2, parseM (textT styI t 0) = (t2, k2) := ⟨_, _, rfl⟩
    have kS : ∀ W, Calls Tryz.prog 11 #[.string ⟨(wholeX t).toArray⟩] W fun e w' => PostK t1 k1 W e w' := fun W => parse_str h1 W
    have kE : ∀ W (N : Nat), N = M + 1 → Calls Tryz.prog 11 #[.string ((⟨(wholeX t).toArray⟩ : ByteArray).extract 1 N)] W fun e w' => PostK t2 k2 W e w' := fun W N hN => by subst hN; rw [hex]; exact parse_str h2 W
    rw [h1] at kq
    rw [h2] at ks
    clear h1 h2 hex hM hlen hlen2
    generalize (⟨(wholeX t).toArray⟩ : ByteArray) = S at kp2 kS kE hsz
    have z1 : decide ((S.size : Int) < 2) = false := by rw [hsz]; simp; omega
    have z2 : wrap64 ((M : Int) + 1) = (M : Int) + 1 := by unfold wrap64; omega
    have z3 : (1 : Int) ≤ (M : Int) + 1 := by omega
    have z4 : (M : Int) + 1 ≤ (S.size : Int) := by omega
    have z5 : (S.size : Int) - 1 = (M : Int) + 1 := by omega
    have z6 : ((M : Int) + 1).toNat = M + 1 := by omega
    rcases kq with kq | kq
    · injection kq with e1 e2
      subst e1 e2
      have hk2 : k2 = 0 ∨ k2 = 6 := by rcases ks with e | e <;> injection e with _ e <;> simp [e]
      clear ks hsz hM2 kr
      go_wp2_with (first
        | (go_at_call 14; refine (kg2 _ (HT.bel I2.out.bel HX.out)).mono ?_; rintro _ w3 ⟨rfl, gw⟩; have I3 : Hid (BX w ⟨xk, ⟨x1, x2, x3⟩, ⟨x4, x5, x6⟩⟩ w3) := I2.out.go gw.below; clear gw; obtain ⟨f0, f1, f2⟩ := BlkT.cs I3.out.box)
        | (go_at_call 16; refine (kp2 _ (HT.bel I3.out.bel HX.out) (HTp.out.bel I3.out.bel)).mono ?_; rintro _ w4 ⟨rfl, gw⟩; have I4 : Hid (BX w ⟨xk, ⟨x1, x2, x3⟩, ⟨x4, x5, x6⟩⟩ w4) := I3.out.go gw; clear gw)
        | (go_at_call 11; (with_reducible refine (kS _).mono ?_); rintro _ w5 ⟨⟨r0, ⟨r1, r2, r3⟩, r4, r5, r6⟩, rfl, ht5, gw, hr5⟩; have HQR : Hid ((6 : Int) = 0 → rightT zeT = true) := hr5; have H5 : Hid (HT w5 zeT ⟨r0, ⟨r1, r2, r3⟩, ⟨r4, r5, r6⟩⟩) := ht5; have I5 : Hid (Below w.heap.size w w5) := bstep I4.out.bel gw; clear gw ht5 hr5)
        | (go_at_call 11; (with_reducible refine (kE _ _ (by first | rfl | assumption | omega)).mono ?_); rintro _ w6 ⟨⟨s0, ⟨s1, s2, s3⟩, s4, s5, s6⟩, rfl, ht6, gw, hr6⟩; have HQS : Hid (k2 = 0 → rightT t2 = true) := hr6; have H6 : Hid (HT w6 t2 ⟨s0, ⟨s1, s2, s3⟩, ⟨s4, s5, s6⟩⟩ ∧ HT w6 zeT ⟨r0, ⟨r1, r2, r3⟩, ⟨r4, r5, r6⟩⟩ ∧ Blk w6 w5.heap.size (encT ⟨r0, ⟨r1, r2, r3⟩, ⟨r4, r5, r6⟩⟩).toArray 26) := ⟨ht6, HT.bel gw (HT.bel (bel_alloc _ _) H5.out), (Blk.new _ _ _).bel gw⟩; have I6 : Hid (Below w.heap.size w w6) := bstep (bstep I5.out (bel_alloc _ _)) gw; have l6 : w5.heap.size < w6.heap.size := H6.out.2.2.lt; clear gw ht6 hr6))
      go_ret
      exact ⟨rfl, bstep I6.out (bel_alloc _ _)⟩
    injection kq with e1 e2
    subst e1 e2
    rcases ks with ks | ks
    · injection ks with e1 e2
      subst e1 e2
      clear hsz hM2 kr
      go_wp2_with (first
        | (go_at_call 14; refine (kg2 _ (HT.bel I2.out.bel HX.out)).mono ?_; rintro _ w3 ⟨rfl, gw⟩; have I3 : Hid (BX w ⟨xk, ⟨x1, x2, x3⟩, ⟨x4, x5, x6⟩⟩ w3) := I2.out.go gw.below; clear gw; obtain ⟨f0, f1, f2⟩ := BlkT.cs I3.out.box)
        | (go_at_call 16; refine (kp2 _ (HT.bel I3.out.bel HX.out) (HTp.out.bel I3.out.bel)).mono ?_; rintro _ w4 ⟨rfl, gw⟩; have I4 : Hid (BX w ⟨xk, ⟨x1, x2, x3⟩, ⟨x4, x5, x6⟩⟩ w4) := I3.out.go gw; clear gw)
        | (go_at_call 11; (with_reducible refine (kS _).mono ?_); rintro _ w5 ⟨⟨r0, ⟨r1, r2, r3⟩, r4, r5, r6⟩, rfl, ht5, gw, hr5⟩; have HQR : Hid ((0 : Int) = 0 → rightT (readT t) = true) := hr5; have H5 : Hid (HT w5 (readT t) ⟨r0, ⟨r1, r2, r3⟩, ⟨r4, r5, r6⟩⟩) := ht5; have I5 : Hid (Below w.heap.size w w5) := bstep I4.out.bel gw; clear gw ht5 hr5)
        | (go_at_call 11; (with_reducible refine (kE _ _ (by first | rfl | assumption | omega)).mono ?_); rintro _ w6 ⟨⟨s0, ⟨s1, s2, s3⟩, s4, s5, s6⟩, rfl, ht6, gw, hr6⟩; have HQS : Hid ((6 : Int) = 0 → rightT zeT = true) := hr6; have H6 : Hid (HT w6 zeT ⟨s0, ⟨s1, s2, s3⟩, ⟨s4, s5, s6⟩⟩ ∧ HT w6 (readT t) ⟨r0, ⟨r1, r2, r3⟩, ⟨r4, r5, r6⟩⟩ ∧ Blk w6 w5.heap.size (encT ⟨r0, ⟨r1, r2, r3⟩, ⟨r4, r5, r6⟩⟩).toArray 26) := ⟨ht6, HT.bel gw (HT.bel (bel_alloc _ _) H5.out), (Blk.new _ _ _).bel gw⟩; have I6 : Hid (Below w.heap.size w w6) := bstep (bstep I5.out (bel_alloc _ _)) gw; have l6 : w5.heap.size < w6.heap.size := H6.out.2.2.lt; clear gw ht6 hr6))
      go_ret
      exact ⟨rfl, bstep I6.out (bel_alloc _ _)⟩
    injection ks with e1 e2
    have HS2 : Hid (t2 = .mk 2 [] [stT allT, readT t, stT allT]) := e1
    subst e2
    clear e1 hsz hM2 kr
    go_upto_region 12 with (first
        | (go_at_call 14; refine (kg2 _ (HT.bel I2.out.bel HX.out)).mono ?_; rintro _ w3 ⟨rfl, gw⟩; have I3 : Hid (BX w ⟨xk, ⟨x1, x2, x3⟩, ⟨x4, x5, x6⟩⟩ w3) := I2.out.go gw.below; clear gw; obtain ⟨f0, f1, f2⟩ := BlkT.cs I3.out.box)
        | (go_at_call 16; refine (kp2 _ (HT.bel I3.out.bel HX.out) (HTp.out.bel I3.out.bel)).mono ?_; rintro _ w4 ⟨rfl, gw⟩; have I4 : Hid (BX w ⟨xk, ⟨x1, x2, x3⟩, ⟨x4, x5, x6⟩⟩ w4) := I3.out.go gw; clear gw)
        | (go_at_call 11; (with_reducible refine (kS _).mono ?_); rintro _ w5 ⟨⟨r0, ⟨r1, r2, r3⟩, r4, r5, r6⟩, rfl, ht5, gw, hr5⟩; have HQR : Hid ((0 : Int) = 0 → rightT (readT t) = true) := hr5; have H5 : Hid (HT w5 (readT t) ⟨r0, ⟨r1, r2, r3⟩, ⟨r4, r5, r6⟩⟩) := ht5; have I5 : Hid (Below w.heap.size w w5) := bstep I4.out.bel gw; clear gw ht5 hr5)
        | (go_at_call 11; (with_reducible refine (kE _ _ (by first | rfl | assumption | omega)).mono ?_); rintro _ w6 ⟨⟨s0, ⟨s1, s2, s3⟩, s4, s5, s6⟩, rfl, ht6, gw, hr6⟩; have HQS : Hid ((0 : Int) = 0 → rightT t2 = true) := hr6; have H6 : Hid (HT w6 t2 ⟨s0, ⟨s1, s2, s3⟩, ⟨s4, s5, s6⟩⟩ ∧ HT w6 (readT t) ⟨r0, ⟨r1, r2, r3⟩, ⟨r4, r5, r6⟩⟩ ∧ Blk w6 w5.heap.size (encT ⟨r0, ⟨r1, r2, r3⟩, ⟨r4, r5, r6⟩⟩).toArray 26) := ⟨ht6, HT.bel gw (HT.bel (bel_alloc _ _) H5.out), (Blk.new _ _ _).bel gw⟩; have I6 : Hid (Below w.heap.size w w6) := bstep (bstep I5.out (bel_alloc _ _)) gw; have l6 : w5.heap.size < w6.heap.size := H6.out.2.2.lt; clear gw ht6 hr6))
    generalize hW3 : World.alloc _ _ = W3
    have HS : Hid (BZ w ⟨r0, ⟨r1, r2, r3⟩, ⟨r4, r5, r6⟩⟩ ⟨s0, ⟨s1, s2, s3⟩, ⟨s4, s5, s6⟩⟩ w5.heap.size w6.heap.size (readT t) t2 W3) := by
      rw [← hW3]
      exact ⟨bstep I6.out (bel_alloc _ _), H6.out.2.2.alloc _, Blk.new _ _ _, HT.bel (bel_alloc _ _) H6.out.2.1, HT.bel (bel_alloc _ _) H6.out.1⟩
    have H5s : Hid (w5.heap.size = w5.heap.size) := rfl
    generalize w5.heap.size = b1 at *
    generalize w6.heap.size = b2 at *
    clear hW3 I2 I3 I4 I5 H5 I6 H6 e0 e1 e2 f0 f1 f2 kg2 kp2 kS kE l6 z1 z2 z3 z4 z5 z6 H5s
    have HQ1 := HQR.out trivial
    have HQ2 := HQS.out trivial
    have HMs : Hid (∀ i k, matchP (readT t) (seg l i k) ↔ takes t (seg l i k)) := match_seg HR.out HQ1 HGd.out (by have := HL.out; omega)
    have HMe : Hid (matchP t2 l ↔ AnyS t l (L + 1) (L + 1)) := by
      have := match_some HS2.out HQ2 (right_parts HR.out).2.2 HGd.out (l := l) (by have := HL.out; omega) HBd.out
      rw [← HL.out] at this
      exact this
    have HOk1 : Hid (okT (readT t)) := ok_right HQ1
    have HOk2 : Hid (okT t2) := ok_right HQ2
    have hmx : Tryz.prog.follows .mixedOrders = true := by kernel_rfl
    clear HQ1 HQ2 HQR HQS HS2 HBd HGd
    go_wp2_with fail
    go_loopw [11, 12] (fun va vi wr => ∃ (i : Nat) (c : Bool), i ≤ L + 1 ∧ vi = .int .i64 i ∧ va = .bool c ∧ Hid (BZ w ⟨r0, ⟨r1, r2, r3⟩, ⟨r4, r5, r6⟩⟩ ⟨s0, ⟨s1, s2, s3⟩, ⟨s4, s5, s6⟩⟩ b1 b2 (readT t) t2 wr) ∧ Hid (Tells c (AnyS t l i i))) (fun _ vi _ => L + 1 - (intOf vi).toNat)
    case atStart =>
      refine ⟨0, false, by omega, rfl, rfl, HS, ?_⟩
      show Tells _ _
      unfold Tells
      simp [any_start]
    case round =>
      clear HS
      obtain ⟨i, c, hi2, rfl, rfl, HS, HC⟩ := hrel
      by_cases hlt : i ≤ L
      case neg =>
        have hiL : i = L + 1 := by omega
        have hle : ¬ (i : Int) < (L : Int) + 1 := by omega
        have hle2 : ¬ (i : Int) ≤ (L : Int) := by omega
        have HCe : Hid (Tells c (matchP t2 l)) := by
          show Tells _ _
          unfold Tells
          rw [HMe.out, ← hiL]
          exact HC.out
        obtain ⟨n0, n1, n2⟩ := BlkT.cs HS.out.two
        clear HC hiL hlt
        have kM : ∀ W, Below w.heap.size w W → HT W t2 ⟨s0, ⟨s1, s2, s3⟩, ⟨s4, s5, s6⟩⟩ → Calls Tryz.prog 19 #[PC.v ⟨s0, ⟨s1, s2, s3⟩, ⟨s4, s5, s6⟩⟩, .slice pa L pc] W fun e w' => e = .returned (.bool c) ∧ Gr W w' := fun W hb hh => by
          refine (match_any t2 ⟨s0, ⟨s1, s2, s3⟩, ⟨s4, s5, s6⟩⟩ _ l _ HOk2.out hh (HP.out.bel hb) (HTb.out.bel hb) (by have := HL.out; omega)).mono ?_
          rintro e w' ⟨⟨q, rfl, hq⟩, gr⟩
          rw [bool_same hq HCe.out]
          exact ⟨rfl, gr⟩
        go_wp2_with (go_at_call 19; refine (kM _ HS.out.bel HS.out.held2).mono ?_; rintro _ w7 ⟨rfl, gw⟩; have B7 : Hid (Below w.heap.size w w7) := bstep HS.out.bel gw.below; clear gw)
        go_ret
        exact ⟨by simp, B7.out⟩
      case pos =>
        have j1 : (i : Int) < (L : Int) + 1 := by omega
        have j2 : (i : Int) ≤ (L : Int) := by omega
        go_wp2_with fail
        go_loopw [11, 13] (fun va vk wq => ∃ (k : Nat) (c : Bool), i ≤ k ∧ k ≤ L + 1 ∧ vk = .int .i64 k ∧ va = .bool c ∧ Hid (BZ w ⟨r0, ⟨r1, r2, r3⟩, ⟨r4, r5, r6⟩⟩ ⟨s0, ⟨s1, s2, s3⟩, ⟨s4, s5, s6⟩⟩ b1 b2 (readT t) t2 wq) ∧ Hid (Tells c (AnyS t l i k))) (fun _ vk _ => L + 1 - (intOf vk).toNat)
        case atStart =>
          exact ⟨i, c, by omega, by omega, rfl, rfl, HS, HC⟩
        case round =>
          clear HS HC
          obtain ⟨k, d, hk1, hk2, rfl, rfl, HS, HC⟩ := hrel
          by_cases hkt : k ≤ L
          case neg =>
            have hkL : k = L + 1 := by omega
            have hle : ¬ (k : Int) < (L : Int) + 1 := by omega
            have hle2 : ¬ (k : Int) ≤ (L : Int) := by omega
            have HC2 : Hid (Tells d (AnyS t l (i + 1) (i + 1))) := by
              show Tells _ _
              unfold Tells
              rw [any_next, ← HL.out, ← hkL]
              exact HC.out
            go_wp2_with fail
            go_roundw
            case rel => exact ⟨i + 1, d, by omega, by go_num, rfl, HS, HC2⟩
            case measure => simp [intOf]; omega
          case pos =>
            have k1 : (k : Int) < (L : Int) + 1 := by omega
            have k2 : (k : Int) ≤ (L : Int) := by omega
            have k3 : (i : Int) ≤ (k : Int) := by omega
            have k4 : (0 : Int) ≤ (i : Int) := by omega
            have k5 : (k : Int) ≤ (pc : Int) := by omega
            have k6 : (L : Int) ≤ (pc : Int) := by omega
            have k7 : (0 : Int) ≤ (k : Int) := by omega
            obtain ⟨q, hq⟩ := bool_of (takes t (seg l i k))
            have HQ : Hid (q = true ↔ takes t (seg l i k)) := hq
            clear hq
            have HC2 : Hid (Tells (d || q) (AnyS t l i (k + 1))) := by
              show Tells _ _
              unfold Tells
              rw [any_step hk1, Bool.or_eq_true]
              exact or_congr HC.out HQ.out
            have kM0 : ∀ (a : Option Addr) (c' : Nat) (W : World), Below wr.heap.size wr W → RowN W (.slice a (k - i) c') (seg l i k) → True := fun _ _ _ _ _ => trivial
            clear kM0
            have m0 := fun n os => (HS.out.one.grow n os).c 0
            have m1 := fun n os => (HS.out.one.grow n os).c 1
            have m2 := fun n os => (HS.out.one.grow n os).c 2
            simp [encT] at m0 m1 m2
            by_cases hL0 : L = 0
            case neg =>
              obtain ⟨v0, hv0⟩ : ∃ v, l[0]? = some v := ⟨_, List.getElem?_eq_getElem (by have := HL.out; omega)⟩
              obtain ⟨b, off, rfl, _, _⟩ := RowX.cs1 HP.out hv0
              clear hv0
              have kM : ∀ (n : Nat) (os : Array Obj), Calls Tryz.prog 19 #[PC.v ⟨r0, ⟨r1, r2, r3⟩, ⟨r4, r5, r6⟩⟩, .slice (if pc = i then some ⟨b, off, none⟩ else some ⟨b, off + i, none⟩) (k - i) (pc - i)] (Sort.grow (wr.drewN n) os) fun e w' => e = .returned (.bool q) ∧ ∃ q os', w' = Sort.grow ((Sort.grow (wr.drewN n) os).drewN q) os' := fun n os => by
                have g : Gr wr (Sort.grow (wr.drewN n) os) := ⟨n, os, rfl⟩
                have b1 := bstep HS.out.bel g.below
                refine (match_any (readT t) ⟨r0, ⟨r1, r2, r3⟩, ⟨r4, r5, r6⟩⟩ _ (seg l i k) _ HOk1.out (HS.out.go g.below).held (row_seg (HP.out.bel b1) i k hk1 hkt _ _ rfl hcp) (HTb.out.bel b1) (by unfold seg; simp; omega)).mono ?_
                rintro e w' ⟨⟨q', rfl, hq⟩, gr⟩
                rw [bool_same (hq.trans (HMs.out i k)) HQ.out]
                exact ⟨rfl, gr⟩
              cases d
              case false =>
                simp only [Bool.false_or] at HC2
                go_wp2_with fail
                refine wp_region_quiet_grownB (by assumption) (by kernel_rfl) ?_
                repeat (refine wpQuiet_stepB (fun K hK => ?_); go_simp; first | (refine hK _ ?_; clear hK K) | (apply Exists.intro; refine ⟨fun _ => ?_, hK _ ?_⟩; (go_at_call 19; with_reducible refine Calls.grown_of (kM _ _)); clear hK K))
                refine wpQuiet_nilB ?_
                intro _ hw'
                obtain ⟨⟨nq, osq⟩, hw''⟩ := hw'
                subst hw''
                have HS2 : Hid (BZ w ⟨r0, ⟨r1, r2, r3⟩, ⟨r4, r5, r6⟩⟩ ⟨s0, ⟨s1, s2, s3⟩, ⟨s4, s5, s6⟩⟩ b1 b2 (readT t) t2 (Sort.grow (wr.drewN nq) osq)) := HS.out.go (Gr.below ⟨nq, osq, rfl⟩)
                generalize Sort.grow (wr.drewN nq) osq = W5 at HS2 ⊢
                clear kM m0 m1 m2 HS
                go_wp2_with fail
                go_roundw
                case rel => exact ⟨k + 1, q, by omega, by omega, by go_num, rfl, HS2, HC2⟩
                case measure => simp [intOf]; omega
              case true =>
                simp only [Bool.true_or] at HC2
                go_wp2_with fail
                refine wp_region_quiet_grownB (by assumption) (by kernel_rfl) ?_
                repeat (refine wpQuiet_stepB (fun K hK => ?_); go_simp; first | (refine hK _ ?_; clear hK K) | (apply Exists.intro; refine ⟨fun _ => ?_, hK _ ?_⟩; (go_at_call 19; with_reducible refine Calls.grown_of (kM _ _)); clear hK K))
                refine wpQuiet_nilB ?_
                intro _ hw'
                obtain ⟨⟨nq, osq⟩, hw''⟩ := hw'
                subst hw''
                have HS2 : Hid (BZ w ⟨r0, ⟨r1, r2, r3⟩, ⟨r4, r5, r6⟩⟩ ⟨s0, ⟨s1, s2, s3⟩, ⟨s4, s5, s6⟩⟩ b1 b2 (readT t) t2 (Sort.grow (wr.drewN nq) osq)) := HS.out.go (Gr.below ⟨nq, osq, rfl⟩)
                generalize Sort.grow (wr.drewN nq) osq = W5 at HS2 ⊢
                clear kM m0 m1 m2 HS
                go_wp2_with fail
                go_roundw
                case rel => exact ⟨k + 1, true, by omega, by omega, by go_num, rfl, HS2, HC2⟩
                case measure => simp [intOf]; omega
            case pos =>
              have HE : Hid (seg l i k = []) := by
                show _ = _
                have : l = [] := List.length_eq_zero_iff.1 (by have := HL.out; omega)
                subst this
                simp [seg]
              have HL0 : Hid (L = 0) := hL0
              have HPc : Hid (pa = none → pc = 0) := by
                show _ → _
                obtain ⟨a', c', e, _, h2⟩ := HP.out
                injection e with e1 _ e3
                intro e
                rw [e3]
                exact h2 (by rw [← e1]; exact e)
              clear hL0
              cases pa with
              | none =>
                have kM : ∀ (n : Nat) (os : Array Obj) (a : Option Addr) (m c1 : Nat) (hm : m = 0) (hc1 : a = none → c1 = 0), Calls Tryz.prog 19 #[PC.v ⟨r0, ⟨r1, r2, r3⟩, ⟨r4, r5, r6⟩⟩, .slice a m c1] (Sort.grow (wr.drewN n) os) fun e w' => e = .returned (.bool q) ∧ ∃ q os', w' = Sort.grow ((Sort.grow (wr.drewN n) os).drewN q) os' := fun n os a m c1 hm hc1 => by
                  have g : Gr wr (Sort.grow (wr.drewN n) os) := ⟨n, os, rfl⟩
                  have b1 := bstep HS.out.bel g.below
                  refine (match_any (readT t) ⟨r0, ⟨r1, r2, r3⟩, ⟨r4, r5, r6⟩⟩ _ (seg l i k) _ HOk1.out (HS.out.go g.below).held (row_nilS _ HE.out hm hc1) (HTb.out.bel b1) (by rw [HE.out]; simp)).mono ?_
                  rintro e w' ⟨⟨q', rfl, hq⟩, gr⟩
                  rw [bool_same (hq.trans (HMs.out i k)) HQ.out]
                  exact ⟨rfl, gr⟩
                cases d
                case false =>
                  simp only [Bool.false_or] at HC2
                  go_wp2_with fail
                  refine wp_region_quiet_grownB (by assumption) (by kernel_rfl) ?_
                  repeat (refine wpQuiet_stepB (fun K hK => ?_); go_simp; first | (refine hK _ ?_; clear hK K) | (apply Exists.intro; refine ⟨fun _ => ?_, hK _ ?_⟩; (go_at_call 19; with_reducible refine Calls.grown_of (kM _ _ _ _ _ (by have := HL0.out; omega) (by intro _; have := HPc.out trivial; omega))); clear hK K))
                  refine wpQuiet_nilB ?_
                  intro _ hw'
                  obtain ⟨⟨nq, osq⟩, hw''⟩ := hw'
                  subst hw''
                  have HS2 : Hid (BZ w ⟨r0, ⟨r1, r2, r3⟩, ⟨r4, r5, r6⟩⟩ ⟨s0, ⟨s1, s2, s3⟩, ⟨s4, s5, s6⟩⟩ b1 b2 (readT t) t2 (Sort.grow (wr.drewN nq) osq)) := HS.out.go (Gr.below ⟨nq, osq, rfl⟩)
                  generalize Sort.grow (wr.drewN nq) osq = W5 at HS2 ⊢
                  clear kM m0 m1 m2 HS
                  go_wp2_with fail
                  go_roundw
                  case rel => exact ⟨k + 1, q, by omega, by omega, by go_num, rfl, HS2, HC2⟩
                  case measure => simp [intOf]; omega
                case true =>
                  simp only [Bool.true_or] at HC2
                  go_wp2_with fail
                  refine wp_region_quiet_grownB (by assumption) (by kernel_rfl) ?_
                  repeat (refine wpQuiet_stepB (fun K hK => ?_); go_simp; first | (refine hK _ ?_; clear hK K) | (apply Exists.intro; refine ⟨fun _ => ?_, hK _ ?_⟩; (go_at_call 19; with_reducible refine Calls.grown_of (kM _ _ _ _ _ (by have := HL0.out; omega) (by intro _; have := HPc.out trivial; omega))); clear hK K))
                  refine wpQuiet_nilB ?_
                  intro _ hw'
                  obtain ⟨⟨nq, osq⟩, hw''⟩ := hw'
                  subst hw''
                  have HS2 : Hid (BZ w ⟨r0, ⟨r1, r2, r3⟩, ⟨r4, r5, r6⟩⟩ ⟨s0, ⟨s1, s2, s3⟩, ⟨s4, s5, s6⟩⟩ b1 b2 (readT t) t2 (Sort.grow (wr.drewN nq) osq)) := HS.out.go (Gr.below ⟨nq, osq, rfl⟩)
                  generalize Sort.grow (wr.drewN nq) osq = W5 at HS2 ⊢
                  clear kM m0 m1 m2 HS
                  go_wp2_with fail
                  go_roundw
                  case rel => exact ⟨k + 1, true, by omega, by omega, by go_num, rfl, HS2, HC2⟩
                  case measure => simp [intOf]; omega
              | some a =>
                obtain ⟨ab, aoff, asp⟩ := a
                have kM : ∀ (n : Nat) (os : Array Obj) (a : Option Addr) (m c1 : Nat) (hm : m = 0) (hc1 : a = none → c1 = 0), Calls Tryz.prog 19 #[PC.v ⟨r0, ⟨r1, r2, r3⟩, ⟨r4, r5, r6⟩⟩, .slice a m c1] (Sort.grow (wr.drewN n) os) fun e w' => e = .returned (.bool q) ∧ ∃ q os', w' = Sort.grow ((Sort.grow (wr.drewN n) os).drewN q) os' := fun n os a m c1 hm hc1 => by
                  have g : Gr wr (Sort.grow (wr.drewN n) os) := ⟨n, os, rfl⟩
                  have b1 := bstep HS.out.bel g.below
                  refine (match_any (readT t) ⟨r0, ⟨r1, r2, r3⟩, ⟨r4, r5, r6⟩⟩ _ (seg l i k) _ HOk1.out (HS.out.go g.below).held (row_nilS _ HE.out hm hc1) (HTb.out.bel b1) (by rw [HE.out]; simp)).mono ?_
                  rintro e w' ⟨⟨q', rfl, hq⟩, gr⟩
                  rw [bool_same (hq.trans (HMs.out i k)) HQ.out]
                  exact ⟨rfl, gr⟩
                cases d
                case false =>
                  simp only [Bool.false_or] at HC2
                  go_wp2_with fail
                  refine wp_region_quiet_grownB (by assumption) (by kernel_rfl) ?_
                  repeat (refine wpQuiet_stepB (fun K hK => ?_); go_simp; first | (refine hK _ ?_; clear hK K) | (apply Exists.intro; refine ⟨fun _ => ?_, hK _ ?_⟩; (go_at_call 19; with_reducible refine Calls.grown_of (kM _ _ _ _ _ (by have := HL0.out; omega) (by intro e; first | (cases e; done) | (split at e <;> cases e)))); clear hK K))
                  refine wpQuiet_nilB ?_
                  intro _ hw'
                  obtain ⟨⟨nq, osq⟩, hw''⟩ := hw'
                  subst hw''
                  have HS2 : Hid (BZ w ⟨r0, ⟨r1, r2, r3⟩, ⟨r4, r5, r6⟩⟩ ⟨s0, ⟨s1, s2, s3⟩, ⟨s4, s5, s6⟩⟩ b1 b2 (readT t) t2 (Sort.grow (wr.drewN nq) osq)) := HS.out.go (Gr.below ⟨nq, osq, rfl⟩)
                  generalize Sort.grow (wr.drewN nq) osq = W5 at HS2 ⊢
                  clear kM m0 m1 m2 HS
                  go_wp2_with fail
                  go_roundw
                  case rel => exact ⟨k + 1, q, by omega, by omega, by go_num, rfl, HS2, HC2⟩
                  case measure => simp [intOf]; omega
                case true =>
                  simp only [Bool.true_or] at HC2
                  go_wp2_with fail
                  refine wp_region_quiet_grownB (by assumption) (by kernel_rfl) ?_
                  repeat (refine wpQuiet_stepB (fun K hK => ?_); go_simp; first | (refine hK _ ?_; clear hK K) | (apply Exists.intro; refine ⟨fun _ => ?_, hK _ ?_⟩; (go_at_call 19; with_reducible refine Calls.grown_of (kM _ _ _ _ _ (by have := HL0.out; omega) (by intro e; first | (cases e; done) | (split at e <;> cases e)))); clear hK K))
                  refine wpQuiet_nilB ?_
                  intro _ hw'
                  obtain ⟨⟨nq, osq⟩, hw''⟩ := hw'
                  subst hw''
                  have HS2 : Hid (BZ w ⟨r0, ⟨r1, r2, r3⟩, ⟨r4, r5, r6⟩⟩ ⟨s0, ⟨s1, s2, s3⟩, ⟨s4, s5, s6⟩⟩ b1 b2 (readT t) t2 (Sort.grow (wr.drewN nq) osq)) := HS.out.go (Gr.below ⟨nq, osq, rfl⟩)
                  generalize Sort.grow (wr.drewN nq) osq = W5 at HS2 ⊢
                  clear kM m0 m1 m2 HS
                  go_wp2_with fail
                  go_roundw
                  case rel => exact ⟨k + 1, true, by omega, by omega, by go_num, rfl, HS2, HC2⟩
                  case measure => simp [intOf]; omega

end Go.Proofs.YtjjlkjfhhpogaaaGreatDoor
