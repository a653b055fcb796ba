/-
  Walks: joined, text, Print.
-/
import Derived.Test.YtjjlkjfhhpogaaaGreatDoorPr2
import Derived.Test.YtjjlkjfhhpogaaaGreatDoorS1Norm
import Derived.Test.YtjjlkjfhhpogaaaGreatDoorRa2
import Derived.Test.YtjjlkjfhhpogaaaGreatDoorBl
namespace Go.Proofs.YtjjlkjfhhpogaaaGreatDoor
open Go.RowKit
open Go.Proofs.YtjjlkjfhhpogaaaGreatDoorS1 (NF Row2 inS)

theorem row2_of {w : World} {v : Value} {l : List (Int × Int)} (h : RowS w v l) : Row2 w v l := by
  obtain ⟨ao, cap, rfl, hc, hz⟩ := h
  refine ⟨ao, cap, rfl, fun hne => ?_, hz⟩
  obtain ⟨b, off, e, hb, hcell⟩ := hc hne
  exact ⟨b, off, e, hb, fun i x hx => ⟨hcell i x hx 0 _ rfl, hcell i x hx 1 _ rfl⟩⟩
theorem row2_to {w : World} {v : Value} {l : List (Int × Int)} (h : Row2 w v l) : RowS w v l := by
  obtain ⟨ao, cap, rfl, hc, hz⟩ := h
  refine ⟨ao, cap, rfl, fun hne => ?_, hz⟩
  obtain ⟨b, off, e, hb, hcell⟩ := hc hne
  refine ⟨b, off, e, hb, fun i x hx j c hj => ?_⟩
  have := hcell i x hx
  match j, hj with
  | 0, hj => injection hj with hj; subst hj; exact this.1
  | 1, hj => injection hj with hj; subst hj; exact this.2
  | j + 2, hj => cases hj
theorem norm_row (v : Value) (l : List (Int × Int)) (w : World) (hl : l.length ≤ 1000) (hg : YtjjlkjfhhpogaaaGreatDoorS1.Good l) (hv : RowS w v l) :
    Calls Tryz.prog 71 #[v] w fun e w' => ∃ u, e = .returned u ∧ RowS w' u (nf l) ∧ (nf l).length ≤ 1000 ∧ Below w.heap.size w w' :=
  (YtjjlkjfhhpogaaaGreatDoorS1.norm_any v l w hl hg (row2_of hv)).mono fun _ _ ⟨u, m, h1, h2, h3, h4, h5, h6⟩ => by
    have := nf_eq h2 h3
    subst this
    exact ⟨u, h1, row2_to h5, by omega, h6⟩

/-! ### Lengths -/

theorem nf_le : ∀ (m l : List (Int × Int)), NF m → (∀ n, inS m n = inS l n) → m.length ≤ l.length
  | [], l, _, _ => by simp
  | s :: m, l, h, he => by
    have hs := h.head.1
    have hin : inS l s.1 = true := by rw [← he]; exact YtjjlkjfhhpogaaaGreatDoorS1.in_head (Int.le_refl _) (by omega)
    obtain ⟨x, hx, h1, h2⟩ := YtjjlkjfhhpogaaaGreatDoorS1.inS_iff.1 hin
    have hx1 : s.1 ≤ x.1 := by
      have : inS (s :: m) x.1 = true := by rw [he]; exact YtjjlkjfhhpogaaaGreatDoorS1.inS_iff.2 ⟨x, hx, Int.le_refl _, by omega⟩
      exact h.least this
    have hgap : inS l (s.2 + 1) = false := by
      rw [← he]
      apply Bool.eq_false_iff.2
      intro hc
      rw [YtjjlkjfhhpogaaaGreatDoorS1.inS_cons] at hc
      rcases Bool.or_eq_true_iff.1 hc with hc | hc
      · simp at hc; omega
      · have := h.above hc; omega
    have ih := nf_le m (l.filter fun y => decide (s.2 < y.1)) h.tail (by
      intro n
      apply YtjjlkjfhhpogaaaGreatDoorS1.bool_eq
      rw [YtjjlkjfhhpogaaaGreatDoorS1.inS_iff (l := l.filter _)]
      constructor
      · intro hn
        have hab := h.above hn
        have : inS l n = true := by rw [← he, YtjjlkjfhhpogaaaGreatDoorS1.inS_cons, hn]; simp
        obtain ⟨y, hy, h3, h4⟩ := YtjjlkjfhhpogaaaGreatDoorS1.inS_iff.1 this
        refine ⟨y, List.mem_filter.2 ⟨hy, ?_⟩, h3, h4⟩
        simp
        rcases Int.lt_or_le s.2 y.1 with h5 | h5
        · exact h5
        · have : inS l (s.2 + 1) = true := YtjjlkjfhhpogaaaGreatDoorS1.inS_iff.2 ⟨y, hy, by omega, by omega⟩
          rw [hgap] at this
          cases this
      · rintro ⟨y, hy, h3, h4⟩
        obtain ⟨hy1, hy2⟩ := List.mem_filter.1 hy
        simp at hy2
        have : inS (s :: m) n = true := by rw [he]; exact YtjjlkjfhhpogaaaGreatDoorS1.inS_iff.2 ⟨y, hy1, h3, h4⟩
        rw [YtjjlkjfhhpogaaaGreatDoorS1.inS_cons] at this
        rcases Bool.or_eq_true_iff.1 this with hc | hc
        · simp at hc; omega
        · exact hc)
    have hlt : (l.filter fun y => decide (s.2 < y.1)).length < l.length := by
      apply List.length_filter_lt_length_iff_exists.2
      exact ⟨x, hx, by simp; omega⟩
    simp only [List.length_cons]
    omega
theorem nf_len {l : List (Int × Int)} (hg : YtjjlkjfhhpogaaaGreatDoorS1.Good l) : (nf l).length ≤ l.length := nf_le _ _ (nf_ok hg).1 (nf_ok hg).2


theorem setX_len {y : Sty} (hy : okY y) {m : List (Int × Int)} (hl : m.length ≤ 1000) (h : NF m) : (setX y m).length ≤ 30002 := by
  have := join_spans hy hl h
  unfold setX
  split
  · simp
  · unfold brX
    split
    · simp; omega
    · omega
theorem brX_len (q : Bool) (x : Bs) : (brX q x).length ≤ x.length + 2 := by
  unfold brX
  split
  · simp
  · omega

theorem join_len_le1 (xs : List Bs) (c : Bs) (hc : c.length ≤ 1) : (Lib.join xs c).length ≤ xs.length + Lib.lens xs := by
  cases xs with
  | nil => simp [Lib.join_nil]
  | cons x r =>
    match c, hc with
    | [], _ => rw [Lib.join_length]; simp
    | [a], _ => exact join_len_le _ a

/-- How long a pattern's lists are, in a right pattern. -/
theorem textsT_len' (y : Sty) (ts : List Tree) (p : Nat) : (textsT y ts p).length = ts.length := by rw [textsT_map]; simp
theorem text_len (y : Sty) (hy : okY y) (m : Nat) : ∀ (t : Tree), size t ≤ m → size t ≤ 200 → kindsT t = true → goodT t → ∀ p, (textT y t p).length ≤ 40000 * size t := by
  induction m with
  | zero => intro t h; have := size_pos t; omega
  | succ m ih =>
  intro t hm hz hk hg p
  obtain ⟨k, set, subs⟩ := t
  rw [size_mk] at hm hz ⊢
  rw [kindsT_mk] at hk
  simp only [Bool.and_eq_true] at hk
  obtain ⟨hg1, hg2⟩ := (goodT_mk _ _ _).1 hg
  have hsub : ∀ (t : Tree), t ∈ subs → ∀ p, (textT y t p).length ≤ 40000 * size t := by
    intro t ht p
    obtain ⟨i, hi⟩ := List.mem_iff_getElem?.1 ht
    exact ih t (by have := size_le_of_at hi; omega) (by have := size_le_of_at hi; omega) (kindsT_of_at hk.2 hi) (hg2.at hi) p
  have hlens : ∀ (ts : List Tree) (p : Nat), (∀ t ∈ ts, (textT y t p).length ≤ 40000 * size t) → Lib.lens (textsT y ts p) ≤ 40000 * sizeL ts := by
    intro ts p
    induction ts with
    | nil => intro _; rw [textsT_nil, sizeL_nil]; simp [Lib.lens]
    | cons a l ih2 =>
      intro h
      have h1 := h a (by simp)
      have h2 := ih2 fun x hx => h x (by simp [hx])
      rw [textsT_cons, sizeL_cons]
      simp only [Lib.lens, List.map_cons, List.sum_cons] at h2 ⊢
      omega
  have hj : ∀ (p : Nat) (c : Bs), c.length ≤ 1 → (Lib.join (textsT y subs p) c).length ≤ 40000 * sizeL subs + sizeL subs := by
    intro p c hc
    have h1 := join_len_le1 (textsT y subs p) c hc
    have h2 := hlens subs p fun t ht => hsub t ht p
    have h3 := length_le_sizeL subs
    rw [textsT_len'] at h1
    omega
  have hhd : ∀ p, ((textsT y subs p).headD []).length ≤ 40000 * sizeL subs := by
    intro p
    cases subs with
    | nil => simp [textsT_nil]
    | cons a l =>
      rw [textsT_cons, sizeL_cons]
      have := hsub a (by simp) p
      simp only [List.headD_cons]
      omega
  have hb : sizeL subs ≤ 40000 * sizeL subs := by omega
  rw [textT_mk]
  split
  · have hs : set.length ≤ 256 := by
      rename_i h1
      have := hk.1
      rw [okAlone, if_pos h1] at this
      simp at this
      exact this.2
    have := setX_len hy (by have := nf_len hg1; omega) (nf_ok hg1).1
    omega
  · split
    · have := hhd 2
      simp only [List.length_append, List.length_cons, List.length_nil]
      omega
    · split
      · have := hhd p; omega
      · split
        · split
          · simp; omega
          · have h1 := brX_len (decide (p ≠ 0)) (Lib.join (textsT y subs 1) [124])
            have h2 := hj 1 [124] (by simp)
            omega
        · have h1 := brX_len (decide (p = 2)) (Lib.join (textsT y subs 2) y.bw)
          have h2 := hj 2 y.bw hy.1
          omega

/-- What text comes to. -/
def PostX (y : Sty) (t : Tree) (p : Nat) (w : World) (e : Ending) (w' : World) : Prop := e = .returned (str (textT y t p)) ∧ Below w.heap.size w w'

theorem TabP.bel' {w w' : World} (h : TabP w) (hB : Below w.heap.size w w') : TabP w' := h.bel hB

set_option maxRecDepth 100000 in
set_option maxHeartbeats 4000000 in
theorem joined_any (y : Sty) (subs : List Tree) (rows : List PC) (ba : Option Addr) (bc p : Nat) (sep : Bs) (w : World) (hN2 : subs.length ≤ 1000) (hB : RowT w (.slice ba subs.length bc) rows) (hT : HTs w subs rows) (htab : TabP w) (hlen : (Lib.join (textsT y subs p) sep).length ≤ 100000000)
    (kE : ∀ (t : Tree) (x : PC) (W : World), t ∈ subs → HT W t x → TabP W → Calls Tryz.prog 53 #[.agg (syc y), x.v, .int .i64 p] W fun e w' => PostX y t p W e w') :
    Calls Tryz.prog 73 #[.agg (syc y), .slice ba subs.length bc, str sep, .int .i64 p] w fun e w' => e = .returned (str (Lib.join (textsT y subs p) sep)) ∧ Below w.heap.size w w' := by
  obtain ⟨N, hN⟩ : ∃ N, N = subs.length := ⟨_, rfl⟩
  have HN : Hid (N = subs.length) := hN
  have HV : Hid (RowT w (.slice ba N bc) rows) := by rw [hN]; exact hB
  have HTT : Hid (HTs w subs rows) := hT
  have HTab : Hid (TabP w) := htab
  have HE : Hid (∀ (t : Tree) (x : PC) (W : World), t ∈ subs → HT W t x → TabP W → Calls Tryz.prog 53 #[.agg (syc y), x.v, .int .i64 p] W fun e w' => PostX y t p W e w') := kE
  have HLen : Hid ((Lib.join (textsT y subs p) sep).length ≤ 100000000) := hlen
  have hN1 : N ≤ 1000 := by omega
  have mk := fun W => make9 N (by omega) W
  have HMap : Hid (textsT y subs p = subs.map fun t => textT y t p) := textsT_map _ _ _
  rw [HMap.out] at HLen ⊢
  rw [← hN]
  clear hB hT htab kE hlen hN hN2 HMap
  go_enter Tryz.func73, Tryz.ntmps73
  go_wp2_with fail
  generalize hW : World.alloc _ _ = W1
  have I1 : Hid (SJ y w (w.heap.size + 1) (partL (fun t => textT y t p) subs 0) W1) := by rw [← hW, partL_0, ← HN.out]; exact ⟨bstep (bel_alloc _ _) (bel_alloc _ _), Blk.new' _ _ _ _ (by simp), (Blk.new _ _ _).alloc _, Nat.lt_succ_self _⟩
  clear hW mk
  generalize w.heap.size + 1 = tb at I1 ⊢
  go_loopw [17] (fun vi wr => ∃ k : Nat, k ≤ N ∧ vi = .int .i64 k ∧ Hid (SJ y w tb (partL (fun t => textT y t p) subs k) wr)) (fun vi _ => N - (intOf vi).toNat)
  case atStart => exact ⟨0, Nat.zero_le _, rfl, I1⟩
  case round =>
    clear I1
    obtain ⟨k, hk, rfl, I5⟩ := hrel
    by_cases hlt : k < N
    case pos =>
      obtain ⟨t, ht⟩ : ∃ t, subs[k]? = some t := ⟨_, List.getElem?_eq_getElem (by have := HN.out; omega)⟩
      obtain ⟨r, hr, hr2⟩ := HTs.at HTT.out ht
      obtain ⟨b, off, rfl, hb, q0, q1, q2⟩ := RowX.cs3 (HV.out.bel I5.out.bel) hr
      have HR2 : Hid (HT w t r) := hr2
      have kS : ∀ W, Below w.heap.size w W → Calls Tryz.prog 53 #[.agg #[str y.bw, str y.op, str y.cl], r.v, .int .i64 p] W fun e w' => PostX y t p W e w' := fun W g => HE.out t r W (List.mem_of_getElem? ht) (HT.bel g HR2.out) (HTab.out.bel' g)
      have HPS : Hid ((partL (fun t => textT y t p) subs k).set k (textT y t p) = partL (fun t => textT y t p) subs (k + 1)) := partL_set (fun t => textT y t p) subs ht
      have hlt2 : (k : Int) < N := by omega
      have HPC : Hid ((partL (fun t => textT y t p) subs k)[k]? = some []) := partL_cur _ subs (by have := HN.out; omega)
      have HLt : Hid (tb < wr.heap.size) := I5.out.row.lt
      obtain ⟨rk, ⟨r1, r2, r3⟩, r4, r5, r6⟩ := r
      simp only at q0 q1 q2
      obtain ⟨s0, s1, s2⟩ := BlkY.cs (bw := y.bw) (op := y.op) (cl := y.cl) (I5.out.go (bel_alloc wr (.cells #[.int .i64 rk, .slice r1 r2 r3, .slice r4 r5 r6] 26))).sty
      have HSy : Hid (w.heap.size < wr.heap.size) := I5.out.sty.lt
      clear ht hr hr2
      go_wp2_with (go_at_call 53; refine (kS _ (bstep I5.out.bel (bel_alloc _ _))).mono ?_; rintro _ w7 ⟨rfl, g7⟩; have I7 : Hid (SJ y w tb (partL (fun t => textT y t p) subs k) w7) := (I5.out.go (bel_alloc _ _)).go g7; have t7 := srow_at I7.out.row HPC.out; have f7 := I7.out.row.frozen; clear g7)
      have J := I7.out.set k (textT y t p)
      rw [HPS.out] at J
      generalize hW8 : World.setCell _ _ _ = W8 at J ⊢
      have I8 : Hid (SJ y w tb (partL (fun t => textT y t p) subs (k + 1)) W8) := J
      clear J hW8 I7 t7 f7
      go_roundw
      case rel => exact ⟨k + 1, by omega, by go_num, I8⟩
      case measure => simp [intOf]; omega
    case neg =>
      have hkN : k = N := by omega
      have hle : ¬ (k : Int) < N := by omega
      have I6 : Hid (SJ y w tb (subs.map fun t => textT y t p) wr) := by
        have := I5.out
        rw [partL_all _ subs (by have := HN.out; omega)] at this
        exact this
      clear I5 hkN
      go_wp2_with (go_at_call 88; refine (join_any sep I6.out.row (by simp; exact HN.out.symm) (by omega) (by have := HLen.out; omega)).mono ?_; rintro _ w7 ⟨rfl, b7⟩; have B7 : Hid (Below w.heap.size w w7) := bstep I6.out.bel b7; clear b7)
      go_ret
      exact ⟨rfl, B7.out⟩

end Go.Proofs.YtjjlkjfhhpogaaaGreatDoor
