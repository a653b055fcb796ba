/-
  The walk of PosStars.
-/
import Derived.Test.YtjjlkjfhhpogaaaDoorLz
namespace Go.Proofs.YtjjlkjfhhpogaaaDoor
open Go.RowKit

theorem HT_sub1 {w : World} {k : Int} {t : Tree} {r : PC} {b : Nat} {cs : Array Value} (hr : HT w t r) (hb : Blk w b cs 25) (hcs : cs.toList = cellsOf encT [r]) : HT w (.mk k [] [t]) ⟨k, ⟨none, 0, 0⟩, ⟨some ⟨b, 0, none⟩, 1, 1⟩⟩ :=
  (HT_mk _ _ _ _ _).2 ⟨rfl, RowX.nil _ _ _, [r], (OwnX.lit (base := 0) (l := [r]) encT_len hb hcs (Nat.zero_le _) (by simp)).row encT_len, (HTs_cons _ _ _ _).2 ⟨r, [], rfl, hr, (HTs_nil _ _).2 rfl⟩⟩

/-- A law's world: nothing old has turned, the pattern lies in its box, the Star of it in another one. -/
structure SX (w : World) (x : PC) (b5 bs : Nat) (W : World) : Prop where
  bel : Below w.heap.size w W
  box : Blk W w.heap.size (encT x).toArray 25
  sub : Blk W bs (encT x).toArray 25
  star : Blk W b5 (encT ⟨4, ⟨none, 0, 0⟩, ⟨some ⟨bs, 0, none⟩, 1, 1⟩⟩).toArray 25
theorem SX.go {w : World} {x : PC} {b5 bs : Nat} {W W' : World} (h : SX w x b5 bs W) (g : Below W.heap.size W W') : SX w x b5 bs W' := ⟨bstep h.bel g, h.box.bel g, h.sub.bel g, h.star.bel g⟩
theorem SX.ht {w : World} {x : PC} {b5 bs : Nat} {W : World} (h : SX w x b5 bs W) {t : Tree} (hx : HT w t x) : HT W (starT t) ⟨4, ⟨none, 0, 0⟩, ⟨some ⟨bs, 0, none⟩, 1, 1⟩⟩ := HT_sub1 (HT.bel h.bel hx) h.sub (by simp [cellsOf])

theorem ok_star {t : Tree} (h : okT t) : okT (starT t) := by simp [starT, okT_mk, okL_cons, okL_nil, h]
theorem good_star {t : Tree} (h : goodT t) : goodT (starT t) := by simp [starT, goodT_mk, goodL_cons, goodL_nil, h, YtjjlkjfhhpogaaaDoorS1.Good]
theorem right_of_star {t : Tree} (h : rightT (starT t) = true) : rightT t = true := by
  obtain ⟨h1, h2, h3⟩ := right_parts h
  unfold starT at h1 h2 h3
  rw [size_mk, sizeL_cons, sizeL_nil] at h1
  rw [deep_mk, deepL_cons, deepL_nil] at h2
  rw [kindsT_mk, kindsL_cons, kindsL_nil] at h3
  simp only [Bool.and_eq_true] at h3
  unfold rightT
  simp only [Bool.and_eq_true, decide_eq_true_eq]
  exact ⟨by omega, by omega, h3.2.1⟩
theorem star_emp (t : Tree) : emp (starT t) = true := by rw [starT, emp_mk]; rfl
theorem star_fir (t : Tree) (j : Nat) : Fir (starT t) 0 j ↔ Fir t 0 j := by rw [starT, Fir, if_neg (by omega), if_neg (by omega), FirA_cons, FirA_nil, or_false]
theorem star_las (t : Tree) (j : Nat) : Las (starT t) 0 j ↔ Las t 0 j := by rw [starT, Las, if_neg (by omega), if_neg (by omega), LasA_cons, LasA_nil, or_false]
theorem star_fol (t : Tree) (i j : Nat) : Fol (starT t) 0 i j ↔ Fol t 0 i j ∨ (Las t 0 i ∧ Fir t 0 j) := by
  rw [starT, Fol, if_neg (by omega), if_neg (by omega), if_neg (by omega), FolA_cons, FolA_nil, LasA_cons, LasA_nil, FirA_cons, FirA_nil, or_false, or_false, or_false]
theorem star_sets (t : Tree) : setsT (starT t) = setsT t := by rw [starT, setsT_mk, if_neg (by omega), setsL_cons, setsL_nil, List.append_nil]

section
variable {t : Tree} {sets sets' : List (List (Int × Int))} {rows rows' : List (List Nat)} {Lf Ll Lf' Ll' : List Nat}
theorem star_lists (h : IsPos t sets rows Lf Ll) (h' : IsPos (starT t) sets' rows' Lf' Ll') : Lf' = Lf ∧ Ll' = Ll ∧ sets'.length = sets.length ∧ rows'.length = rows.length := by
  refine ⟨rises_ext h'.lf.1 h.lf.1 fun j => ?_, rises_ext h'.ll.1 h.ll.1 fun j => ?_, ?_, ?_⟩
  · rw [h'.lf.2, h.lf.2, star_fir]
  · rw [h'.ll.2, h.ll.2, star_las]
  · rw [h'.sts.1, h.sts.1, star_sets]
  · rw [h'.rws.1, h.rws.1, star_sets]
theorem star_row (h : IsPos t sets rows Lf Ll) (h' : IsPos (starT t) sets' rows' Lf' Ll') {i : Nat} {R R' : List Nat} (hr : rows[i]? = some R) (hr' : rows'[i]? = some R') (j : Nat) : j ∈ R' ↔ j ∈ R ∨ (i ∈ Ll ∧ j ∈ Lf) := by
  have h1 := h.rws.2 i R hr j
  have h2 := h'.rws.2 i R' hr' j
  simp only [Nat.zero_add] at h1 h2
  rw [h1, h2, star_fol, h.ll.2, h.lf.2]
theorem star_same (h : IsPos t sets rows Lf Ll) (h' : IsPos (starT t) sets' rows' Lf' Ll') {i : Nat} {R R' : List Nat} (hr : rows[i]? = some R) (hr' : rows'[i]? = some R') (hl : i ∉ Ll) : R' = R :=
  rises_ext (h'.ok i R' hr').1 (h.ok i R hr).1 fun j => by rw [star_row h h' hr hr' j]; simp [hl]
end

/-- Where a row lies. -/
theorem HP.rowAt {w : World} {sv fv fi la : Sl} {ss rs : List Sl} {sets : List (List (Int × Int))} {rows : List (List Nat)} {Lf Ll : List Nat} (h : HP w sv fv fi la ss rs sets rows Lf Ll) {p : Nat} {R : List Nat} (hm : rows[p]? = some R) :
    ∃ (s : Sl) (b off : Nat), fv.a = some ⟨b, off, none⟩ ∧ b < w.heap.size ∧ w.cell? ⟨b, off + p, none⟩ = some (.slice s.a R.length s.c) ∧ RowI w (.slice s.a R.length s.c) R := by
  obtain ⟨s, hs⟩ : ∃ s, rs[p]? = some s := ⟨_, List.getElem?_eq_getElem (by have := (List.getElem?_eq_some_iff.1 hm).1; have := h.rl; omega)⟩
  obtain ⟨b, off, e, hb, hc⟩ := h.fo.at hs
  have := hc 0 _ rfl
  simp only [Nat.mul_one, Nat.add_zero] at this
  have h2 := h.re p s R hs hm
  obtain ⟨_, _, e2⟩ := h2.form
  injection e2 with _ e2 _
  rw [e2] at this h2
  exact ⟨s, b, off, e, hb, this, h2⟩

theorem take_mem {L : List Nat} {k x y : Nat} (hy : L[k]? = some y) : x ∈ L.take (k + 1) ↔ x ∈ L.take k ∨ y = x := by
  rw [List.take_add_one, hy]
  simp only [Option.toList, List.mem_append, List.mem_singleton]
  exact ⟨fun h => h.imp id Eq.symm, fun h => h.imp id Eq.symm⟩

set_option maxRecDepth 100000 in
set_option maxHeartbeats 8000000 in
theorem law_pstars (kn : KN) (kal : ALIVE) (t : Tree) (x : PC) (w : World) (hok : okT t) (hg : goodT t) (hx : HT w t x) (hT : Tab w) :
    Calls Tryd.prog 13 #[x.v] w fun e w' => e = .returned (.bool true) ∧ Below w.heap.size w w' := by
  have kg := fun W h => great_any t x W hok h
  have kr := fun y W h => right_any (starT t) y W (ok_star hok) h
  have HX : Hid (HT w t x) := hx
  have HTb : Hid (Tab w) := hT
  have HG : Hid (goodT t) := hg
  have HOk : Hid (okT t) := hok
  obtain ⟨xk, ⟨x1, x2, x3⟩, x4, x5, x6⟩ := x
  clear hT hx hg hok
  go_enter Tryd.func13, Tryd.ntmps13
  go_upto_region 1 with fail
  generalize hW : World.alloc _ _ = W
  have HI : Hid (BX w ⟨xk, ⟨x1, x2, x3⟩, ⟨x4, x5, x6⟩⟩ W) := by
    rw [← hW]
    exact ⟨(Below.refl _ _).alloc (Nat.le_refl _) _, Blk.new _ _ _⟩
  clear hW
  go_upto_region 4 with (first
    | (go_at_call 32; refine (kal _ (HTb.out.bel HI.out.bel)).mono ?_; rintro _ w2 ⟨rfl, gw⟩; have I2 : Hid (BX w ⟨xk, ⟨x1, x2, x3⟩, ⟨x4, x5, x6⟩⟩ w2) := HI.out.go gw; clear gw; obtain ⟨e0, e1, e2⟩ := BlkT.cs I2.out.box))
  generalize hW3 : World.alloc _ _ = W3
  have HS : Hid (SX w ⟨xk, ⟨x1, x2, x3⟩, ⟨x4, x5, x6⟩⟩ (w2.heap.size + 1) w2.heap.size W3) := by
    rw [← hW3]
    exact ⟨bstep (bstep I2.out.bel (bel_alloc _ _)) (bel_alloc _ _), (I2.out.box.alloc _).alloc _, (Blk.new _ _ _).alloc _, Blk.new' _ _ _ _ (by simp)⟩
  clear hW3 HI I2 e0 e1 e2 kal
  obtain ⟨e0, e1, e2⟩ := BlkT.cs HS.out.box
  simp only at e0 e1 e2
  have hmx : Tryd.prog.follows .mixedOrders = true := by kernel_rfl
  by_cases c1 : 3000 < size t
  · have kg2 : ∀ W, HT W t ⟨xk, ⟨x1, x2, x3⟩, ⟨x4, x5, x6⟩⟩ → Calls Tryd.prog 15 #[PC.v ⟨xk, ⟨x1, x2, x3⟩, ⟨x4, x5, x6⟩⟩] W fun e w' => e = .returned (.bool true) ∧ Gr W w' := fun W h => by have := kg W h; simpa [c1] using this
    clear kg
    go_wp2_with (go_at_call 15; refine (kg2 _ (HT.bel HS.out.bel HX.out)).mono ?_; rintro _ w3 ⟨rfl, gw⟩; have S3 : Hid (SX w ⟨xk, ⟨x1, x2, x3⟩, ⟨x4, x5, x6⟩⟩ (w2.heap.size + 1) w2.heap.size w3) := HS.out.go gw.below; clear gw)
    go_ret
    exact ⟨rfl, S3.out.bel⟩
  have kg2 : ∀ W, HT W t ⟨xk, ⟨x1, x2, x3⟩, ⟨x4, x5, x6⟩⟩ → Calls Tryd.prog 15 #[PC.v ⟨xk, ⟨x1, x2, x3⟩, ⟨x4, x5, x6⟩⟩] W fun e w' => e = .returned (.bool false) ∧ Gr W w' := fun W h => by have := kg W h; simpa [c1] using this
  clear kg c1
  cases c4 : rightT (starT t) with
  | false =>
    rw [c4] at kr
    clear c4
    go_wp2_with (first
      | (go_at_call 15; refine (kg2 _ (HT.bel HS.out.bel HX.out)).mono ?_; rintro _ w3 ⟨rfl, gw⟩; have S3 : Hid (SX w ⟨xk, ⟨x1, x2, x3⟩, ⟨x4, x5, x6⟩⟩ (w2.heap.size + 1) w2.heap.size w3) := HS.out.go gw.below; clear gw; obtain ⟨f0, f1, f2⟩ := BlkT.cs S3.out.star)
      | (go_at_call 17; refine (kr ⟨4, ⟨none, 0, 0⟩, ⟨some ⟨w2.heap.size, 0, none⟩, 1, 1⟩⟩ _ (S3.out.ht HX.out)).mono ?_; rintro _ w4 ⟨rfl, gw⟩; have S4 : Hid (SX w ⟨xk, ⟨x1, x2, x3⟩, ⟨x4, x5, x6⟩⟩ (w2.heap.size + 1) w2.heap.size w4) := S3.out.go gw.below; clear gw))
    go_ret
    exact ⟨rfl, S4.out.bel⟩
  | true =>
    rw [c4] at kr
    obtain ⟨E, hE⟩ : ∃ E, E = emp t := ⟨_, rfl⟩
    have ko := fun W h => of_right kn t ⟨xk, ⟨x1, x2, x3⟩, x4, x5, x6⟩ W HOk.out HG.out h (right_of_star c4) E hE
    have ko2 := fun y W h => of_right kn (starT t) y W (ok_star HOk.out) (good_star HG.out) h c4 true (star_emp t).symm
    have HR : Hid (rightT t = true) := right_of_star c4
    clear c4 hE
    go_upto_region 7 with (first
      | (go_at_call 15; refine (kg2 _ (HT.bel HS.out.bel HX.out)).mono ?_; rintro _ w3 ⟨rfl, gw⟩; have S3 : Hid (SX w ⟨xk, ⟨x1, x2, x3⟩, ⟨x4, x5, x6⟩⟩ (w2.heap.size + 1) w2.heap.size w3) := HS.out.go gw.below; clear gw; obtain ⟨f0, f1, f2⟩ := BlkT.cs S3.out.star)
      | (go_at_call 17; refine (kr ⟨4, ⟨none, 0, 0⟩, ⟨some ⟨w2.heap.size, 0, none⟩, 1, 1⟩⟩ _ (S3.out.ht HX.out)).mono ?_; rintro _ w4 ⟨rfl, gw⟩; have S4 : Hid (SX w ⟨xk, ⟨x1, x2, x3⟩, ⟨x4, x5, x6⟩⟩ (w2.heap.size + 1) w2.heap.size w4) := S3.out.go gw.below; clear gw; obtain ⟨g0, g1, g2⟩ := BlkT.cs S4.out.box)
      | (go_at_call 33; refine (ko _ (HT.bel S4.out.bel HX.out)).mono ?_; rintro _ w5 ⟨⟨sa, sn, sc⟩, ⟨va, vn, vc⟩, ⟨ia, iN, ic⟩, ⟨la, ln, lc⟩, ss, rs, sets, rows, Lf, Ll, rfl, hp, ip, gw⟩; have S5 : Hid (SX w ⟨xk, ⟨x1, x2, x3⟩, ⟨x4, x5, x6⟩⟩ (w2.heap.size + 1) w2.heap.size w5) := S4.out.go gw; have HH : Hid _ := hp; have IP : Hid _ := ip; clear gw hp ip))
    generalize hW6 : World.alloc _ _ = W6
    have S6 : Hid (SX w ⟨xk, ⟨x1, x2, x3⟩, ⟨x4, x5, x6⟩⟩ (w2.heap.size + 1) w2.heap.size W6) := by rw [← hW6]; exact S5.out.go (bel_alloc _ _)
    have P6 : Hid (Blk W6 w5.heap.size #[.slice sa sn sc, .bool E, .slice ia iN ic, .slice la ln lc, .slice va vn vc] 53) := by rw [← hW6]; exact Blk.new _ _ _
    have HH6 : Hid _ := HH.out.bel (w' := W6) (by rw [← hW6]; exact bel_alloc _ _)
    clear hW6 S5 S4 S3 HS kg2 kr ko HH e0 e1 e2 f0 f1 f2 g0 g1 g2
    obtain ⟨g0, g1, g2⟩ := BlkT.cs S6.out.star
    simp only at g0 g1 g2
    go_upto_region 8 with (go_at_call 33; refine (ko2 ⟨4, ⟨none, 0, 0⟩, ⟨some ⟨w2.heap.size, 0, none⟩, 1, 1⟩⟩ _ (S6.out.ht HX.out)).mono ?_; rintro _ w7 ⟨⟨sa', sn', sc'⟩, ⟨va', vn', vc'⟩, ⟨ia', iN', ic'⟩, ⟨la', ln', lc'⟩, ss', rs', sets', rows', Lf', Ll', rfl, hp, ip, gw⟩; have G7 : Hid (Below W6.heap.size W6 w7) := gw; have HY : Hid _ := hp; have IQ : Hid _ := ip; clear gw hp ip)
    generalize hW8 : World.alloc _ _ = W8
    have B8 : Hid (Below w.heap.size w W8) := by rw [← hW8]; exact bstep (bstep S6.out.bel G7.out) (bel_alloc _ _)
    have P8 : Hid (Blk W8 w5.heap.size #[.slice sa sn sc, .bool E, .slice ia iN ic, .slice la ln lc, .slice va vn vc] 53) := by rw [← hW8]; exact (P6.out.bel G7.out).bel (bel_alloc _ _)
    have Q8 : Hid (Blk W8 w7.heap.size #[.slice sa' sn' sc', .bool true, .slice ia' iN' ic', .slice la' ln' lc', .slice va' vn' vc'] 53) := by rw [← hW8]; exact Blk.new _ _ _
    have HX8 : Hid _ := (HH6.out.bel G7.out).bel (w' := W8) (by rw [← hW8]; exact bel_alloc _ _)
    have HY8 : Hid _ := HY.out.bel (w' := W8) (by rw [← hW8]; exact bel_alloc _ _)
    obtain ⟨t1, t2, t3, t4⟩ := star_lists IP.out IQ.out
    subst t1 t2
    obtain ⟨n1, n2, n3, n4⟩ := HX8.out.nums
    obtain ⟨m1, m2, m3, m4⟩ := HY8.out.nums
    simp only at n1 n2 n3 n4 m1 m2 m3 m4
    obtain rfl : sn' = sn := by omega
    obtain rfl : iN' = iN := by omega
    obtain rfl : ln' = ln := by omega
    have HN : Hid (vn = rows.length ∧ rows'.length = rows.length ∧ iN' = Lf'.length ∧ ln' = Ll'.length ∧ vn' = vn) := ⟨n2, t4, n3, n4, by omega⟩
    obtain rfl : vn' = vn := by omega
    clear hW8 HY HH6 P6 S6 G7 ko2 g0 g1 g2 n1 n2 n3 n4 m1 m2 m3 m4 t3 t4
    obtain ⟨len1, len2, len3, len4⟩ := IP.out.lens HR.out
    have HL : Hid (vn' ≤ 200 ∧ iN' ≤ 200 ∧ ln' ≤ 200) := by have := HN.out; exact ⟨by omega, by omega, by omega⟩
    have kF : ∀ W, Gr W8 W → Calls Tryd.prog 38 #[.slice ia iN' ic, .slice ia' iN' ic'] W fun e w' => e = .returned (.bool true) ∧ Gr W w' := fun W g => by
      have := ints_any _ _ Lf' Lf' W (by omega) (HX8.out.hf.gr g) (HY8.out.hf.gr g)
      simpa using this
    have kL : ∀ W, Gr W8 W → Calls Tryd.prog 38 #[.slice la ln' lc, .slice la' ln' lc'] W fun e w' => e = .returned (.bool true) ∧ Gr W w' := fun W g => by
      have := ints_any _ _ Ll' Ll' W (by omega) (HX8.out.hl.gr g) (HY8.out.hl.gr g)
      simpa using this
    clear len1 len2 len3 len4 HR HTb HX HG HOk
    have p2 := P8.out.c 2
    have q1 := Q8.out.c 1
    have q2 := Q8.out.c 2
    simp only [List.getElem?_toArray, List.getElem?_cons_zero, List.getElem?_cons_succ] at p2 q1 q2
    go_upto_region 10 with (first
      | (go_at_call 38; (with_reducible refine (kF _ (Gr.refl _)).mono ?_); rintro _ w9 ⟨rfl, gw⟩; have G9 : Hid (Gr W8 w9) := gw; clear gw kF p2 q1 q2; have p3 := (P8.out.gr G9.out).c 3; have q3 := (Q8.out.gr G9.out).c 3; simp only [List.getElem?_toArray, List.getElem?_cons_zero, List.getElem?_cons_succ] at p3 q3)
      | (go_at_call 38; (with_reducible refine (kL _ G9.out).mono ?_); rintro _ w10 ⟨rfl, gw⟩; have G10 : Hid (Gr W8 w10) := G9.out.trans gw; clear gw kL p3 q3; have p0 := (P8.out.gr G10.out).c 0; have q0 := (Q8.out.gr G10.out).c 0; simp only [List.getElem?_toArray, List.getElem?_cons_zero] at p0 q0))
    have B10 : Hid (Below w.heap.size w w10) := bstep B8.out G10.out.below
    have P10 : Hid (Blk w10 w5.heap.size #[.slice sa sn' sc, .bool E, .slice ia iN' ic, .slice la ln' lc, .slice va vn' vc] 53) := P8.out.gr G10.out
    have Q10 : Hid (Blk w10 w7.heap.size #[.slice sa' sn' sc', .bool true, .slice ia' iN' ic', .slice la' ln' lc', .slice va' vn' vc'] 53) := Q8.out.gr G10.out
    have HX10 : Hid _ := HX8.out.gr G10.out
    have HY10 : Hid _ := HY8.out.gr G10.out
    have hn200 := HL.out.1
    have p4 := P10.out.c 4
    simp only [List.getElem?_toArray, List.getElem?_cons_zero, List.getElem?_cons_succ] at p4
    clear P8 Q8 HX8 HY8 B8 G9 G10 p0 q0
    go_wp2_with fail
    go_loopw [79] (fun vi wr => ∃ (i : Nat), i ≤ vn' ∧ vi = .int .i64 i ∧ Hid (Below w10.heap.size w10 wr)) (fun vi _ => vn' - (intOf vi).toNat)
    case atStart => exact ⟨0, Nat.zero_le _, rfl, Below.refl _ _⟩
    case round =>
      clear p4
      obtain ⟨i, hi, rfl, HB⟩ := hrel
      by_cases hlt : i < vn'
      case neg =>
        have hle : ¬ (i : Int) < vn' := by omega
        go_wp2_with fail
        go_ret
        exact ⟨rfl, bstep B10.out HB.out⟩
      obtain ⟨R, hR⟩ : ∃ R, rows[i]? = some R := ⟨_, List.getElem?_eq_getElem (by have := HN.out; omega)⟩
      obtain ⟨R', hR'⟩ : ∃ R', rows'[i]? = some R' := ⟨_, List.getElem?_eq_getElem (by have := HN.out; omega)⟩
      have SR : Hid (∀ j, j ∈ R' ↔ j ∈ R ∨ (i ∈ Ll' ∧ j ∈ Lf')) := star_row IP.out IQ.out hR hR'
      have SS : Hid (i ∉ Ll' → R' = R) := star_same IP.out IQ.out hR hR'
      have hRl : R.length ≤ 200 := rises_len (IP.out.ok i R hR).1 (IP.out.ok i R hR).2
      have hRl' : R'.length ≤ 200 := rises_len (IQ.out.ok i R' hR').1 (IQ.out.ok i R' hR').2
      obtain ⟨⟨r1, r2, r3⟩, fb, fo, hfa, hfb, cf, hrow⟩ := (HX10.out.bel HB.out).rowAt hR
      simp only at hfa cf hrow
      subst hfa
      have HROW : Hid (RowI wr (.slice r1 R.length r3) R) := hrow
      have HR' : Hid (rows'[i]? = some R') := hR'
      have HRR : Hid (rows[i]? = some R) := hR
      have P12 := P10.out.bel HB.out
      have p4 := P12.c 4
      simp only [List.getElem?_toArray, List.getElem?_cons_zero, List.getElem?_cons_succ] at p4
      have hlt2 : (i : Int) < vn' := by omega
      have p4a := (((Blk.alloc P12 (.cells #[] 3))).c 4)
      have cfa := ((bel_alloc wr (.cells #[] 3)).cell (by exact hfb)).trans cf
      simp only [List.getElem?_toArray, List.getElem?_cons_zero, List.getElem?_cons_succ] at p4a
      clear hrow hR hR' P12 hfb cf p4
      go_upto_region 15 with (at_builtin; refine wp_appXall info3 Tryd.underlying50 encI_len oneI rfl (by omega) (by rfl) _ _ (by rfl) wr.heap.size (.slice (some ⟨wr.heap.size, 0, none⟩) 0 0) ([] : List Nat) (by rfl) (OwnX.empty (b := wr.heap.size) (Blk.new wr #[] 3) (Nat.le_refl _)) (.slice r1 R.length r3) R (by rfl) (HROW.out.bel (bel_alloc _ _)) (by simp; omega) (by simp; omega) (bel_alloc _ _).size ?_; intro v6 w6 ow6 bb6; have B6 : Hid (Below w10.heap.size w10 w6) := bstep HB.out ((bel_alloc wr _).trans bb6); obtain ⟨ma, mc, rfl⟩ := ow6.form; have O6 : Hid (OwnI wr.heap.size w6 (.slice ma R.length mc) R) := ow6; have BS6 : Hid (wr.heap.size ≤ w6.heap.size) := ((bel_alloc wr _).trans bb6).size; clear ow6 bb6)
      have hln := HL.out.2.2
      have P6 : Hid (Blk w6 w5.heap.size #[.slice sa sn' sc, .bool E, .slice ia iN' ic, .slice la ln' lc, .slice (some ⟨fb, fo, none⟩) vn' vc] 53) := P10.out.bel B6.out
      have Q6 : Hid (Blk w6 w7.heap.size #[.slice sa' sn' sc', .bool true, .slice ia' iN' ic', .slice la' ln' lc', .slice va' vn' vc'] 53) := Q10.out.bel B6.out
      have HX6 : Hid _ := HX10.out.bel B6.out
      have HY6 : Hid _ := HY10.out.bel B6.out
      have p3 := P6.out.c 3
      simp only [List.getElem?_toArray, List.getElem?_cons_zero, List.getElem?_cons_succ] at p3
      clear p4a cfa HROW
      go_wp2_with fail
      go_loopw [10, 92] (fun vc vi wl => ∃ (k : Nat) (c : Bool), k ≤ ln' ∧ vi = .int .i64 k ∧ vc = .bool c ∧ w6 = wl ∧ Tells c (i ∈ Ll'.take k)) (fun _ vi _ => ln' - (intOf vi).toNat)
      case atStart => exact ⟨0, false, Nat.zero_le _, rfl, rfl, rfl, by unfold Tells; simp⟩
      case round =>
        clear p3
        obtain ⟨k, c, hk, rfl, rfl, hwl, HC⟩ := hrel
        subst hwl
        by_cases hltk : k < ln'
        case pos =>
          obtain ⟨y, hy⟩ : ∃ y, Ll'[k]? = some y := ⟨_, List.getElem?_eq_getElem (by have := HN.out; omega)⟩
          obtain ⟨lb, lo, hla, hlb, cl⟩ := HX6.out.hl.csI hy
          simp only at hla cl
          subst hla
          have HC2 : ∀ c', c' = (c || decide (y = i)) → Tells c' (i ∈ Ll'.take (k + 1)) := fun c' h => by
            unfold Tells at HC ⊢
            rw [take_mem hy, h, Bool.or_eq_true, HC, decide_eq_true_eq]
          have hk2 : (k : Int) < ln' := by omega
          clear hy hlb HC
          cases c
          · by_cases e : y = i
            · have e1 : ((y : Int) == (i : Int)) = true := by simp; omega
              have e2 := HC2 true (by simp [e])
              clear HC2 e
              go_wp2_with fail
              go_roundw
              case rel => exact ⟨k + 1, true, by omega, by go_num, rfl, trivial, e2⟩
              case measure => simp [intOf]; omega
            · have e1 : ((y : Int) == (i : Int)) = false := by simp; omega
              have e2 := HC2 false (by simp [e])
              clear HC2 e
              go_wp2_with fail
              go_roundw
              case rel => exact ⟨k + 1, false, by omega, by go_num, rfl, trivial, e2⟩
              case measure => simp [intOf]; omega
          · have e2 := HC2 true (by simp)
            clear HC2
            go_wp2_with fail
            go_roundw
            case rel => exact ⟨k + 1, true, by omega, by go_num, rfl, trivial, e2⟩
            case measure => simp [intOf]; omega
        case neg =>
          have hke : k = ln' := by omega
          subst hke
          have hle : ¬ (k : Int) < k := by omega
          have HCI : Hid (Tells c (i ∈ Ll')) := by
            have h : Tells c (i ∈ Ll'.take k) := HC
            rw [List.take_of_length_le (by have := HN.out; omega)] at h
            exact h
          clear HC hk hltk
          have HBB : Hid (w10.heap.size ≤ wr.heap.size ∧ wr.heap.size ≤ w6.heap.size) := ⟨HB.out.size, BS6.out⟩
          have p2 := P6.out.c 2
          simp only [List.getElem?_toArray, List.getElem?_cons_zero, List.getElem?_cons_succ] at p2
          have hiN := HL.out.2.1
          cases c
          case' false =>
            go_upto_region 22 with fail
            have A9 : ∃ (w9 : World) (ma9 : Option Addr) (N mc9 : Nat) (M : List Nat), Hid (RowI w9 (.slice ma9 N mc9) M) ∧ Hid (N = M.length ∧ N ≤ 400) ∧ Hid (∀ x ∈ M, x ∈ R') ∧ Hid (Below w10.heap.size w10 w9) ∧ w9 = w6 ∧ ma9 = ma ∧ N = R.length ∧ mc9 = mc :=
              ⟨w6, ma, R.length, mc, R, O6.out.row encI_len, ⟨rfl, by omega⟩, fun x hx => (SR.out x).2 (Or.inl hx), B6, rfl, rfl, rfl, rfl⟩
            have HLN : Hid (false = false → R'.length = R.length) := fun _ => by rw [SS.out (fun h => by have := HCI.out.2 h; cases this)]
          case' true =>
            go_upto_region 22 with (refine wp_appXall info3 Tryd.underlying50 encI_len oneI rfl (by omega) (by rfl) _ _ (by rfl) wr.heap.size (.slice ma R.length mc) R (by rfl) O6.out (.slice ia iN' ic) Lf' (by rfl) HX6.out.hf (by have := HN.out; omega) (by have := HN.out; omega) BS6.out ?_; intro v7 w17 ow7 bb7; have B7 : Hid (Below wr.heap.size w6 w17) := bb7; obtain ⟨ma7, mc7, rfl⟩ := ow7.form; have O7 : Hid (RowI w17 (.slice ma7 (R ++ Lf').length mc7) (R ++ Lf')) := ow7.row encI_len; clear ow7 bb7)
            have A9 : ∃ (w9 : World) (ma9 : Option Addr) (N mc9 : Nat) (M : List Nat), Hid (RowI w9 (.slice ma9 N mc9) M) ∧ Hid (N = M.length ∧ N ≤ 400) ∧ Hid (∀ x ∈ M, x ∈ R') ∧ Hid (Below w10.heap.size w10 w9) ∧ w9 = w17 ∧ ma9 = ma7 ∧ N = R.length + Lf'.length ∧ mc9 = mc7 :=
              ⟨w17, ma7, (R ++ Lf').length, mc7, R ++ Lf', O7, ⟨rfl, by have := HN.out; rw [List.length_append]; omega⟩, fun x hx => (SR.out x).2 ((List.mem_append.1 hx).imp id fun h => ⟨HCI.out.1 rfl, h⟩), B6.out.trans (B7.out.mono HBB.out.1), rfl, rfl, by rw [List.length_append], rfl⟩
            have HLN : Hid (true = false → R'.length = R.length) := fun e => by cases e
            clear B7 O7
          all_goals
            obtain ⟨w9, ma9, N, mc9, M, O9, HMN, HMR, B9, e0, e1, e2, e3⟩ := A9
            have HRL : Hid (R.length ≤ 200) := hRl
            rw [← e0, ← e1, ← e3, ← e2]
            clear e0 e1 e2 e3 O6 P6 Q6 HX6 HY6 B6 BS6 HBB p2 SR SS HB HCI
            have P9 : Hid (Blk w9 w5.heap.size #[.slice sa sn' sc, .bool E, .slice ia iN' ic, .slice la k lc, .slice (some ⟨fb, fo, none⟩) vn' vc] 53) := P10.out.bel B9.out
            have Q9 : Hid (Blk w9 w7.heap.size #[.slice sa' sn' sc', .bool true, .slice ia' iN' ic', .slice la' k lc', .slice va' vn' vc'] 53) := Q10.out.bel B9.out
            obtain ⟨⟨y1, y2, y3⟩, gb, go', hga, hgb, cg, hrowg⟩ := (HY10.out.bel B9.out).rowAt HR'.out
            obtain ⟨⟨z1, z2, z3⟩, gb2, go2, hga2, hgb2, cg2, hrowg2⟩ := (HX10.out.bel B9.out).rowAt HRR.out
            simp only at hga cg hrowg hga2 cg2 hrowg2
            subst hga
            injection hga2 with hga2
            injection hga2 with hga2 hga3
            subst hga2 hga3
            have HRG : Hid (RowI w9 (.slice y1 R'.length y3) R') := hrowg
            obtain ⟨N', hN'⟩ : ∃ N', N' = R'.length := ⟨_, rfl⟩
            have HN' : Hid (N' = R'.length) := hN'
            rw [← hN'] at hRl' HLN cg HRG
            have q4 := Q9.out.c 4
            simp only [List.getElem?_toArray, List.getElem?_cons_zero, List.getElem?_cons_succ] at q4
            clear hrowg hrowg2 hN'
            go_wp2_with fail
            go_loopw [110] (fun vj wl => ∃ (j : Nat), j ≤ N ∧ vj = .int .i64 j ∧ w9 = wl) (fun vj _ => N - (intOf vj).toNat)
            case atStart => exact ⟨0, Nat.zero_le _, rfl, rfl⟩
            case round =>
              obtain ⟨j, hj, rfl, hwl⟩ := hrel
              subst hwl
              by_cases hltj : j < N
              case pos =>
                obtain ⟨x, hx⟩ : ∃ x, M[j]? = some x := ⟨_, List.getElem?_eq_getElem (by have := HMN.out; omega)⟩
                have hxr := HMR.out x (List.mem_of_getElem? hx)
                obtain ⟨mb, mo, rfl, hmb, cm⟩ := O9.out.csI hx
                have hj2 : (j : Int) < N := by omega
                have HXR : Hid (x ∈ R') := hxr
                have hN4 := HMN.out.2
                clear hx hxr hmb
                go_wp2_with fail
                go_loopw [15, 120] (fun vc vm wl => ∃ (m : Nat) (c : Bool), m ≤ N' ∧ vm = .int .i64 m ∧ vc = .bool c ∧ w9 = wl ∧ Tells c (x ∈ R'.take m)) (fun _ vm _ => N' - (intOf vm).toNat)
                case atStart => exact ⟨0, false, Nat.zero_le _, rfl, rfl, rfl, by unfold Tells; simp⟩
                case round =>
                  obtain ⟨m, c, hm, rfl, rfl, hwl, HC⟩ := hrel
                  subst hwl
                  by_cases hltm : m < N'
                  case pos =>
                    obtain ⟨y, hy⟩ : ∃ y, R'[m]? = some y := ⟨_, List.getElem?_eq_getElem (by have := HN'.out; omega)⟩
                    obtain ⟨yb, yo, rfl, hyb, cy⟩ := HRG.out.csI hy
                    have HC2 : ∀ c', c' = (c || decide (y = x)) → Tells c' (x ∈ R'.take (m + 1)) := fun c' h => by
                      unfold Tells at HC ⊢
                      rw [take_mem hy, h, Bool.or_eq_true, HC, decide_eq_true_eq]
                    have hm2 : (m : Int) < N' := by omega
                    clear hy hyb HC
                    cases c
                    · by_cases e : y = x
                      · have e1 : ((y : Int) == (x : Int)) = true := by simp; omega
                        have e2 := HC2 true (by simp [e])
                        clear HC2 e
                        go_wp2_with fail
                        go_roundw
                        case rel => exact ⟨m + 1, true, by omega, by go_num, rfl, trivial, e2⟩
                        case measure => simp [intOf]; omega
                      · have e1 : ((y : Int) == (x : Int)) = false := by simp; omega
                        have e2 := HC2 false (by simp [e])
                        clear HC2 e
                        go_wp2_with fail
                        go_roundw
                        case rel => exact ⟨m + 1, false, by omega, by go_num, rfl, trivial, e2⟩
                        case measure => simp [intOf]; omega
                    · have e2 := HC2 true (by simp)
                      clear HC2
                      go_wp2_with fail
                      go_roundw
                      case rel => exact ⟨m + 1, true, by omega, by go_num, rfl, trivial, e2⟩
                      case measure => simp [intOf]; omega
                  case neg =>
                    have hme : m = N' := by omega
                    subst hme
                    have hle2 : ¬ (m : Int) < m := by omega
                    have hct : c = true := by
                      have h : Tells c (x ∈ R'.take m) := HC
                      rw [List.take_of_length_le (by have := HN'.out; omega)] at h
                      exact h.2 HXR.out
                    subst hct
                    clear HC
                    go_wp2_with fail
                    go_roundw
                    case rel => exact ⟨j + 1, by omega, by go_num, trivial⟩
                    case measure => simp [intOf]; omega
              case neg =>
                have hle2 : ¬ (j : Int) < N := by omega
                have hmx : Tryd.prog.follows .mixedOrders = true := by kernel_rfl
                have n4 := fun n os => (P9.out.grow n os).c 4
                have m4 := fun n os => (Q9.out.grow n os).c 4
                simp at n4 m4
                have cg' := fun n os => cell_gr (w := w9) hgb cg n os
                have cg2' := fun n os => cell_gr (w := w9) hgb2 cg2 n os
                try (have hq : N' = R.length := by first | exact HLN.out rfl | exact HLN.out trivial | exact HLN.out
                     rw [← hq] at cg2')
                clear q4 cg cg2
                go_wp2_with fail
                refine wp_region_quiet_grownB (by assumption) (by kernel_rfl) ?_
                repeat (refine wpQuiet_stepB (fun K hK => ?_); go_simp; first | (refine hK _ ?_; clear hK K) | (apply Exists.intro; refine ⟨fun _ => ?_, hK _ ?_⟩; fail; clear hK K))
                refine wpQuiet_nilB ?_
                intro _ hw'
                obtain ⟨⟨nq, osq⟩, hw''⟩ := hw'
                subst hw''
                have B11 : Hid (Below w10.heap.size w10 (Sort.grow (w9.drewN nq) osq)) := bstep B9.out (Gr.below ⟨nq, osq, rfl⟩)
                generalize Sort.grow (w9.drewN nq) osq = W11 at B11 ⊢
                clear n4 m4 cg' cg2'
                go_wp2_with fail
                all_goals exact ⟨⟨i + 1, by omega, by go_num, B11⟩, by simp [intOf]; omega⟩

end Go.Proofs.YtjjlkjfhhpogaaaDoor
