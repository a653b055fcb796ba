/-
  The walk of part: the positions of any right pattern.
-/
import Derived.Test.YtjjlkjfhhpogaaaDoorXt
import Derived.Test.YtjjlkjfhhpogaaaDoorW7
namespace Go.Proofs.YtjjlkjfhhpogaaaDoor
open Go.RowKit

set_option maxRecDepth 100000 in
set_option maxHeartbeats 8000000 in
/-- One of the four kinds, asked by its own function. -/
theorem part_step (kn : KN) (w0 : World) (t : Tree) (hE : ∀ k set subs, t = .mk k set subs → ∀ (i : Nat) s, subs[i]? = some s → CP w0 s) : CP w0 t := by
  intro w b B sv fv ss rs sets rows x hX hB hw h0 hT hk hsz hg hlr hl
  obtain ⟨k, set, subs, xs, sa, sc, ba, bc, rfl, rfl, hS, hR, hs⟩ := hT.parts
  have hE' := hE k set subs rfl
  clear hE hT
  rw [kindsT_mk] at hk
  simp only [Bool.and_eq_true] at hk
  obtain ⟨hka, hkl⟩ := hk
  rw [goodT_mk] at hg
  rw [size_mk] at hsz
  have hb2 : Below w.heap.size w ((w.alloc (.cells #[.int .i64 k, .slice sa set.length sc, .slice ba subs.length bc] 25)).alloc (.cells #[.bool false, .slice none 0 0, .slice none 0 0] 89)) := ((Below.refl _ _).alloc (Nat.le_refl _) _).alloc (by simp) _
  have h02 := h0.trans (hb2.mono (Nat.le_trans hw hB))
  have hX2 := hX.bel hb2
  have hB2 : B ≤ ((w.alloc (.cells #[.int .i64 k, .slice sa set.length sc, .slice ba subs.length bc] 25)).alloc (.cells #[.bool false, .slice none 0 0, .slice none 0 0] 89)).heap.size := by simp; omega
  have HX : Hid (XS w b B sv fv ss rs sets rows) := hX
  have HX2 : Hid (XS ((w.alloc (.cells #[.int .i64 k, .slice sa set.length sc, .slice ba subs.length bc] 25)).alloc (.cells #[.bool false, .slice none 0 0, .slice none 0 0] 89)) b B sv fv ss rs sets rows) := hX2
  have HB2 : Hid (Below w.heap.size w ((w.alloc (.cells #[.int .i64 k, .slice sa set.length sc, .slice ba subs.length bc] 25)).alloc (.cells #[.bool false, .slice none 0 0, .slice none 0 0] 89))) := hb2
  have HR : Hid (Blk ((w.alloc (.cells #[.int .i64 k, .slice sa set.length sc, .slice ba subs.length bc] 25)).alloc (.cells #[.bool false, .slice none 0 0, .slice none 0 0] 89)) (w.heap.size + 1) #[.bool false, .slice none 0 0, .slice none 0 0] 89) := Blk.new' _ _ _ _ (by simp)
  rcases okAlone_cases hka with ⟨rfl, h2, h3⟩ | ⟨rfl, h2⟩ | ⟨rfl, h2⟩ | ⟨rfl, h2, h3⟩
  · have KO := one_any kn _ b B sv fv ss rs sets rows _ set hX2 hB2 h3 hg.1 (hS.bel h02) hlr (by rw [ones_mk, if_pos rfl] at hl; exact hl)
    have e1 : emp (.mk 1 set subs) = false := by rw [emp_mk, if_pos rfl]
    have e2 : setsT (.mk 1 set subs) = [set] := by rw [setsT_mk, if_pos rfl]
    have e3 : Fol (.mk 1 set subs) sets.length = fun _ _ => False := by funext i j; rw [Fol, if_pos rfl]
    have e4 : Fir (.mk 1 set subs) sets.length = fun i => i = sets.length := by funext i; rw [Fir, if_pos rfl]
    have e5 : Las (.mk 1 set subs) sets.length = fun i => i = sets.length := by funext i; rw [Las, if_pos rfl]
    rw [e1, e2, e3, e4, e5]
    clear h2 h3 hX hB hw h0 hS hR hs hE' hka hkl hg hsz hlr hl hb2 h02 hX2 hB2 e1 e2 e3 e4 e5
    go_enter Tryd.func54, Tryd.ntmps54
    go_wp2_with (go_at_call 75; refine KO.mono ?_; rintro _ w3 ⟨sv1, fv1, ⟨fa, fn, fc⟩, ⟨la, ln, lc⟩, ss1, rs1, sets1, rows1, Lf, Ll, rfl, px⟩; have P1 : Hid _ := px; clear px; have R3 := P1.out.blk HX2.out HR.out (by decide) (by decide) (by decide); have r0 := R3.c 0; have r1 := R3.c 1; have r2 := R3.c 2; have rf := R3.frozen; simp only [List.getElem?_toArray, List.getElem?_cons_zero, List.getElem?_cons_succ] at r0 r1 r2; have HR3 : Hid (Blk w3 (w.heap.size + 1) #[.bool false, .slice none 0 0, .slice none 0 0] 89) := R3; clear R3)
    obtain ⟨P, T⟩ := P1.out.fin HX.out HB2.out HR3.out (by omega) false
    refine bodyPost_ret (v := .agg #[.bool false, .slice fa fn fc, .slice la ln lc]) ?_ rfl ⟨_, _, ⟨fa, fn, fc⟩, ⟨la, ln, lc⟩, _, _, _, _, _, _, rfl, P⟩
    simp [results, Tryd.results54]
    exact run_told (x := ⟨fa, fn, fc⟩) (y := ⟨la, ln, lc⟩) T
  · have KO := cat_any w0 _ b B sv fv ss rs sets rows ba bc subs xs hE' hX2 hB2 hw h02 hR hs hkl (by omega) hg.2 hlr (by rw [ones_mk] at hl; exact hl)
    have e1 : emp (.mk 2 set subs) = empC subs := by rw [emp_mk]; rfl
    have e2 : setsT (.mk 2 set subs) = setsL subs := by rw [setsT_mk]; rfl
    have e3 : Fol (.mk 2 set subs) sets.length = FolC subs sets.length := by funext i j; rw [Fol]; rfl
    have e4 : Fir (.mk 2 set subs) sets.length = FirC subs sets.length := by funext i; rw [Fir]; rfl
    have e5 : Las (.mk 2 set subs) sets.length = LasC subs sets.length := by funext i; rw [Las]; rfl
    rw [e1, e2, e3, e4, e5]
    clear h2 hX hB hw h0 hS hR hs hE' hka hkl hg hsz hlr hl hb2 h02 hX2 hB2 e1 e2 e3 e4 e5
    go_enter Tryd.func54, Tryd.ntmps54
    go_wp2_with (go_at_call 76; refine KO.mono ?_; rintro _ w3 ⟨sv1, fv1, ⟨fa, fn, fc⟩, ⟨la, ln, lc⟩, ss1, rs1, sets1, rows1, Lf, Ll, rfl, px⟩; have P1 : Hid _ := px; clear px; have R3 := P1.out.blk HX2.out HR.out (by decide) (by decide) (by decide); have r0 := R3.c 0; have r1 := R3.c 1; have r2 := R3.c 2; have rf := R3.frozen; simp only [List.getElem?_toArray, List.getElem?_cons_zero, List.getElem?_cons_succ] at r0 r1 r2; have HR3 : Hid (Blk w3 (w.heap.size + 1) #[.bool false, .slice none 0 0, .slice none 0 0] 89) := R3; clear R3)
    obtain ⟨P, T⟩ := P1.out.fin HX.out HB2.out HR3.out (by omega) (empC subs)
    refine bodyPost_ret (v := .agg #[.bool (empC subs), .slice fa fn fc, .slice la ln lc]) ?_ rfl ⟨_, _, ⟨fa, fn, fc⟩, ⟨la, ln, lc⟩, _, _, _, _, _, _, rfl, P⟩
    simp [results, Tryd.results54]
    exact run_told (x := ⟨fa, fn, fc⟩) (y := ⟨la, ln, lc⟩) T
  · have KO := alt_any w0 _ b B sv fv ss rs sets rows ba bc subs xs hE' hX2 hB2 hw h02 hR hs hkl (by omega) hg.2 hlr (by rw [ones_mk] at hl; exact hl)
    have e1 : emp (.mk 3 set subs) = empA subs := by rw [emp_mk]; rfl
    have e2 : setsT (.mk 3 set subs) = setsL subs := by rw [setsT_mk]; rfl
    have e3 : Fol (.mk 3 set subs) sets.length = FolA subs sets.length := by funext i j; rw [Fol]; rfl
    have e4 : Fir (.mk 3 set subs) sets.length = FirA subs sets.length := by funext i; rw [Fir]; rfl
    have e5 : Las (.mk 3 set subs) sets.length = LasA subs sets.length := by funext i; rw [Las]; rfl
    rw [e1, e2, e3, e4, e5]
    clear h2 hX hB hw h0 hS hR hs hE' hka hkl hg hsz hlr hl hb2 h02 hX2 hB2 e1 e2 e3 e4 e5
    go_enter Tryd.func54, Tryd.ntmps54
    go_wp2_with (go_at_call 77; refine KO.mono ?_; rintro _ w3 ⟨sv1, fv1, ⟨fa, fn, fc⟩, ⟨la, ln, lc⟩, ss1, rs1, sets1, rows1, Lf, Ll, rfl, px⟩; have P1 : Hid _ := px; clear px; have R3 := P1.out.blk HX2.out HR.out (by decide) (by decide) (by decide); have r0 := R3.c 0; have r1 := R3.c 1; have r2 := R3.c 2; have rf := R3.frozen; simp only [List.getElem?_toArray, List.getElem?_cons_zero, List.getElem?_cons_succ] at r0 r1 r2; have HR3 : Hid (Blk w3 (w.heap.size + 1) #[.bool false, .slice none 0 0, .slice none 0 0] 89) := R3; clear R3)
    obtain ⟨P, T⟩ := P1.out.fin HX.out HB2.out HR3.out (by omega) (empA subs)
    refine bodyPost_ret (v := .agg #[.bool (empA subs), .slice fa fn fc, .slice la ln lc]) ?_ rfl ⟨_, _, ⟨fa, fn, fc⟩, ⟨la, ln, lc⟩, _, _, _, _, _, _, rfl, P⟩
    simp [results, Tryd.results54]
    exact run_told (x := ⟨fa, fn, fc⟩) (y := ⟨la, ln, lc⟩) T
  · match subs, h3 with
    | [s], _ =>
    obtain ⟨x, hx, hT⟩ := hs.at (i := 0) (t := s) rfl
    obtain ⟨b9, off, rfl, hb9, c0, c1, c2⟩ := hR.cs3 hx
    have hks : kindsT s = true := by rw [kindsL_cons] at hkl; simp at hkl; exact hkl.1
    have hgs : goodT s := goodL.at hg.2 (i := 0) rfl
    have hss : size s ≤ 200 := by rw [sizeL_cons] at hsz; omega
    have KO := star_any w0 _ b B sv fv ss rs sets rows s x (hE' 0 s rfl) hX2 hB2 hw h02 hT hks hss hgs hlr (by rw [ones_mk] at hl; simp [onesL_cons, onesL_nil] at hl; exact hl)
    have e1 : emp (.mk 4 set [s]) = true := by rw [emp_mk]; rfl
    have e2 : setsT (.mk 4 set [s]) = setsT s := by rw [setsT_mk, if_neg (by omega), setsL_cons, setsL_nil, List.append_nil]
    have e3 : Fol (.mk 4 set [s]) sets.length = fun i j => Fol s sets.length i j ∨ (Las s sets.length i ∧ Fir s sets.length j) := by
      funext i j
      rw [Fol, if_neg (by omega), if_neg (by omega), if_neg (by omega), FolA_cons, FolA_nil, LasA_cons, LasA_nil, FirA_cons, FirA_nil, or_false, or_false, or_false]
    have e4 : Fir (.mk 4 set [s]) sets.length = Fir s sets.length := by funext i; rw [Fir, if_neg (by omega), if_neg (by omega), FirA_cons, FirA_nil, or_false]
    have e5 : Las (.mk 4 set [s]) sets.length = Las s sets.length := by funext i; rw [Las, if_neg (by omega), if_neg (by omega), LasA_cons, LasA_nil, or_false]
    rw [e1, e2, e3, e4, e5]
    have g0 := (h0.cell (p := ⟨b9, off + 0 * 3, none⟩) hb9).trans c0
    have g1 := (h0.cell (p := ⟨b9, off + 0 * 3 + 1, none⟩) hb9).trans c1
    have g2 := (h0.cell (p := ⟨b9, off + 0 * 3 + 2, none⟩) hb9).trans c2
    have hb9w : b9 < w.heap.size := Nat.lt_of_lt_of_le hb9 h0.size
    simp only [Nat.zero_mul, Nat.add_zero, List.length_cons, List.length_nil, Nat.zero_add] at g0 g1 g2 ⊢
    obtain ⟨xk, ⟨x1, x2, x3⟩, x4, x5, x6⟩ := x
    simp only at g0 g1 g2
    clear h2 hX hB hw h0 hS hR hs hE' hka hkl hg hsz hlr hl hb2 h02 hX2 hB2 e1 e2 e3 e4 e5 c0 c1 c2 hx hT hks hgs hss hb9
    go_enter Tryd.func54, Tryd.ntmps54
    go_wp2_with (go_at_call 78; refine KO.mono ?_; rintro _ w3 ⟨sv1, fv1, ⟨fa, fn, fc⟩, ⟨la, ln, lc⟩, ss1, rs1, sets1, rows1, Lf, Ll, rfl, px⟩; have P1 : Hid _ := px; clear px; have R3 := P1.out.blk HX2.out HR.out (by decide) (by decide) (by decide); have r0 := R3.c 0; have r1 := R3.c 1; have r2 := R3.c 2; have rf := R3.frozen; simp only [List.getElem?_toArray, List.getElem?_cons_zero, List.getElem?_cons_succ] at r0 r1 r2; have HR3 : Hid (Blk w3 (w.heap.size + 1) #[.bool false, .slice none 0 0, .slice none 0 0] 89) := R3; clear R3)
    obtain ⟨P, T⟩ := P1.out.fin HX.out HB2.out HR3.out (by omega) true
    refine bodyPost_ret (v := .agg #[.bool true, .slice fa fn fc, .slice la ln lc]) ?_ rfl ⟨_, _, ⟨fa, fn, fc⟩, ⟨la, ln, lc⟩, _, _, _, _, _, _, rfl, P⟩
    simp [results, Tryd.results54]
    exact run_told (x := ⟨fa, fn, fc⟩) (y := ⟨la, ln, lc⟩) T

theorem part_all (kn : KN) (w0 : World) : ∀ (n : Nat) (t : Tree), size t ≤ n → CP w0 t
  | 0, t, h => by have := size_pos t; omega
  | n + 1, t, h => part_step kn w0 t fun k set subs e i s hs => part_all kn w0 n s (by
      subst e
      rw [size_mk] at h
      have := size_le_of_at hs
      omega)

end Go.Proofs.YtjjlkjfhhpogaaaDoor
