/-
  The walks of Run's own: set, behind.
-/
import Derived.Test.YtjjlkjfhhpogaaaDoorOf
import Derived.Test.YtjjlkjfhhpogaaaDoorMa
import Derived.Test.YtjjlkjfhhpogaaaDoorEq
import Derived.Test.YtjjlkjfhhpogaaaDoorE1
import Derived.Test.YtjjlkjfhhpogaaaDoorRf
namespace Go.Proofs.YtjjlkjfhhpogaaaDoor
open Go.RowKit

/-- The cells of a value of positions. -/
def pvc (sv fv fi la : Sl) (E : Bool) : Array Value := #[.slice sv.a sv.n sv.c, .bool E, .slice fi.a fi.n fi.c, .slice la.a la.n la.c, .slice fv.a fv.n fv.c]

/-- Between two rounds of set. -/
structure SJ (w wr : World) (s N : Nat) (L : List Nat) (S : Pl) : Prop where
  gr : Gr w wr
  res : BlkL wr s .zero
  out : BlkL wr (s + 1) S
  has : ∀ n, S.has n = true ↔ n ∈ L ∧ n < N

theorem SJ.grow {w wr w' : World} {s N : Nat} {L : List Nat} {S : Pl} (h : SJ w wr s N L S) (k : Gr wr w') : SJ w w' s N L S := ⟨h.gr.trans k, h.res.gr k, h.out.gr k, h.has⟩
theorem SJ.put {w wr : World} {N : Nat} {L L' : List Nat} {S : Pl} (h : SJ w wr w.heap.size N L S) {qa qb qc qd : BitVec 64} (hq : ∀ n, Pl.has ⟨qa, qb, qc, qd⟩ n = true ↔ n ∈ L' ∧ n < N) :
    SJ w ((((wr.setCell ⟨w.heap.size + 1, 0, none⟩ (.int .u64 (u qa))).setCell ⟨w.heap.size + 1, 1, none⟩ (.int .u64 (u qb))).setCell ⟨w.heap.size + 1, 2, none⟩ (.int .u64 (u qc))).setCell ⟨w.heap.size + 1, 3, none⟩ (.int .u64 (u qd))) w.heap.size N L' ⟨qa, qb, qc, qd⟩ :=
  ⟨(((h.gr.setCell (p := ⟨w.heap.size + 1, 0, none⟩) (by simp) _).setCell (p := ⟨w.heap.size + 1, 1, none⟩) (by simp) _).setCell (p := ⟨w.heap.size + 1, 2, none⟩) (by simp) _).setCell (p := ⟨w.heap.size + 1, 3, none⟩) (by simp) _,
    Blk.other4 h.res (by omega) _ _ _ _ _ _ _ _, BlkL.set4 h.out qa qb qc qd, hq⟩

set_option maxRecDepth 100000 in
set_option maxHeartbeats 4000000 in
theorem set_any (w : World) (b : Nat) (sv fv fi la : Sl) (E : Bool) (L : List Nat) (v : Value) (hb : Blk w b (pvc sv fv fi la E) 53) (hv : RowI w v L) (hL : ∀ j ∈ L, j < 200) (hl : L.length ≤ 1000) :
    Calls Tryd.prog 59 #[.pointer (some ⟨b, 0, none⟩), v] w fun e w' => ∃ S : Pl, e = .returned (plv S) ∧ (∀ n, S.has n = true ↔ n ∈ L ∧ n < sv.n) ∧ Gr w w' := by
  obtain ⟨ao, cap, rfl⟩ := hv.form
  obtain ⟨N, hN⟩ : ∃ N : Nat, N = L.length := ⟨_, rfl⟩
  have HN : Hid (N = L.length) := hN
  have HV : Hid (RowI w (.slice ao N cap) L) := by rw [hN]; exact hv
  have HB : Hid (Blk w b (pvc sv fv fi la E) 53) := hb
  have HL : Hid (∀ j ∈ L, j < 200) := hL
  have ka := fun n hn W => at_any n hn W
  have kw := fun o q W => with_any o q W
  obtain ⟨sa, sn, sc⟩ := sv
  have hbl := hb.lt
  rw [← hN] at hl ⊢
  clear hv hN hb hL
  go_enter Tryd.func59, Tryd.ntmps59
  go_wp2_with fail
  have J0 : Hid (SJ w ((w.alloc (.cells #[.int .u64 0, .int .u64 0, .int .u64 0, .int .u64 0] 67)).alloc (.cells #[.int .u64 0, .int .u64 0, .int .u64 0, .int .u64 0] 67)) w.heap.size sn [] .zero) :=
    ⟨((Gr.refl _).alloc _).alloc _, (Blk.new _ _ _).alloc _, Blk.new' _ _ _ _ (by simp), fun n => by rw [Pl.has_zero]; simp⟩
  go_loopw [10] (fun vi wr => ∃ (k : Nat) (S : Pl), k ≤ N ∧ vi = .int .i64 k ∧ Hid (SJ w wr w.heap.size sn (L.take k) S)) (fun vi _ => N - (intOf vi).toNat)
  case atStart => exact ⟨0, .zero, Nat.zero_le _, rfl, J0⟩
  case round =>
    clear J0
    obtain ⟨k, S, hk, rfl, HJ⟩ := hrel
    obtain ⟨o0, o1, o2, o3⟩ := BlkL.cs HJ.out.out
    have of1 := HJ.out.out.frozen
    by_cases hlt : k < N
    case neg =>
      have e : k = N := by omega
      subst e
      obtain ⟨r0, r1, r2, r3⟩ := BlkL.cs HJ.out.res
      have rf := HJ.out.res.frozen
      obtain ⟨qa, qb, qc, qd⟩ := S
      simp only at o0 o1 o2 o3
      go_wp2_with fail
      have hres := run_plv (BlkL.set4 HJ.out.res qa qb qc qd)
      refine bodyPost_ret (v := plv ⟨qa, qb, qc, qd⟩) ?_ rfl ⟨⟨qa, qb, qc, qd⟩, rfl, fun n => ?_, ?_⟩
      · simp [results, Tryd.results59]
        exact hres
      · have := HJ.out.has n
        rw [HN.out, List.take_length] at this
        exact this
      · exact (((HJ.out.gr.setCell (p := ⟨w.heap.size, 0, none⟩) (by simp) _).setCell (p := ⟨w.heap.size, 1, none⟩) (by simp) _).setCell (p := ⟨w.heap.size, 2, none⟩) (by simp) _).setCell (p := ⟨w.heap.size, 3, none⟩) (by simp) _
    obtain ⟨j, hj⟩ : ∃ j, L[k]? = some j := ⟨_, List.getElem?_eq_getElem (by have := HN.out; omega)⟩
    have HJK : Hid (L[k]? = some j) := hj
    obtain ⟨bb, off, rfl, hbb, d0⟩ := (HV.out.gr HJ.out.gr).csI hj
    have hb2 := HB.out.gr HJ.out.gr
    have c0 := hb2.c 0
    have hbl2 := hb2.lt
    rw [show (pvc ⟨sa, sn, sc⟩ fv fi la E)[0]? = some (.slice sa sn sc) from rfl] at c0
    have hj2 := HL.out j (List.mem_of_getElem? hj)
    have h0j : (0 : Int) ≤ (j : Int) := by omega
    have mixed : Tryd.prog.follows .mixedOrders = true := by kernel_rfl
    have kaj := fun W => ka j (by omega) W
    clear hj hb2 ka
    by_cases hjn : (j : Int) < sn
    · go_wp2_with fail
      go_region_with
        (first
          | (go_at_call 44; refine (kaj _).mono ?_; rintro _ w4 ⟨rfl, gw⟩; have J4 : Hid (SJ w w4 w.heap.size sn (L.take k) S) := HJ.out.grow (((Gr.refl _).drewN 1).trans gw); clear gw; obtain ⟨p0, p1, p2, p3⟩ := BlkL.cs J4.out.out)
          | (go_at_call 62; refine (kw _ _ _).mono ?_; rintro _ w5 ⟨rfl, gw⟩; have J5 : Hid (SJ w w5 w.heap.size sn (L.take k) S) := J4.out.grow gw; clear gw; obtain ⟨e0, e1, e2, e3⟩ := BlkL.cs J5.out.out; have ef := J5.out.out.frozen))
      all_goals
        have J6 : Hid (SJ w _ w.heap.size sn (L.take (k + 1)) (S.or (Pl.at j))) := J5.out.put (L' := L.take (k + 1)) (qa := (S.or (Pl.at j)).a) (qb := (S.or (Pl.at j)).b) (qc := (S.or (Pl.at j)).c) (qd := (S.or (Pl.at j)).d) (fun n => by
          show (S.or (Pl.at j)).has n = true ↔ _
          rw [Pl.has_or, Pl.has_at (by omega), Bool.or_eq_true, J5.out.has n, mem_take_succ HJK.out]
          simp
          constructor
          · rintro (h | rfl)
            · exact ⟨Or.inl h.1, h.2⟩
            · exact ⟨Or.inr rfl, by omega⟩
          · rintro ⟨h | h, h2⟩
            · exact Or.inl ⟨h, h2⟩
            · exact Or.inr h)
        go_wp2_with fail
        go_roundw
        case rel => exact ⟨k + 1, S.or (Pl.at j), by omega, by go_num, J6⟩
        case measure => simp [intOf]; omega
    · have J6 : Hid (SJ w wr w.heap.size sn (L.take (k + 1)) S) := ⟨HJ.out.gr, HJ.out.res, HJ.out.out, fun n => by
        rw [HJ.out.has n, mem_take_succ HJK.out]
        constructor
        · rintro ⟨h, h2⟩; exact ⟨Or.inl h, h2⟩
        · rintro ⟨h | rfl, h2⟩
          · exact ⟨h, h2⟩
          · omega⟩
      go_wp2_with fail
      go_roundw
      case rel => exact ⟨k + 1, S, by omega, by go_num, J6⟩
      case measure => simp [intOf]; omega

set_option maxRecDepth 100000 in
set_option maxHeartbeats 4000000 in
theorem behind_any (w : World) (b : Nat) (sv fv fi la : Sl) (E : Bool) (ss rs : List Sl) (sets : List (List (Int × Int))) (rows : List (List Nat)) (Lf Ll : List Nat) (hb : Blk w b (pvc sv fv fi la E) 53) (hp : HP w sv fv fi la ss rs sets rows Lf Ll)
    (hlr : sets.length = rows.length) (hN : sets.length ≤ 200) (hok : ∀ (i : Nat) L, rows[i]? = some L → Rises L ∧ ∀ j ∈ L, j < 200) :
    Calls Tryd.prog 58 #[.pointer (some ⟨b, 0, none⟩)] w fun e w' => ∃ (qb : Nat) (qs : List Pl), e = .returned (.slice (some ⟨qb, 0, none⟩) sets.length sets.length) ∧ Blk w' qb (lrow qs) 67 ∧ w.heap.size ≤ qb ∧ qs.length = sets.length ∧
      (∀ (i : Nat) L, rows[i]? = some L → ∃ q : Pl, qs[i]? = some q ∧ ∀ n, q.has n = true ↔ n ∈ L ∧ n < sets.length) ∧ Gr w w' := by
  obtain ⟨N, hNN⟩ : ∃ N : Nat, N = sets.length := ⟨_, rfl⟩
  have hsn : sv.n = N := by
    obtain ⟨_, _, e⟩ := hp.so.form
    injection e with _ e _
    rw [e, hp.sl, hNN]
  have hfn : fv.n = N := by
    obtain ⟨_, _, e⟩ := hp.fo.form
    injection e with _ e _
    rw [e, hp.rl, hNN, hlr]
  have HB : Hid (Blk w b (pvc sv fv fi la E) 53) := hb
  have HH : Hid (HP w sv fv fi la ss rs sets rows Lf Ll) := hp
  have HOK : Hid (∀ (i : Nat) L, rows[i]? = some L → Rises L ∧ ∀ j ∈ L, j < 200) := hok
  have HRL : Hid (N = rows.length) := hNN.trans hlr
  have mk := fun W => make50 N (by omega) W
  have ks := fun (W : World) L v h1 h2 h3 h4 => set_any W b sv fv fi la E L v h1 h2 h3 h4
  rw [← hNN] at hN ⊢
  obtain ⟨sa, sn, sc⟩ := sv
  obtain ⟨fa, fn, fc⟩ := fv
  simp only at hsn hfn
  subst hsn
  subst hfn
  have c0 := hb.c 0
  have c4 := hb.c 4
  have hbl := hb.lt
  rw [show (pvc ⟨sa, fn, sc⟩ ⟨fa, fn, fc⟩ fi la E)[0]? = some (.slice sa fn sc) from rfl] at c0
  rw [show (pvc ⟨sa, fn, sc⟩ ⟨fa, fn, fc⟩ fi la E)[4]? = some (.slice fa fn fc) from rfl] at c4
  clear hb hp hok hNN hlr
  go_enter Tryd.func58, Tryd.ntmps58
  go_wp2_with fail
  go_region
  go_wp2_with fail
  have G0 : Hid (Gr w ((w.alloc (.cells (lrow (List.replicate fn Pl.zero)) 67)).drewN 1)) := ((Gr.refl _).alloc _).drewN 1
  have Q0 : Hid (Blk ((w.alloc (.cells (lrow (List.replicate fn Pl.zero)) 67)).drewN 1) w.heap.size (lrow (List.replicate fn Pl.zero)) 67) := (Blk.new _ _ _).drewN 1
  clear c0 c4
  go_loopw [22] (fun vi wr => ∃ (k : Nat) (qs : List Pl), k ≤ fn ∧ vi = .int .i64 k ∧ Hid (Gr w wr) ∧ Hid (Blk wr w.heap.size (lrow qs) 67) ∧ Hid (qs.length = fn) ∧ Hid (∀ (i : Nat) L, i < k → rows[i]? = some L → ∃ q : Pl, qs[i]? = some q ∧ ∀ n, q.has n = true ↔ n ∈ L ∧ n < fn)) (fun vi _ => fn - (intOf vi).toNat)
  case atStart => exact ⟨0, _, Nat.zero_le _, rfl, G0, Q0, List.length_replicate, fun i L h => absurd h (Nat.not_lt_zero _)⟩
  case round =>
    clear G0 Q0
    obtain ⟨k, qs, hk, rfl, HG, HQ, HQL, HM⟩ := hrel
    by_cases hlt : k < fn
    case neg =>
      have e : k = fn := by omega
      subst e
      go_wp2_with fail
      go_ret
      exact ⟨_, qs, rfl, HQ.out, Nat.le_refl _, HQL.out, fun i L hL => HM.out i L (by have := (List.getElem?_eq_some_iff.1 hL).1; have := HRL.out; omega) hL, HG.out⟩
    have hb2 := HB.out.gr HG.out
    have hh2 := HH.out.gr HG.out
    have c4 := hb2.c 4
    have hbl2 := hb2.lt
    rw [show (pvc ⟨sa, fn, sc⟩ ⟨fa, fn, fc⟩ fi la E)[4]? = some (.slice fa fn fc) from rfl] at c4
    obtain ⟨r, hr⟩ : ∃ r, rs[k]? = some r := ⟨_, List.getElem?_eq_getElem (by have := HH.out.rl; have := HRL.out; omega)⟩
    obtain ⟨L, hL⟩ : ∃ L, rows[k]? = some L := ⟨_, List.getElem?_eq_getElem (by have := HRL.out; omega)⟩
    obtain ⟨q0, hq0⟩ : ∃ q0, qs[k]? = some q0 := ⟨_, List.getElem?_eq_getElem (by have := HQL.out; omega)⟩
    have HLK : Hid (rows[k]? = some L) := hL
    have HQ0 : Hid (qs[k]? = some q0) := hq0
    obtain ⟨fb, off, rfl, hfb, hc⟩ := hh2.fo.at hr
    have d0 := hc 0 _ rfl
    simp only [Nat.mul_one, Nat.add_zero] at d0
    obtain ⟨hri, hrj⟩ := HOK.out k L hL
    have hll := rises_len hri hrj
    have kk := ks wr L _ hb2 (hh2.re k r L hr hL) hrj (by omega)
    clear ks hb2 hh2 hc hr hL hri hrj hq0
    obtain ⟨ra, rn, rc⟩ := r
    simp only at d0 kk
    obtain ⟨e0, e1, e2, e3⟩ := step_cs HQ.out HQ0.out
    have ef := HQ.out.frozen
    have eb := HQ.out.lt
    have hkf : (k : Int) < fn := by omega
    go_wp2_with (go_at_call 59; refine kk.mono ?_; rintro _ w4 ⟨S, rfl, hS, gw⟩; have HS : Hid (∀ n, S.has n = true ↔ n ∈ L ∧ n < fn) := hS; have G4 : Hid (Gr w w4) := HG.out.trans gw; have Q4 : Hid (Blk w4 w.heap.size (lrow qs) 67) := HQ.out.gr gw; clear hS gw; obtain ⟨g0, g1, g2, g3⟩ := step_cs Q4.out HQ0.out; have gf := Q4.out.frozen)
    have Q5 := blk_step Q4.out HQ0.out S
    have G5 := (((G4.out.setCell (p := ⟨w.heap.size, k * 4, none⟩) (Nat.le_refl _) (.int .u64 (u S.a))).setCell (p := ⟨w.heap.size, k * 4 + 1, none⟩) (Nat.le_refl _) (.int .u64 (u S.b))).setCell (p := ⟨w.heap.size, k * 4 + 2, none⟩) (Nat.le_refl _) (.int .u64 (u S.c))).setCell (p := ⟨w.heap.size, k * 4 + 3, none⟩) (Nat.le_refl _) (.int .u64 (u S.d))
    have M5 : Hid (∀ (i : Nat) L, i < k + 1 → rows[i]? = some L → ∃ q : Pl, (qs.set k S)[i]? = some q ∧ ∀ n, q.has n = true ↔ n ∈ L ∧ n < fn) := fun i L' hi hL' => by
      by_cases c : i = k
      · subst c
        have e := HLK.out.symm.trans hL'
        injection e with e
        subst e
        exact ⟨S, set_same HQ0.out, HS.out⟩
      · obtain ⟨q, h1, h2⟩ := HM.out i L' (by omega) hL'
        exact ⟨q, by rw [List.getElem?_set_ne (fun e => c e.symm)]; exact h1, h2⟩
    go_roundw
    case rel => exact ⟨k + 1, qs.set k S, by omega, by go_num, G5, Q5, by show _ = _; rw [List.length_set]; exact HQL.out, M5⟩
    case measure => simp [intOf]; omega

end Go.Proofs.YtjjlkjfhhpogaaaDoor
