/-
  The walk of stepAt.
-/
import Derived.Test.YtjjlkjfhhpogaaaDoorPa2
import Derived.Deep.RegionHeld3
namespace Go.Proofs.YtjjlkjfhhpogaaaDoor
open Go.RowKit

/-- What a Star's part says of its memory. -/
theorem St.star {l : List Int} {set : List (Int × Int)} {s : Tree} {w : World} {b i : Nat} {rows : List PV} {x : PV} {lo hi : Nat} (h : St l (.mk 4 set [s]) w b i rows x lo hi) :
    ∃ sb a m r qb qs, x.k = 4 ∧ x.sub = ⟨some ⟨sb, 0, none⟩, 1, 1⟩ ∧ x.st = ⟨some ⟨qb, 0, none⟩, l.length + 1, l.length + 1⟩ ∧ lo ≤ sb ∧ sb < a ∧ a ≤ m ∧ m ≤ qb ∧ qb < hi ∧ St l s w sb 0 [r] r a m ∧
      qs.length = l.length + 1 ∧ Blk w qb (lrow qs) 67 ∧ ∀ n, x.ak.has n = true → ∃ q : Pl, qs[n]? = some q ∧ ∀ j, q.has j = true ↔ Goes l s n j := by
  obtain ⟨h1, _, sb, a, c, rs, h3, h4, h5, h6, h7, h8, h9, h10⟩ := (PT_mk _ _ _ _ _ _ _ _).1 h.pt
  obtain ⟨qb, qs, k1, k2, k3, k4, k5, k6⟩ := h10 rfl
  obtain ⟨r, rest, m, rfl, n1, n2, n3, n4⟩ := (PTs_cons _ _ _ _ _ _ _).1 h9
  obtain ⟨rfl, _⟩ := (PTs_nil _ _ _ _ _).1 n4
  have ht := h.top
  have hp := h.pos
  refine ⟨sb, a, m, r, qb, qs, h1, h3, k1, h4, h5, n1, by omega, k3, ⟨h8, rfl, n3, n1, by omega, Or.inl h5, h.tab, by omega, by omega⟩, k4, k5, fun n hn => ?_⟩
  obtain ⟨q, q1, q2⟩ := k6 n hn
  refine ⟨q, q1, fun j => (q2 j).trans ⟨?_, fun h => ⟨s, rfl, h⟩⟩⟩
  rintro ⟨s', e, h⟩
  injection e with e
  subst e
  exact h

/-- And the way back: the part with what it knows by now. -/
theorem St.unstar {l : List Int} {set : List (Int × Int)} {s : Tree} {w : World} {b i : Nat} {rows : List PV} {x : PV} {lo hi sb a m qb : Nat} {r : PV} {qs : List Pl}
    (hk : x.k = 4) (hsub : x.sub = ⟨some ⟨sb, 0, none⟩, 1, 1⟩) (hst : x.st = ⟨some ⟨qb, 0, none⟩, l.length + 1, l.length + 1⟩) (h1 : lo ≤ sb) (h2 : sb < a) (h3 : a ≤ m) (h4 : m ≤ qb) (h5 : qb < hi)
    (hs : St l s w sb 0 [r] r a m) (hq : qs.length = l.length + 1) (hqb : Blk w qb (lrow qs) 67) (hm : ∀ n, x.ak.has n = true → ∃ q : Pl, qs[n]? = some q ∧ ∀ j, q.has j = true ↔ Goes l s n j)
    (hb : Blk w b (prow rows) 70) (hx : rows[i]? = some x) (ht : hi ≤ w.heap.size) (ho : b < lo ∨ hi ≤ b) (hp : 0 < lo) (hbp : 0 < b) : St l (.mk 4 set [s]) w b i rows x lo hi := by
  refine ⟨hb, hx, (PT_mk _ _ _ _ _ _ _ _).2 ⟨hk, fun h => by simp at h, sb, a, m, [r], hsub, h1, h2, h3, by omega, hs.blk, ?_, fun _ => ⟨qb, qs, hst, h4, h5, hq, hqb, fun n hn => ?_⟩⟩, by omega, ht, ho, hs.tab, hp, hbp⟩
  · exact (PTs_cons _ _ _ _ _ _ _).2 ⟨r, [], m, rfl, h3, Nat.le_refl _, hs.pt, (PTs_nil _ _ _ _ _).2 ⟨rfl, Nat.le_refl _⟩⟩
  · obtain ⟨q, q1, q2⟩ := hm n hn
    refine ⟨q, q1, fun j => (q2 j).trans ⟨fun h => ⟨s, rfl, h⟩, ?_⟩⟩
    rintro ⟨s', e, h⟩
    injection e with e
    subst e
    exact h

theorem St.set4 {l : List Int} {t : Tree} {w : World} {b i : Nat} {rows : List PV} {x : PV} {lo hi g : Nat} (h : St l t w b i rows x lo hi) (h1 : b ≠ g) (h2 : ¬ (lo ≤ g ∧ g < hi)) (h3 : 0 < g) (c0 c1 c2 c3 : Nat) (v0 v1 v2 v3 : Value) :
    St l t ((((w.setCell ⟨g, c0, none⟩ v0).setCell ⟨g, c1, none⟩ v1).setCell ⟨g, c2, none⟩ v2).setCell ⟨g, c3, none⟩ v3) b i rows x lo hi :=
  (((h.setCell (p := ⟨g, c0, none⟩) (fun e => h1 e.symm) h2 h3 _).setCell (p := ⟨g, c1, none⟩) (fun e => h1 e.symm) h2 h3 _).setCell (p := ⟨g, c2, none⟩) (fun e => h1 e.symm) h2 h3 _).setCell (p := ⟨g, c3, none⟩) (fun e => h1 e.symm) h2 h3 _
theorem Fr.set4 {lo hi b g : Nat} {w w' : World} (h : Fr lo hi b w w') (hp : w.heap.size ≤ g ∨ (lo ≤ g ∧ g < hi) ∨ g = b) (c0 c1 c2 c3 : Nat) (v0 v1 v2 v3 : Value) :
    Fr lo hi b w ((((w'.setCell ⟨g, c0, none⟩ v0).setCell ⟨g, c1, none⟩ v1).setCell ⟨g, c2, none⟩ v2).setCell ⟨g, c3, none⟩ v3) :=
  (((h.setCell (p := ⟨g, c0, none⟩) hp _).setCell (p := ⟨g, c1, none⟩) hp _).setCell (p := ⟨g, c2, none⟩) hp _).setCell (p := ⟨g, c3, none⟩) hp _
theorem Blk.other4 {w : World} {b g : Nat} {cs : Array Value} {t : TypeId} (h : Blk w b cs t) (h1 : b ≠ g) (c0 c1 c2 c3 : Nat) (v0 v1 v2 v3 : Value) :
    Blk ((((w.setCell ⟨g, c0, none⟩ v0).setCell ⟨g, c1, none⟩ v1).setCell ⟨g, c2, none⟩ v2).setCell ⟨g, c3, none⟩ v3) b cs t :=
  (((h.other (p := ⟨g, c0, none⟩) h1 _).other (p := ⟨g, c1, none⟩) h1 _).other (p := ⟨g, c2, none⟩) h1 _).other (p := ⟨g, c3, none⟩) h1 _

set_option maxRecDepth 100000 in
set_option maxHeartbeats 4000000 in
theorem stepAt_any {l : List Int} (hl : l.length ≤ 255) {set : List (Int × Int)} {s : Tree} (hE : CE l s) (w : World) (b i : Nat) (rows : List PV) (x : PV) (lo hi n : Nat) (hS : St l (.mk 4 set [s]) w b i rows x lo hi) (hn : n ≤ l.length) :
    Calls Tryd.prog 93 #[.pointer (some ⟨b, i * 11, none⟩), .int .i64 n] w fun e w' => PostG l (.mk 4 set [s]) (fun j => Goes l s n j) b i rows lo hi w e w' := by
  obtain ⟨sb, a, m, r, qb, qs, hk, hsub, hst, o1, o2, o3, o4, o5, hSs, hqs, hqb, hmemo⟩ := hS.star
  obtain ⟨xk, xsub, tk, xst, ak⟩ := x
  simp only at hk hsub hst hmemo
  subst hk hsub hst
  have kh := fun W => has_any ak n (by omega) W
  cases hc : ak.has n with
  | true =>
    rw [hc] at kh
    obtain ⟨q, q1, q2⟩ := hmemo n hc
    have HBk : Hid (Blk w b (prow rows) 70) := hS.blk
    have HAt : Hid (rows[i]? = some ⟨4, ⟨some ⟨sb, 0, none⟩, 1, 1⟩, tk, ⟨some ⟨qb, 0, none⟩, l.length + 1, l.length + 1⟩, ak⟩) := hS.at_
    have HS : Hid (St l (.mk 4 set [s]) w b i rows ⟨4, ⟨some ⟨sb, 0, none⟩, 1, 1⟩, tk, ⟨some ⟨qb, 0, none⟩, l.length + 1, l.length + 1⟩, ak⟩ lo hi) := hS
    have HQB : Hid (Blk w qb (lrow qs) 67) := hqb
    have HQ1 : Hid (qs[n]? = some q) := q1
    have HQ2 : Hid (∀ j, q.has j = true ↔ Goes l s n j) := q2
    have HR4 : Hid (BlkL (w.alloc (.cells (plc .zero) 67)) w.heap.size .zero) := Blk.new _ _ _
    obtain ⟨c0, c1, c2, c3, c4, c5, c6, c7, c8, c9, c10⟩ := part_cs HBk.out HAt.out
    simp only at c6 c7 c8 c9 c10
    have bl := HBk.out.lt
    have hnL : (n : Int) < (l.length : Int) + 1 := by omega
    obtain ⟨qa, qbb, qc, qd⟩ := q
    clear hS hSs hqb hmemo q1 q2 hE hqs c0 c1 c2 c3 c4 c5
    go_enter Tryd.func93, Tryd.ntmps93
    go_wp2_with (go_at_call 45; refine (kh _).mono ?_; rintro _ w2 ⟨rfl, gw⟩; have G2 : Hid (Gr w w2) := ((Gr.refl _).alloc _).trans gw; have R4 : Hid (BlkL w2 w.heap.size .zero) := HR4.out.gr gw; clear gw c6 c7 c8 c9 c10; obtain ⟨_, _, _, _, _, _, d6, _, _, _, _⟩ := part_cs (HBk.out.gr G2.out) HAt.out; obtain ⟨e0, e1, e2, e3⟩ := step_cs (HQB.out.gr G2.out) HQ1.out; simp only at d6 e0 e1 e2 e3; obtain ⟨z0, z1, z2, z3⟩ := BlkL.cs R4.out; have zf := R4.out.frozen)
    refine bodyPost_ret (v := plv ⟨qa, qbb, qc, qd⟩) ?_ rfl ⟨⟨qa, qbb, qc, qd⟩, ⟨4, ⟨some ⟨sb, 0, none⟩, 1, 1⟩, tk, ⟨some ⟨qb, 0, none⟩, l.length + 1, l.length + 1⟩, ak⟩, rfl, HQ2.out, ?_, ?_⟩
    · simp [results, Tryd.results93]
      exact run_plv (BlkL.set4 R4.out qa qbb qc qd)
    · rw [set_id HAt.out]
      exact (HS.out.gr G2.out).set4 (by omega) (by have := HS.out.top; omega) (by omega) _ _ _ _ _ _ _ _
    · exact (Fr.of_gr G2.out).set4 (Or.inl (Nat.le_refl _)) _ _ _ _ _ _ _ _
  | false =>
    rw [hc] at kh
    have kat := fun W => at_any n (by omega) W
    have kw := fun W => with_any ak (Pl.at n) W
    obtain ⟨q0, hq0⟩ : ∃ q, qs[n]? = some q := ⟨_, List.getElem?_eq_getElem (by omega)⟩
    have HS : Hid (St l (.mk 4 set [s]) w b i rows ⟨4, ⟨some ⟨sb, 0, none⟩, 1, 1⟩, tk, ⟨some ⟨qb, 0, none⟩, l.length + 1, l.length + 1⟩, ak⟩ lo hi) := hS
    have HBk : Hid (Blk w b (prow rows) 70) := hS.blk
    have HAt : Hid (rows[i]? = some ⟨4, ⟨some ⟨sb, 0, none⟩, 1, 1⟩, tk, ⟨some ⟨qb, 0, none⟩, l.length + 1, l.length + 1⟩, ak⟩) := hS.at_
    have HSs : Hid (St l s w sb 0 [r] r a m) := hSs
    have HQB : Hid (Blk w qb (lrow qs) 67) := hqb
    have HQ0 : Hid (qs[n]? = some q0) := hq0
    have HQS : Hid (qs.length = l.length + 1) := hqs
    have HM : Hid (∀ n, ak.has n = true → ∃ q : Pl, qs[n]? = some q ∧ ∀ j, q.has j = true ↔ Goes l s n j) := hmemo
    have HR4 : Hid (BlkL (w.alloc (.cells (plc .zero) 67)) w.heap.size .zero) := Blk.new _ _ _
    obtain ⟨c0, c1, c2, c3, c4, c5, c6, c7, c8, c9, c10⟩ := part_cs HBk.out HAt.out
    simp only at c1 c6 c7 c8 c9 c10
    have bl := HBk.out.lt
    have hnL : (n : Int) < (l.length : Int) + 1 := by omega
    have HP : Hid (ak.or (Pl.at n) = ak.or (Pl.at n)) := rfl
    clear hS hSs hqb hmemo hqs c0 c2 c3 c4 c5 hq0
    go_enter Tryd.func93, Tryd.ntmps93
    go_wp2_with (go_at_call 45; refine (kh _).mono ?_; rintro _ w2 ⟨rfl, gw⟩; have G2 : Hid (Gr w w2) := ((Gr.refl _).alloc _).trans gw; have R4 : Hid (BlkL w2 w.heap.size .zero) := HR4.out.gr gw; clear gw c1 c6 c7 c8 c9 c10; obtain ⟨_, d1, _, _, _, _, d6, d7, d8, d9, d10⟩ := part_cs (HBk.out.gr G2.out) HAt.out; simp only at d1 d6 d7 d8 d9 d10; have df := (HBk.out.gr G2.out).frozen; have bl2 := (HBk.out.gr G2.out).lt)
    clear bl
    go_region_with
      (first
        | (go_at_call 44; (with_reducible refine (kat _).mono ?_); rintro _ w3 ⟨rfl, gw⟩; have G3 : Hid (Gr w w3) := (G2.out.drewN 1).trans gw; have R43 : Hid (BlkL w3 w.heap.size .zero) := (R4.out.drewN 1).gr gw; clear gw; obtain ⟨_, _, _, _, _, _, _, f7, f8, f9, f10⟩ := part_cs (HBk.out.gr G3.out) HAt.out; simp only at f7 f8 f9 f10)
        | (go_at_call 62; (with_reducible refine (kw _).mono ?_); rintro _ w4 ⟨rfl, gw⟩; have G4 : Hid (Gr w w4) := G3.out.trans gw; have R44 : Hid (BlkL w4 w.heap.size .zero) := R43.out.gr gw; clear gw; obtain ⟨_, _, _, _, _, _, _, g7, g8, g9, g10⟩ := part_cs (HBk.out.gr G4.out) HAt.out; simp only at g7 g8 g9 g10; have gf := (HBk.out.gr G4.out).frozen))
    all_goals
      have hout := HS.out.out
      have htop := HS.out.top
      have hbl := HS.out.lt
      have HB5 := blk_asked (HBk.out.gr G4.out) HAt.out (ak.or (Pl.at n))
      have HS5 := (HSs.out.gr G4.out).set4 (g := b) (by omega) (by omega) HS.out.bpos (i * 11 + 7) (i * 11 + 7 + 1) (i * 11 + 7 + 2) (i * 11 + 7 + 3) (.int .u64 (u (ak.or (Pl.at n)).a)) (.int .u64 (u (ak.or (Pl.at n)).b)) (.int .u64 (u (ak.or (Pl.at n)).c)) (.int .u64 (u (ak.or (Pl.at n)).d))
      have HQ5 := (HQB.out.gr G4.out).other4 (g := b) (by omega) (i * 11 + 7) (i * 11 + 7 + 1) (i * 11 + 7 + 2) (i * 11 + 7 + 3) (.int .u64 (u (ak.or (Pl.at n)).a)) (.int .u64 (u (ak.or (Pl.at n)).b)) (.int .u64 (u (ak.or (Pl.at n)).c)) (.int .u64 (u (ak.or (Pl.at n)).d))
      have HR5 := Blk.other4 R44.out (g := b) (by have := HS.out.lt; omega) (i * 11 + 7) (i * 11 + 7 + 1) (i * 11 + 7 + 2) (i * 11 + 7 + 3) (.int .u64 (u (ak.or (Pl.at n)).a)) (.int .u64 (u (ak.or (Pl.at n)).b)) (.int .u64 (u (ak.or (Pl.at n)).c)) (.int .u64 (u (ak.or (Pl.at n)).d))
      have HF5 := (Fr.of_gr (lo := lo) (hi := hi) (b := b) G4.out).set4 (g := b) (Or.inr (Or.inr rfl)) (i * 11 + 7) (i * 11 + 7 + 1) (i * 11 + 7 + 2) (i * 11 + 7 + 3) (.int .u64 (u (ak.or (Pl.at n)).a)) (.int .u64 (u (ak.or (Pl.at n)).b)) (.int .u64 (u (ak.or (Pl.at n)).c)) (.int .u64 (u (ak.or (Pl.at n)).d))
      generalize hW5 : World.setCell _ _ _ = W5 at HB5 HS5 HQ5 HR5 HF5 ⊢
      clear hW5 d1 d6 d7 d8 d9 d10 df f7 f8 f9 f10 g7 g8 g9 g10 gf R43 R44 R4
      have H5B : Hid (Blk W5 b (prow (rows.set i ⟨4, ⟨some ⟨sb, 0, none⟩, 1, 1⟩, tk, ⟨some ⟨qb, 0, none⟩, l.length + 1, l.length + 1⟩, ak.or (Pl.at n)⟩)) 70) := HB5
      have H5S : Hid (St l s W5 sb 0 [r] r a m) := HS5
      have H5Q : Hid (Blk W5 qb (lrow qs) 67) := HQ5
      have H5R : Hid (BlkL W5 w.heap.size .zero) := HR5
      have H5F : Hid (Fr lo hi b w W5) := HF5
      clear HB5 HS5 HQ5 HR5 HF5 hout htop hbl bl2
      obtain ⟨_, d1, _, _, _, _, d6, _, _, _, _⟩ := part_cs H5B.out (set_same HAt.out)
      simp only at d1 d6
      have bl5 := H5B.out.lt
      have hbq : b ≠ qb := by have := HS.out.out; omega
      have hqb : qb ≠ b := by omega
      have hatn : ∀ j, (Pl.at n).has j = true → j ≤ l.length := fun j hj => by
        rw [Pl.has_at (by omega)] at hj
        simp at hj
        omega
      have HATN : Hid (∀ j, (Pl.at n).has j = true → j ≤ l.length) := hatn
      clear hatn
      have kE := fun W h => hE W sb 0 [r] r a m (Pl.at n) h HATN.out
      simp only [Nat.zero_mul] at kE
      go_wp2_with fail
      go_region_held3 (fun w' => w'.cell? ⟨b, i * 11 + 1, none⟩ = some (.slice (some ⟨sb, 0, none⟩) 1 1) ∧ w'.cell? ⟨b, i * 11 + 6, none⟩ = some (.slice (some ⟨qb, 0, none⟩) (l.length + 1) (l.length + 1))) (go_keep)
        (first
          | (go_at_call 44; (with_reducible refine (kat _).mono ?_); rintro _ w6 ⟨rfl, gw⟩; have G6 : Hid (Gr W5 w6) := ((Gr.refl _).drewN 1).trans gw; clear gw; obtain ⟨_, f1, _, _, _, _, f6, _, _, _, _⟩ := part_cs (H5B.out.gr G6.out) (set_same HAt.out); simp only at f1 f6)
          | (go_at_call 43; (with_reducible refine (kE _ (H5S.out.gr G6.out)).mono ?_); rintro _ w7 ⟨r7, x7, rfl, hr7, s7, f7⟩; have HR7 : Hid (∀ j, r7.has j = true ↔ ∃ i, (Pl.at n).has i = true ∧ Goes l s i j) := hr7; have S7 : Hid (St l s w7 sb 0 [x7] x7 a m) := s7; have F7 : Hid (Fr a m sb W5 w7) := (Fr.of_gr G6.out).trans f7; clear hr7 s7 f7; obtain ⟨_, g1, _, _, _, _, g6, _, _, _, _⟩ := part_cs (H5B.out.fr F7.out (by have := HS.out.out; omega) (by have := HS.out.out; omega)) (set_same HAt.out); simp only at g1 g6; have q7 := step_cs (H5Q.out.fr F7.out (by omega) (by omega)) HQ0.out; obtain ⟨q71, q72, q73, q74⟩ := q7; have q7f := (H5Q.out.fr F7.out (by omega) (by omega)).frozen))
      have B7 := H5B.out.fr F7.out (by have := HS.out.out; omega) (by have := HS.out.out; omega)
      have Q7 := H5Q.out.fr F7.out (by omega) (by omega)
      have R7 : BlkL w7 w.heap.size .zero := Blk.fr F7.out H5R.out (by have := HS.out.top; omega) (by have := HS.out.top; omega)
      have B8 := B7.other4 (g := qb) hbq (n * 4) (n * 4 + 1) (n * 4 + 2) (n * 4 + 3) (.int .u64 (u r7.a)) (.int .u64 (u r7.b)) (.int .u64 (u r7.c)) (.int .u64 (u r7.d))
      have Q8 := blk_step Q7 HQ0.out r7
      have S8 := S7.out.set4 (g := qb) (by omega) (by omega) (by omega) (n * 4) (n * 4 + 1) (n * 4 + 2) (n * 4 + 3) (.int .u64 (u r7.a)) (.int .u64 (u r7.b)) (.int .u64 (u r7.c)) (.int .u64 (u r7.d))
      have R8 := Blk.other4 R7 (g := qb) (by have := HS.out.top; omega) (n * 4) (n * 4 + 1) (n * 4 + 2) (n * 4 + 3) (.int .u64 (u r7.a)) (.int .u64 (u r7.b)) (.int .u64 (u r7.c)) (.int .u64 (u r7.d))
      have F8 := (H5F.out.trans (F7.out.wide (lo' := lo) (hi' := hi) (b' := b) (by omega) (by omega) (Or.inr (by omega)))).set4 (g := qb) (Or.inr (Or.inl (by omega))) (n * 4) (n * 4 + 1) (n * 4 + 2) (n * 4 + 3) (.int .u64 (u r7.a)) (.int .u64 (u r7.b)) (.int .u64 (u r7.c)) (.int .u64 (u r7.d))
      clear B7 Q7 R7 d1 d6 f1 f6 g1 g6 q71 q72 q73 q74 q7f
      generalize hW8 : World.setCell _ _ _ = W8 at B8 Q8 S8 R8 F8 ⊢
      clear hW8
      have H8B : Hid (Blk W8 b (prow (rows.set i ⟨4, ⟨some ⟨sb, 0, none⟩, 1, 1⟩, tk, ⟨some ⟨qb, 0, none⟩, l.length + 1, l.length + 1⟩, ak.or (Pl.at n)⟩)) 70) := B8
      have H8S : Hid (St l s W8 sb 0 [x7] x7 a m) := S8
      have H8Q : Hid (Blk W8 qb (lrow (qs.set n r7)) 67) := Q8
      have H8R : Hid (BlkL W8 w.heap.size .zero) := R8
      have H8F : Hid (Fr lo hi b w W8) := F8
      clear B8 Q8 S8 R8 F8 S7 F7
      obtain ⟨_, _, _, _, _, _, d6, _, _, _, _⟩ := part_cs H8B.out (set_same HAt.out)
      obtain ⟨e0, e1, e2, e3⟩ := step_cs H8Q.out (set_same HQ0.out)
      obtain ⟨z0, z1, z2, z3⟩ := BlkL.cs H8R.out
      have zf := H8R.out.frozen
      simp only at d6
      obtain ⟨ra, rb, rc, rd⟩ := r7
      simp only at e0 e1 e2 e3
      go_wp2_with fail
      refine bodyPost_ret (v := plv ⟨ra, rb, rc, rd⟩) ?_ rfl ⟨⟨ra, rb, rc, rd⟩, ⟨4, ⟨some ⟨sb, 0, none⟩, 1, 1⟩, tk, ⟨some ⟨qb, 0, none⟩, l.length + 1, l.length + 1⟩, ak.or (Pl.at n)⟩, rfl, ?_, ?_, ?_⟩
      · simp [results, Tryd.results93]
        exact run_plv (BlkL.set4 H8R.out ra rb rc rd)
      · intro j
        rw [HR7.out j]
        constructor
        · rintro ⟨i', h1, h2⟩
          rw [Pl.has_at (by omega)] at h1
          simp at h1
          subst h1
          exact h2
        · intro h
          exact ⟨n, by rw [Pl.has_at (by omega)]; simp, h⟩
      · refine St.set4 (St.unstar rfl rfl rfl o1 o2 o3 o4 o5 H8S.out (qs := qs.set n ⟨ra, rb, rc, rd⟩) (by rw [List.length_set]; exact HQS.out) H8Q.out ?_ H8B.out (set_same HAt.out) (Nat.le_trans HS.out.top H8F.out.size) HS.out.out HS.out.pos HS.out.bpos) (by have := HS.out.lt; omega) (by have := HS.out.top; omega) (by have := HS.out.lt; omega) _ _ _ _ _ _ _ _
        intro k hk
        by_cases e : k = n
        · subst e
          refine ⟨_, set_same HQ0.out, fun j => ?_⟩
          rw [HR7.out j]
          constructor
          · rintro ⟨i', h1, h2⟩
            rw [Pl.has_at (by omega)] at h1
            simp at h1
            subst h1
            exact h2
          · intro h
            exact ⟨k, by rw [Pl.has_at (by omega)]; simp, h⟩
        · simp only [Pl.has_or, Pl.has_at (show n < 256 by omega), e, decide_false, Bool.or_false] at hk
          obtain ⟨q, h1, h2⟩ := HM.out k hk
          exact ⟨q, by rw [List.getElem?_set_ne (fun h => e h.symm)]; exact h1, h2⟩
      · exact H8F.out.set4 (Or.inl (Nat.le_refl _)) _ _ _ _ _ _ _ _
end Go.Proofs.YtjjlkjfhhpogaaaDoor
