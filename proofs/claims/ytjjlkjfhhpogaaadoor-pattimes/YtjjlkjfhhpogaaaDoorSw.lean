/-
  The walk of spoil: it writes over a pattern's own memory, and nothing else.
-/
import Derived.Test.YtjjlkjfhhpogaaaDoorSp
import Derived.Deep.DeepCutAuto
namespace Go.Proofs.YtjjlkjfhhpogaaaDoor
open Go.RowKit

theorem HS.parts {P : Nat → Prop} {w : World} {k : Int} {set : List (Int × Int)} {subs : List Tree} {x : PC} (h : HS P w (.mk k set subs) x) : ∃ xk sa sc ba bc, x = ⟨xk, ⟨sa, set.length, sc⟩, ⟨ba, subs.length, bc⟩⟩ := by
  obtain ⟨⟨set', h1, h2⟩, h3, rows, ⟨h4, h5⟩, h6⟩ := (HS_mk _ _ _ _ _ _).1 h
  obtain ⟨xk, ⟨sa, sn, sc⟩, ba, bn, bc⟩ := x
  obtain ⟨a1, c1, e1⟩ := h2.form
  obtain ⟨a2, c2, e2⟩ := h4.form
  injection e1 with _ e1 _
  injection e2 with _ e2 _
  rw [h6.len] at e2
  rw [h1] at e1
  have e1' : sn = set.length := e1
  have e2' : bn = subs.length := e2
  subst e1' e2'
  exact ⟨xk, sa, sc, ba, bc, rfl⟩
/-- A span of its Set: where it lies. -/
theorem HS.span {P : Nat → Prop} {w : World} {k : Int} {set : List (Int × Int)} {subs : List Tree} {xk : Int} {sa : Option Addr} {sc : Nat} {bs : Sl} {S : Nat} (h : HS P w (.mk k set subs) ⟨xk, ⟨sa, S, sc⟩, bs⟩) {i : Nat} (hi : i < set.length) : ∃ (g : Nat) (y : Int × Int) (cs : Array Value), sa = some ⟨g, 0, none⟩ ∧ P g ∧ Blk w g cs 78 ∧ w.cell? ⟨g, i * 2, none⟩ = some (.int .u32 y.1) := by
  obtain ⟨⟨set', h1, h2⟩, h3, _⟩ := (HS_mk _ _ _ _ _ _).1 h
  obtain ⟨y, hy⟩ : ∃ y, set'[i]? = some y := ⟨_, List.getElem?_eq_getElem (by omega)⟩
  rcases h2.2 with ⟨_, h0⟩ | ⟨g, cap, cur, hv, hb, hg, _⟩
  · omega
  · have hv' := hv
    injection hv' with e1 _ _
    have e1 : sa = some ⟨g, 0, none⟩ := e1
    subst e1
    obtain ⟨b, off, e2, _, c0, _⟩ := (h2.row encS_len).cs2 hy
    injection e2 with e2
    injection e2 with e3 e4
    subst e3 e4
    rw [Nat.zero_add] at c0
    exact ⟨g, y, cur, rfl, h3 g rfl, hg, c0⟩
/-- One of its Subs: where it lies. -/
theorem HS.sub {P : Nat → Prop} {w : World} {k : Int} {set : List (Int × Int)} {subs : List Tree} {xk : Int} {ss : Sl} {ba : Option Addr} {bc N : Nat} (h : HS P w (.mk k set subs) ⟨xk, ss, ⟨ba, N, bc⟩⟩) {i : Nat} {s : Tree} (hs : subs[i]? = some s) : ∃ (g : Nat) (r : PC) (cs : Array Value), ba = some ⟨g, 0, none⟩ ∧ P g ∧ Blk w g cs 25 ∧ HS P w s r ∧ w.cell? ⟨g, i * 3, none⟩ = some (.int .i64 r.k) ∧ w.cell? ⟨g, i * 3 + 1, none⟩ = some (.slice r.s.a r.s.n r.s.c) ∧ w.cell? ⟨g, i * 3 + 2, none⟩ = some (.slice r.b.a r.b.n r.b.c) := by
  obtain ⟨_, _, rows, ⟨h4, h5⟩, h6⟩ := (HS_mk _ _ _ _ _ _).1 h
  obtain ⟨r, hr, hr2⟩ := h6.at hs
  rcases h4.2 with ⟨_, h0⟩ | ⟨g, cap, cur, hv, hb, hg, _⟩
  · have := (List.getElem?_eq_some_iff.1 hr).1
    omega
  · have hv' := hv
    injection hv' with e1 _ _
    have e1 : ba = some ⟨g, 0, none⟩ := e1
    subst e1
    obtain ⟨b, off, e2, _, c0, c1, c2⟩ := (h4.row encT_len).cs3 hr
    injection e2 with e2
    injection e2 with e3 e4
    subst e3 e4
    rw [Nat.zero_add] at c0 c1 c2
    exact ⟨g, r, cur, rfl, h5 g rfl, hg, hr2, c0, c1, c2⟩

set_option maxHeartbeats 8000000 in
theorem spoil_any {P : Nat → Prop} (m : Nat) : ∀ (t : Tree) (x : PC) (w : World), size t ≤ m → okT t → HS P w t x → (∀ g, P g → g < w.heap.size) → Calls Tryd.prog 28 #[x.v] w fun e w' => (∃ v, e = .returned v) ∧ SF P w w' := by
  induction m with
  | zero => intro t x w h; have := size_pos t; omega
  | succ m ih =>
  intro t x w hm hok hx hP
  obtain ⟨k, set, subs⟩ := t
  obtain ⟨xk, sa, sc, ba, bc, rfl⟩ := hx.parts
  rw [size_mk] at hm
  obtain ⟨ok1, ok2, ok3⟩ := (okT_mk _ _ _).1 hok
  have HE : Hid (∀ (j : Nat) (s : Tree) (r : PC) (W : World), subs[j]? = some s → HS P W s r → (∀ g, P g → g < W.heap.size) → Calls Tryd.prog 28 #[r.v] W fun e w' => (∃ v, e = .returned v) ∧ SF P W w') := fun j s r W hs h1 h2 => ih s r W (by have := size_le_of_at hs; omega) (okL.at ok3 hs) h1 h2
  obtain ⟨N, hN⟩ : ∃ N, N = subs.length := ⟨_, rfl⟩
  obtain ⟨S, hSn⟩ : ∃ S, S = set.length := ⟨_, rfl⟩
  have HN : Hid (N = subs.length) := hN
  have HSn : Hid (S = set.length) := hSn
  rw [← hN] at hx ok2 ⊢
  rw [← hSn] at hx ok1 ⊢
  have HX : Hid (HS P w (.mk k set subs) ⟨xk, ⟨sa, S, sc⟩, ⟨ba, N, bc⟩⟩) := hx
  have HP : Hid (∀ g, P g → g < w.heap.size) := hP
  clear hx hP hm ih hN hSn ok3 hok
  go_enter Tryd.func28, Tryd.ntmps28
  go_upto_region 1 with fail
  generalize hW : World.alloc _ _ = W2
  have HF2 : Hid (SF P w W2 ∧ Blk W2 w.heap.size (encT ⟨xk, ⟨sa, S, sc⟩, ⟨ba, N, bc⟩⟩).toArray 25) := by
    rw [← hW]
    exact ⟨SF.of (bel_alloc _ _) HP.out, Blk.new _ _ _⟩
  clear hW
  obtain ⟨x0, x1, x2⟩ := BlkT.cs HF2.out.2
  simp only at x0 x1 x2
  go_wp2_with fail
  clear x0 x1 x2
  go_loopw [7] (fun vi wr => ∃ i : Nat, i ≤ S ∧ vi = .int .i64 i ∧ Hid (SF P w wr ∧ Blk wr w.heap.size (encT ⟨xk, ⟨sa, S, sc⟩, ⟨ba, N, bc⟩⟩).toArray 25)) (fun vi _ => S - (intOf vi).toNat)
  case atStart => exact ⟨0, Nat.zero_le _, rfl, HF2⟩
  case round =>
    clear HF2
    obtain ⟨i, hi, rfl, HF⟩ := hrel
    by_cases hlt : i < S
    case pos =>
      obtain ⟨g, y, cs, rfl, hPg, hg, c0⟩ := (HF.out.1.stay _ _ HX.out).span (i := i) (by have := HSn.out; omega)
      obtain ⟨x0, x1, x2⟩ := BlkT.cs HF.out.2
      simp only at x0 x1 x2
      have n1 : g ≠ w.heap.size := by have := HP.out g hPg; omega
      have n2 : w.heap.size ≠ g := by have := HP.out g hPg; omega
      have gf := hg.frozen
      have HJ : Hid (∀ z, SF P w (wr.setCell ⟨g, i * 2, none⟩ (.int .u32 z)) ∧ Blk (wr.setCell ⟨g, i * 2, none⟩ (.int .u32 z)) w.heap.size (encT ⟨xk, ⟨some ⟨g, 0, none⟩, S, sc⟩, ⟨ba, N, bc⟩⟩).toArray 25) := fun z => ⟨HF.out.1.set61 hg hPg i z, HF.out.2.other n2 _⟩
      have hlt2 : (i : Int) < S := by omega
      obtain ⟨y0, y1⟩ := y
      simp only at c0
      clear hg hPg
      go_wp2_with fail
      go_region
      all_goals
        have J7 := HJ.out ((y0 + 1) % 4294967296)
        generalize hW6 : World.setCell _ _ _ = W6 at J7 ⊢
        have H6 : Hid (SF P w W6.drew ∧ Blk W6.drew w.heap.size (encT ⟨xk, ⟨some ⟨g, 0, none⟩, S, sc⟩, ⟨ba, N, bc⟩⟩).toArray 25) := ⟨⟨J7.1.os, J7.1.tape, J7.1.output, J7.1.size, (fun g h1 h2 => J7.1.block g h1 h2), fun t x hx => HS.same (w := W6) (w' := W6.drew) (fun _ _ => rfl) (J7.1.stay t x hx)⟩, J7.2⟩
        generalize W6.drew = W8 at H6 ⊢
        clear J7 hW6 HJ HF x0 x1 x2 n1 n2 gf c0
        go_wp2_with fail
        go_roundw
        case rel => exact ⟨i + 1, by omega, by go_num, H6⟩
        case measure => simp [intOf]; omega
    case neg =>
      have hle : ¬ (i : Int) < S := by omega
      obtain ⟨x0, x1, x2⟩ := BlkT.cs HF.out.2
      simp only at x0 x1 x2
      go_wp2_with fail
      clear x0 x1 x2
      go_loopw [26] (fun vi wr => ∃ j : Nat, j ≤ N ∧ vi = .int .i64 j ∧ Hid (SF P w wr ∧ Blk wr w.heap.size (encT ⟨xk, ⟨sa, S, sc⟩, ⟨ba, N, bc⟩⟩).toArray 25)) (fun vi _ => N - (intOf vi).toNat)
      case atStart => exact ⟨0, Nat.zero_le _, rfl, HF⟩
      case round =>
        clear HF
        obtain ⟨j, hj, rfl, HF⟩ := hrel
        by_cases hlt : j < N
        case pos =>
          obtain ⟨s, hs⟩ : ∃ s, subs[j]? = some s := ⟨_, List.getElem?_eq_getElem (by have := HN.out; omega)⟩
          obtain ⟨g, r, cs, rfl, hPg, hg, hr, c0, c1, c2⟩ := (HF.out.1.stay _ _ HX.out).sub hs
          have kE := HE.out j s r wr hs hr (fun q hq => Nat.lt_of_lt_of_le (HP.out q hq) HF.out.1.size)
          have HBack : Hid (∀ w', SF P wr w' → (SF P w w' ∧ Blk w' w.heap.size (encT ⟨xk, ⟨sa, S, sc⟩, ⟨some ⟨g, 0, none⟩, N, bc⟩⟩).toArray 25) ∧ ∃ (r' : PC) (cs' : Array Value), Blk w' g cs' 25 ∧ w'.cell? ⟨g, j * 3, none⟩ = some (.int .i64 r'.k)) := fun w' hf => by
            have a1 := HF.out.1.trans hf
            refine ⟨⟨a1, hf.blk HF.out.2 (fun hp => by have := HP.out _ hp; omega)⟩, ?_⟩
            obtain ⟨g', r', cs', e, _, b1, _, b2, _⟩ := (a1.stay _ _ HX.out).sub hs
            injection e with e
            injection e with e
            subst e
            exact ⟨r', cs', b1, b2⟩
          have HPg : Hid (P g) := hPg
          obtain ⟨x0, x1, x2⟩ := BlkT.cs HF.out.2
          simp only at x0 x1 x2
          have n1 : g ≠ w.heap.size := by have := HP.out g hPg; omega
          have n2 : w.heap.size ≠ g := by have := HP.out g hPg; omega
          have hlt2 : (j : Int) < N := by omega
          obtain ⟨rk, ⟨rsa, rsn, rsc⟩, rba, rbn, rbc⟩ := r
          simp only at c0 c1 c2
          clear hs hPg hg hr
          go_wp2_with (go_at_call 28; refine kE.mono ?_; rintro _ w5 ⟨⟨v5, rfl⟩, sf5⟩; obtain ⟨f5, r5, cs5, b5, d5⟩ := HBack.out w5 sf5; have H5 : Hid (SF P w w5 ∧ Blk w5 w.heap.size (encT ⟨xk, ⟨sa, S, sc⟩, ⟨some ⟨g, 0, none⟩, N, bc⟩⟩).toArray 25) := f5; have B5 : Hid (Blk w5 g cs5 25) := b5; clear sf5 f5 b5; obtain ⟨y0, y1, y2⟩ := BlkT.cs H5.out.2; have gf := B5.out.frozen)
          have J7 : SF P w (w5.setCell ⟨g, j * 3, none⟩ (.int .i64 9)) ∧ Blk (w5.setCell ⟨g, j * 3, none⟩ (.int .i64 9)) w.heap.size (encT ⟨xk, ⟨sa, S, sc⟩, ⟨some ⟨g, 0, none⟩, N, bc⟩⟩).toArray 25 := ⟨H5.out.1.set25 B5.out HPg.out j 9, H5.out.2.other n2 _⟩
          generalize hW6 : World.setCell _ _ _ = W6 at J7 ⊢
          have H6 : Hid (SF P w W6 ∧ Blk W6 w.heap.size (encT ⟨xk, ⟨sa, S, sc⟩, ⟨some ⟨g, 0, none⟩, N, bc⟩⟩).toArray 25) := J7
          clear J7 hW6 HF H5 B5 HBack x0 x1 x2 y0 y1 y2 n1 n2 gf c0 c1 c2 d5 kE
          go_wp2_with fail
          go_roundw
          case rel => exact ⟨j + 1, by omega, by go_num, H6⟩
          case measure => simp [intOf]; omega
        case neg =>
          have hle2 : ¬ (j : Int) < N := by omega
          go_wp2_with fail
          refine bodyPost_end (results_none rfl _ _ _) rfl ?_
          exact ⟨⟨_, rfl⟩, HF.out.1⟩

end Go.Proofs.YtjjlkjfhhpogaaaDoor
