/-
  The walks of the document's Alike and Kinds.
-/
import Derived.Test.YtdilnelfkbeamaaW22
namespace Go.Proofs.Ytdilnelfkbeamaa
open Go.RowKit

set_option maxHeartbeats 4000000 in
theorem alike_any (v : Value) (l : List Rg) (p q : Pf) (w : World) (hl : l.length ≤ 64) (hp : Num p.addr) (hq : Num q.addr) (hg : GoodG l) (hv : RowG w v l) :
    Calls Try.prog 37 #[v, pv p, pv q] w fun e w' => e = .returned (.bool (alikeB l p q)) ∧ Gr w w' := by
  obtain ⟨ao, cap, rfl⟩ := hv.form
  obtain ⟨N, hN⟩ : ∃ N : Nat, N = l.length := ⟨_, rfl⟩
  have HN : Hid (N = l.length) := hN
  have HV : Hid (RowG w (.slice ao N cap) l) := by rw [hN]; exact hv
  have HGd : Hid (GoodG l) := hg
  rw [← hN] at hl ⊢
  clear hv hg hN
  obtain ⟨P, n⟩ := p
  obtain ⟨q0, q1⟩ := q
  simp only at hp hq
  obtain ⟨W, hW⟩ : ∃ W, W = (w.alloc (.cells #[.int .u32 P, .int .i64 n] 25)).alloc (.cells #[.int .u32 q0, .int .i64 q1] 25) := ⟨_, rfl⟩
  have HP : Hid (BlkP W w.heap.size P n) := by rw [hW]; exact (Blk.new _ _ _).alloc _
  have HQ : Hid (BlkP W (w.heap.size + 1) q0 q1) := by rw [hW]; exact Blk.new' _ _ _ _ (by simp)
  have HG : Hid (Gr w W) := by rw [hW]; exact ((Gr.refl _).alloc _).alloc _
  have HW2 : Hid ((w.alloc (.cells #[.int .u32 P, .int .i64 n] 25)).alloc (.cells #[.int .u32 q0, .int .i64 q1] 25) = W) := hW.symm
  clear hW
  obtain ⟨r, hr⟩ : ∃ r, r = alikeB l ⟨P, n⟩ ⟨q0, q1⟩ := ⟨_, rfl⟩
  have HR : Hid (r = alikeB l ⟨P, n⟩ ⟨q0, q1⟩) := hr
  rw [← hr]
  clear hr
  have hmx : Try.prog.follows .mixedOrders = true := by kernel_rfl
  go_enter Try.func37, Try.ntmps37
  go_wp2_with fail
  rw [HW2.out]
  clear HW2
  go_loopw [11] (fun vi wr => ∃ k : Nat, k ≤ N ∧ vi = .int .i64 k ∧ Hid (Gr W wr) ∧ Hid (r = alikeB (l.drop k) ⟨P, n⟩ ⟨q0, q1⟩)) (fun vi _ => N - (intOf vi).toNat)
  case atStart => exact ⟨0, Nat.zero_le _, rfl, Gr.refl _, by rw [List.drop_zero]; exact HR⟩
  case round =>
    obtain ⟨k, hk, rfl, HK, HM⟩ := hrel
    by_cases hlt : k < N
    case neg =>
      have e : r = true := by
        have := HM.out
        rw [List.drop_eq_nil_of_le (by have := HN.out; omega)] at this
        exact this
      go_wp2_with fail
      go_ret
      exact ⟨by rw [e]; rfl, HG.out.trans HK.out⟩
    obtain ⟨y, hy⟩ : ∃ y, l[k]? = some y := ⟨_, List.getElem?_eq_getElem (by have := HN.out; omega)⟩
    obtain ⟨b, off, rfl, hb, d0, d1, d2, d3⟩ := (HV.out.gr (HG.out.trans HK.out)).cs4 hy
    have ja := fun W => rin_any y ⟨P, n⟩ (HGd.out.at hy) hp W
    have jb := fun W => rin_any y ⟨q0, q1⟩ (HGd.out.at hy) hq W
    have HM2 : Hid (r = ((inR y ⟨P, n⟩ == inR y ⟨q0, q1⟩) && alikeB (l.drop (k + 1)) ⟨P, n⟩ ⟨q0, q1⟩)) := by
      have hd : l.drop k = y :: l.drop (k + 1) := by
        obtain ⟨hi, rfl⟩ := List.getElem?_eq_some_iff.1 hy
        exact List.drop_eq_getElem_cons hi
      have := HM.out
      rw [hd] at this
      exact this
    obtain ⟨y0, y1, y2, y3⟩ := y
    simp only at d0 d1 d2 d3
    obtain ⟨W6, hW6⟩ : ∃ W6, W6 = wr.alloc (.cells #[.int .u32 y0, .int .i64 y1, .int .i64 y2, .int .i64 y3] 28) := ⟨_, rfl⟩
    have HY6 : Hid (BlkG W6 wr.heap.size y0 y1 y2 y3) := by rw [hW6]; exact Blk.new _ _ _
    have HG6 : Hid (Gr W W6) := by rw [hW6]; exact HK.out.alloc _
    have HW6 : Hid (wr.alloc (.cells #[.int .u32 y0, .int .i64 y1, .int .i64 y2, .int .i64 y3] 28) = W6) := hW6.symm
    clear hW6 hy HM
    generalize inR ⟨y0, y1, y2, y3⟩ ⟨P, n⟩ = qa at *
    generalize inR ⟨y0, y1, y2, y3⟩ ⟨q0, q1⟩ = qb at *
    go_wp2_with fail
    rw [HW6.out]
    clear HW6 d0 d1 d2 d3 hb
    have e0 := fun n os => (BlkG.cs (HY6.out.grow n os)).1
    have e1 := fun n os => (BlkG.cs (HY6.out.grow n os)).2.1
    have e2 := fun n os => (BlkG.cs (HY6.out.grow n os)).2.2.1
    have e3 := fun n os => (BlkG.cs (HY6.out.grow n os)).2.2.2
    have f0 := fun n os => (BlkP.cs ((HP.out.gr HG6.out).grow n os)).1
    have f1 := fun n os => (BlkP.cs ((HP.out.gr HG6.out).grow n os)).2
    have g0 := fun n os => (BlkP.cs ((HQ.out.gr HG6.out).grow n os)).1
    have g1 := fun n os => (BlkP.cs ((HQ.out.gr HG6.out).grow n os)).2
    cases qa <;> cases qb
    case false.true =>
      refine wp_region_quiet_grownB (by assumption) (by kernel_rfl) ?_
      repeat (refine wpQuiet_stepB (fun K hK => ?_); go_simp; first | (refine hK _ ?_; clear hK K) | (apply Exists.intro; refine ⟨fun _ => ?_, hK _ ?_⟩; (first | (go_at_call 14; with_reducible refine Calls.grown_of (ja _)) | (go_at_call 14; with_reducible refine Calls.grown_of (jb _))); clear hK K))
      refine wpQuiet_nilB ?_
      intro _ hw'
      obtain ⟨⟨nq, osq⟩, hw''⟩ := hw'
      subst hw''
      go_wp2_with fail
      go_ret
      exact ⟨by rw [HM2.out]; rfl, (HG.out.trans HG6.out).trans ⟨_, _, rfl⟩⟩
    case true.false =>
      refine wp_region_quiet_grownB (by assumption) (by kernel_rfl) ?_
      repeat (refine wpQuiet_stepB (fun K hK => ?_); go_simp; first | (refine hK _ ?_; clear hK K) | (apply Exists.intro; refine ⟨fun _ => ?_, hK _ ?_⟩; (first | (go_at_call 14; with_reducible refine Calls.grown_of (ja _)) | (go_at_call 14; with_reducible refine Calls.grown_of (jb _))); clear hK K))
      refine wpQuiet_nilB ?_
      intro _ hw'
      obtain ⟨⟨nq, osq⟩, hw''⟩ := hw'
      subst hw''
      go_wp2_with fail
      go_ret
      exact ⟨by rw [HM2.out]; rfl, (HG.out.trans HG6.out).trans ⟨_, _, rfl⟩⟩
    case false.false =>
      refine wp_region_quiet_grownB (by assumption) (by kernel_rfl) ?_
      repeat (refine wpQuiet_stepB (fun K hK => ?_); go_simp; first | (refine hK _ ?_; clear hK K) | (apply Exists.intro; refine ⟨fun _ => ?_, hK _ ?_⟩; (first | (go_at_call 14; with_reducible refine Calls.grown_of (ja _)) | (go_at_call 14; with_reducible refine Calls.grown_of (jb _))); clear hK K))
      refine wpQuiet_nilB ?_
      intro _ hw'
      obtain ⟨⟨nq, osq⟩, hw''⟩ := hw'
      subst hw''
      go_wp2_with fail
      go_roundw
      case rel => exact ⟨k + 1, by omega, by go_num, HG6.out.trans ⟨_, _, rfl⟩, HM2⟩
      case measure => simp [intOf]; omega
    case true.true =>
      refine wp_region_quiet_grownB (by assumption) (by kernel_rfl) ?_
      repeat (refine wpQuiet_stepB (fun K hK => ?_); go_simp; first | (refine hK _ ?_; clear hK K) | (apply Exists.intro; refine ⟨fun _ => ?_, hK _ ?_⟩; (first | (go_at_call 14; with_reducible refine Calls.grown_of (ja _)) | (go_at_call 14; with_reducible refine Calls.grown_of (jb _))); clear hK K))
      refine wpQuiet_nilB ?_
      intro _ hw'
      obtain ⟨⟨nq, osq⟩, hw''⟩ := hw'
      subst hw''
      go_wp2_with fail
      go_roundw
      case rel => exact ⟨k + 1, by omega, by go_num, HG6.out.trans ⟨_, _, rfl⟩, HM2⟩
      case measure => simp [intOf]; omega

set_option maxHeartbeats 400000 in
theorem rkinds_full (v : Value) (l : List Rg) (w : World) (hl : 64 < l.length) (hv : RowG w v l) :
    Calls Try.prog 25 #[v] w fun e w' => e = .returned (.tuple #[.slice none 0 0, .int .i64 6]) ∧ w' = w := by
  obtain ⟨ao, cap, rfl⟩ := hv.form
  clear hv
  go_enter Try.func25, Try.ntmps25
  go_wp2_with fail
  exact bodyPost_ret (v := .tuple #[.slice none 0 0, .int .i64 6]) (by simp [results, Try.results25, go_sem]) rfl ⟨rfl, rfl⟩

theorem beg_num {l : List Rg} {R : List Int} (hl : GoodG l) (h : IsSet (begRaw l) R) : ∀ c ∈ R, Num c := fun c hc => by
  have := (h.2 c).1 hc
  unfold begRaw at this
  rcases List.mem_cons.1 this with rfl | hc
  · exact ⟨by simp, by simp⟩
  · obtain ⟨x, hx, hxc⟩ := List.mem_flatMap.1 hc
    have hxr := hl x hx
    have hp := sz_pos x.len
    unfold begPiece at hxc
    split at hxc
    · rcases List.mem_cons.1 hxc with rfl | hxc
      · exact hxr
      · split at hxc
        · simp at hxc
          subst hxc
          have := hxr.1
          exact ⟨by omega, by omega⟩
        · simp at hxc
    · simp at hxc

theorem any_take {P : Pf → Bool} {l : List Pf} {k : Nat} {x : Pf} (hx : l[k]? = some x) : (l.take (k + 1)).any P = ((l.take k).any P || P x) := by
  rw [take_succ_of hx, List.any_append]
  simp

theorem RowX.cs2' {w : World} {b off n cap : Nat} {l : List Pf} (h : RowP w (.slice (some ⟨b, off, none⟩) n cap) l) {k : Nat} {x : Pf} (hx : l[k]? = some x) :
    b < w.heap.size ∧ w.cell? ⟨b, off + k * 2, none⟩ = some (.int .u32 x.addr) ∧ w.cell? ⟨b, off + k * 2 + 1, none⟩ = some (.int .i64 x.len) := by
  obtain ⟨b', off', e, hb, h1⟩ := h.cs2 hx
  injection e with e
  injection e with e1 e2
  subst e1
  subst e2
  exact ⟨hb, h1⟩

set_option maxRecDepth 100000 in
set_option maxHeartbeats 8000000 in
theorem rkinds_any (v : Value) (l : List Rg) (w : World) (hl : l.length ≤ 64) (hg : GoodG l) (hv : RowG w v l) :
    Calls Try.prog 25 #[v] w fun e w' => ∃ u out, e = .returned (.tuple #[u, .int .i64 0]) ∧ IsKinds l out ∧ out.length ≤ 4257 ∧ RowP w' u out ∧ Below w.heap.size w w' := by
  obtain ⟨ao, cap, rfl⟩ := hv.form
  obtain ⟨N, hN⟩ : ∃ N : Nat, N = l.length := ⟨_, rfl⟩
  have HN : Hid (N = l.length) := hN
  have HL : Hid (l.length ≤ 64) := hl
  have HV : Hid (RowG w (.slice ao N cap) l) := by rw [hN]; exact hv
  have HGd : Hid (GoodG l) := hg
  rw [← hN] at hl ⊢
  clear hv hg hN
  go_enter Try.func25, Try.ntmps25
  go_wp2_with fail
  go_loopw [4, 5] (fun vo vj wr => ∃ (j : Nat) (out T : List Pf), j ≤ 33 ∧ vj = .int .i64 j ∧ Hid (Swept l j T) ∧ Hid (Met l T out) ∧ Hid (out.length ≤ 129 * j) ∧ Hid (OwnP w.heap.size wr vo out) ∧ Hid (Below w.heap.size w wr)) (fun _ vj _ => 33 - (intOf vj).toNat)
  case atStart => exact ⟨0, [], [], by omega, rfl, Swept.zero l, Met.nil l, by simp [Hid], OwnX.nil _ _ _ _ _, Below.refl _ _⟩
  case round =>
    obtain ⟨j, out, T, hj, rfl, HS, HM, HLo, HO, HB⟩ := hrel
    obtain ⟨ao4, cap4, hv4⟩ := HO.out.form
    obtain ⟨n4, hn4⟩ : ∃ n4, n4 = out.length := ⟨_, rfl⟩
    rw [← hn4] at hv4
    subst hv4
    clear hn4
    by_cases hlt : j < 33
    case neg =>
      have e : j = 33 := by omega
      subst e
      go_wp2_with fail
      refine bodyPost_ret (v := .tuple #[.slice ao4 n4 cap4, .int .i64 0]) (by simp [results, Try.results25, go_sem]) rfl ?_
      exact ⟨_, out, rfl, HS.out.done HM.out, HLo.out, HO.out.row encP_len, HB.out⟩
    have kc := begins_any (.slice ao N cap) l wr HL.out HGd.out (HV.out.bel HB.out)
    go_wp2_with fail
    refine kc.mono ?_
    rintro _ w1 ⟨u, r, rfl, hset, hrl, ou, bb1⟩
    have HR : Hid (RowOk l j (r.map fun c => maskA c j)) := begins_ok HGd.out (by omega) (by omega) hset
    have hr0 : r ≠ [] := by
      intro e
      have := (hset.2 0).2 List.mem_cons_self
      rw [e] at this
      simp at this
    have HRn : Hid (∀ x ∈ r, Num x) := fun x hx => beg_num HGd.out hset x hx
    have HO1 : Hid (OwnP w.heap.size w1 (.slice ao4 n4 cap4) out) := HO.out.bel bb1
    have HB1 : Hid (Below w.heap.size w w1) := HB.out.trans (bb1.mono HB.out.size)
    have HSzR : Hid (w.heap.size ≤ wr.heap.size) := HB.out.size
    have HOu : Hid (Own1 wr.heap.size w1 u r) := ou
    obtain ⟨gU, cU, rfl, hgU1, hgU2, _, _, _⟩ := ou.shape hr0
    obtain ⟨m, hm⟩ : ∃ m, m = r.length := ⟨_, rfl⟩
    rw [← hm] at HOu ⊢
    have HMr : Hid (m = r.length) := hm
    have hm129 : m ≤ 129 := by omega
    have HAp : Hid ((Value.slice ao4 n4 cap4).ownBlock ≠ some gU) := fun e => by have := (HO.out.lt e).2; omega
    clear kc hset hr0 ou bb1 hm hrl hgU1 hgU2 HO HB
    go_wp2_with fail
    go_loopw [4, 22] (fun vo vi wq => ∃ (t : Nat) (out' : List Pf), t ≤ m ∧ vi = .int .i64 t ∧ Hid (Met l (T ++ ((r.map fun c => maskA c j).take t).map fun c => ⟨c, (j : Int)⟩) out') ∧ Hid (out'.length ≤ 129 * j + t) ∧ Hid (OwnP w.heap.size wq vo out') ∧ Hid (Below w.heap.size w wq) ∧ Hid (Own1 w.heap.size wq (.slice (some ⟨gU, 0, none⟩) m cU) r) ∧ Hid (vo.ownBlock ≠ some gU)) (fun _ vi _ => m - (intOf vi).toNat)
    case atStart => exact ⟨0, out, Nat.zero_le _, rfl, by simpa using HM, HLo, HO1, HB1, HOu.out.lower HSzR.out, HAp⟩
    case round =>
      clear HO1 HB1 HOu HAp HM HLo
      obtain ⟨t, o', ht, rfl, HM, HLo, HO, HB, HOu, HAp⟩ := hrel
      obtain ⟨ao5, cap5, hv5⟩ := HO.out.form
      obtain ⟨n5, hn5⟩ : ∃ n5, n5 = o'.length := ⟨_, rfl⟩
      rw [← hn5] at hv5
      subst hv5
      have HN5 : Hid (n5 = o'.length) := hn5
      have hn5b : n5 ≤ 4386 := by have := HLo.out; omega
      clear hn5
      by_cases htl : t < m
      case neg =>
        have HE : Hid (Met l (T ++ (r.map fun c => maskA c j).map fun c => ⟨c, (j : Int)⟩) o') := by
          have := HM.out
          rw [List.take_of_length_le (by have := HMr.out; simp; omega)] at this
          exact this
        go_wp2_with fail
        go_roundw
        case rel => exact ⟨j + 1, o', _, by omega, by go_num, by have := HS.out.row HR.out; simpa [Hid] using this, HE, by have := HLo.out; show o'.length ≤ 129 * (j + 1); omega, HO, HB⟩
        case measure => simp [intOf]; omega
      obtain ⟨x, hx⟩ : ∃ x, r[t]? = some x := ⟨_, List.getElem?_eq_getElem (by have := HMr.out; omega)⟩
      have hxm : (r.map fun c => maskA c j)[t]? = some (maskA x j) := by rw [List.getElem?_map, hx]; rfl
      have HST : Hid (Met l (T ++ ((r.map fun c => maskA c j).take (t + 1)).map fun c => ⟨c, (j : Int)⟩) (visit l o' ⟨maskA x j, j⟩)) := met_step HS.out.below HR.out.order hxm HM.out
      have hxn := HRn.out x (List.mem_of_getElem? hx)
      have kcut := fun W => cut_any x j hxn W
      have hzn : Num (maskA x j) := maskA_range hxn
      have HQk : Hid (∀ q ∈ o', Num q.addr) := fun q hq => by
        rcases List.mem_append.1 (HM.out.sub q hq) with h | h
        · exact (HS.out.ok q h).1
        · obtain ⟨c, hc, rfl⟩ := List.mem_map.1 h
          exact (HR.out.ok c (List.mem_of_mem_take hc)).1
      obtain ⟨gU', cU', hvU, _, hgl, _, _, hcl⟩ := HOu.out.shape (ne_nil_of_lt (show t < r.length by have := HMr.out; omega))
      rw [← HMr.out] at hvU
      simp at hvU
      obtain ⟨rfl, rfl⟩ := hvU
      have cx := hcl t x hx
      clear hcl hx hxm
      generalize maskA x j = z at *
      go_wp2_with fail
      refine (kcut _).mono ?_
      rintro _ w2 ⟨rfl, gw⟩
      have HG2 : Hid (Gr wr (w2.alloc (.cells #[.int .u32 z, .int .i64 j] 25))) := gw.alloc _
      have HP2 : Hid (BlkP (w2.alloc (.cells #[.int .u32 z, .int .i64 j] 25)) w2.heap.size z j) := Blk.new _ _ _
      have HNp : Hid ((Value.slice ao5 n5 cap5).ownBlock ≠ some w2.heap.size) := HO.out.notAt gw.below.size
      have HNu : Hid (gU < w2.heap.size) := Nat.lt_of_lt_of_le hgl gw.below.size
      clear gw kcut cx
      obtain ⟨W3, hW3⟩ : ∃ W3, W3 = w2.alloc (.cells #[.int .u32 z, .int .i64 j] 25) := ⟨_, rfl⟩
      rw [← hW3] at HG2 HP2
      have HW3 : Hid (w2.alloc (.cells #[.int .u32 z, .int .i64 j] 25) = W3) := hW3.symm
      have HSz3 : Hid (W3.heap.size = w2.heap.size + 1) := by rw [hW3]; simp [Hid]
      clear hW3
      go_wp2_with fail
      rw [HW3.out]
      clear HW3
      go_loopw [9, 33] (fun vs vi wq => ∃ i : Nat, i ≤ n5 ∧ vi = .int .i64 i ∧ vs = .bool ((o'.take i).any fun q => alikeB l ⟨z, j⟩ q) ∧ Hid (Gr W3 wq)) (fun _ vi _ => n5 - (intOf vi).toNat)
      case atStart => exact ⟨0, Nat.zero_le _, rfl, rfl, Gr.refl _⟩
      case round =>
        obtain ⟨i, hi, rfl, rfl, HJ⟩ := hrel
        obtain ⟨p0, p1⟩ := BlkP.cs (HP2.out.gr HJ.out)
        have pl := (HP2.out.gr HJ.out).lt
        by_cases hil : i < n5
        case pos =>
          obtain ⟨q, hq⟩ : ∃ q, o'[i]? = some q := ⟨_, List.getElem?_eq_getElem (by have := HN5.out; omega)⟩
          obtain ⟨b5, off5, rfl, hb5, d0, d1⟩ := (((HO.out.row encP_len).gr HG2.out).gr HJ.out).cs2 hq
          have hqn := HQk.out q (List.mem_of_getElem? hq)
          have ka := fun W (h : RowG W (.slice ao N cap) l) => alike_any (.slice ao N cap) l ⟨z, j⟩ q W HL.out hzn hqn HGd.out h
          have HAT : Hid ((o'.take (i + 1)).any (fun q => alikeB l ⟨z, j⟩ q) = ((o'.take i).any (fun q => alikeB l ⟨z, j⟩ q) || alikeB l ⟨z, j⟩ q)) := any_take hq
          obtain ⟨q0, q1⟩ := q
          simp only at d0 d1
          have HVW : Hid (RowG (wr.alloc (.cells #[.int .u32 q0, .int .i64 q1] 25)) (.slice ao N cap) l) := (HV.out.bel (HB.out.trans ((HG2.out.trans HJ.out).below.mono HB.out.size))).gr ((Gr.refl _).alloc _)
          have kb := ka _ HVW.out
          clear hq ka hqn
          generalize (o'.take i).any (fun q => alikeB l ⟨z, j⟩ q) = sm at *
          generalize alikeB l ⟨z, j⟩ ⟨q0, q1⟩ = al at *
          cases sm
          case true =>
            go_wp2_with fail
            go_roundw
            case rel => exact ⟨i + 1, by omega, by go_num, by rw [HAT.out]; rfl, HJ.out.alloc _⟩
            case measure => simp [intOf]; omega
          case false =>
            go_wp2_with fail
            refine kb.mono ?_
            rintro _ w5 ⟨rfl, gw⟩
            have G5 : Hid (Gr W3 w5) := (HJ.out.alloc _).trans gw
            clear gw
            go_wp2_with fail
            go_roundw
            case rel => exact ⟨i + 1, by omega, by go_num, by rw [HAT.out]; rfl, G5⟩
            case measure => simp [intOf]; omega
        have hi2 : o'.take i = o' := List.take_of_length_le (by have := HN5.out; omega)
        rw [hi2]
        clear hi2
        have HGq := HG2.out.trans HJ.out
        have HB6 : Hid (Below w.heap.size w wr) := HB.out.trans (HGq.below.mono HB.out.size)
        have HO6 : Hid (OwnP w.heap.size wr (.slice ao5 n5 cap5) o') := HO.out.gr HGq
        have HOu6 : Hid (Own1 w.heap.size wr (.slice (some ⟨gU, 0, none⟩) m cU) r) := HOu.out.gr HGq
        have hg6 := HGq.below.size
        clear HGq HO HB HOu
        cases hsn : o'.any fun q => alikeB l ⟨z, j⟩ q with
        | true =>
          have HE : Hid (visit l o' ⟨z, j⟩ = o') := visit_known hsn
          rw [HE.out] at HST
          clear hsn HE
          go_wp2_with fail
          go_roundw
          case rel => exact ⟨t + 1, o', by omega, by go_num, HST, by have := HLo.out; show o'.length ≤ 129 * j + (t + 1); omega, HO6, HB6, HOu6, HAp⟩
          case measure => simp [intOf]; omega
        | false =>
          have HE : Hid (visit l o' ⟨z, j⟩ = o' ++ [⟨z, j⟩]) := visit_new hsn
          rw [HE.out] at HST
          clear hsn HE
          have HL5 : Hid (o'.length ≤ 1000000) := by have := HLo.out; show o'.length ≤ 1000000; omega
          have HAU : Hid (∀ g, (Value.slice (some ⟨gU, 0, none⟩) m cU).ownBlock = some g → (Value.slice ao5 n5 cap5).ownBlock ≠ some g) := fun g hg => by
            simp [Value.ownBlock] at hg
            rw [← hg]
            exact HAp.out
          go_wp2_with (at_builtin; refine wp_appP rfl _ _ rfl w.heap.size (.slice ao5 n5 cap5) o' rfl (HO6.out.alloc _) ⟨z, j⟩ _ rfl (Blk.new' _ _ _ _ (by simp)) HL5.out (Nat.le_trans HB6.out.size (by simp)) ?_; intro g6 cap6 w6 how6 hgr6 hgg6 hlt6)
          have hB7 : Below w.heap.size w w6 := (HB6.out.alloc HB6.out.size _).grown hgr6 (Nat.le_trans HB6.out.size (by simp)) (fun k hk => (HO6.out.lt hk).1)
          have hou7 : Own1 w.heap.size w6 (.slice (some ⟨gU, 0, none⟩) m cU) r := (HOu6.out.alloc _).grown hgr6 HAU.out
          have hap7 : (Value.slice (some ⟨g6, 0, none⟩) (o'.length + 1) cap6).ownBlock ≠ some gU := by
            intro e
            simp [Value.ownBlock] at e
            subst e
            rcases hgg6 with e | e
            · exact HAp.out e
            · simp at e
              have := (HOu6.out.lt (g := g6) rfl).2
              omega
          go_roundw
          case rel => exact ⟨t + 1, o' ++ [(⟨z, j⟩ : Pf)], by omega, by go_num, HST, by have := HLo.out; show (o' ++ [(⟨z, j⟩ : Pf)]).length ≤ 129 * j + (t + 1); simp; omega, how6, hB7, hou7, hap7⟩
          case measure => simp [intOf]; omega

end Go.Proofs.Ytdilnelfkbeamaa
