/-
  The walk of ends, of a Cat and of an Alt; of any right pattern.
-/
import Derived.Test.YtihnmamejfoeeaaDoorE4
namespace Go.Proofs.YtihnmamejfoeeaaDoor
open Go.RowKit

theorem goesC_take {l : List Int} {subs : List Tree} {k : Nat} {s : Tree} (hs : subs[k]? = some s) {N o r : Pl} (ho : ∀ j, o.has j = true ↔ ∃ i, N.has i = true ∧ GoesC l (subs.take k) i j) (hr : ∀ j, r.has j = true ↔ ∃ i, o.has i = true ∧ Goes l s i j) :
    ∀ j, r.has j = true ↔ ∃ i, N.has i = true ∧ GoesC l (subs.take (k + 1)) i j := by
  intro j
  rw [hr j, take_succ_of hs]
  constructor
  · rintro ⟨m, h1, h2⟩
    obtain ⟨i, h3, h4⟩ := (ho m).1 h1
    exact ⟨i, h3, (goesC_snoc _ _ _ _ _).2 ⟨m, h4, h2⟩⟩
  · rintro ⟨i, h3, h4⟩
    obtain ⟨m, h5, h6⟩ := (goesC_snoc _ _ _ _ _).1 h4
    exact ⟨m, (ho m).2 ⟨i, h3, h5⟩, h6⟩
theorem goesC_le {l : List Int} {ts : List Tree} {i j : Nat} (h : GoesC l ts i j) : j ≤ l.length := h.2.1

set_option maxRecDepth 100000 in
set_option maxHeartbeats 4000000 in
theorem ends_cat {l : List Int} {set : List (Int × Int)} {subs : List Tree} (hlen : subs.length ≤ 200) (hE : ∀ (n : Nat) (s : Tree), subs[n]? = some s → CE l s) : CE l (.mk 2 set subs) := by
  intro w b i rows x lo hi N hS hN
  have HBl : Hid (b < w.heap.size) := hS.lt
  have HTop : Hid (hi ≤ w.heap.size) := hS.top
  have HAt : Hid (rows[i]? = some x) := hS.at_
  have HS : Hid (St l (.mk 2 set subs) w b i rows x lo hi) := hS
  have HN : Hid (∀ n, N.has n = true → n ≤ l.length) := hN
  obtain ⟨h1, _, sb, _, _, _, h3, _⟩ := (PT_mk _ _ _ _ _ _ _ _).1 hS.pt
  obtain ⟨M, hM⟩ : ∃ M, M = subs.length := ⟨_, rfl⟩
  have HM : Hid (M = subs.length) := hM
  rw [← hM] at h3 hlen
  obtain ⟨xk, xsub, tk, xst, ak⟩ := x
  simp only at h1 h3
  subst h1 h3
  obtain ⟨c0, c1, _, _, _, _, _, _, _, _, _⟩ := part_cs hS.blk hS.at_
  simp only at c0 c1
  have bl := hS.lt
  clear hS hN hM
  go_enter Tryd.func18, Tryd.ntmps18
  go_wp2_with fail
  generalize hW : World.alloc _ _ = W
  have g0 : Gr w W := by
    rw [← hW]
    exact ((Gr.refl _).alloc _).alloc _
  have h1 : EI l (.mk 2 set subs) b i rows lo hi w w.heap.size (w.heap.size + 1) W ⟨2, ⟨some ⟨sb, 0, none⟩, M, M⟩, tk, xst, ak⟩ N := by
    refine ⟨HS.out.gr g0, .of_gr g0, ?_, ?_⟩
    · rw [← hW]; exact Blk.new' _ _ _ _ (by simp)
    · rw [← hW]; exact (Blk.new _ _ _).alloc _
  have HI : Hid (EI l (.mk 2 set subs) b i rows lo hi w w.heap.size (w.heap.size + 1) W ⟨2, ⟨some ⟨sb, 0, none⟩, M, M⟩, tk, xst, ak⟩ N) := h1
  clear hW g0 h1 c0 c1 bl HS
  go_loopw [28] (fun vi wr => ∃ (k : Nat) (o : Pl), k ≤ M ∧ vi = .int .i64 k ∧ Hid (EI l (.mk 2 set subs) b i rows lo hi w w.heap.size (w.heap.size + 1) wr ⟨2, ⟨some ⟨sb, 0, none⟩, M, M⟩, tk, xst, ak⟩ o) ∧ Hid (∀ j, o.has j = true ↔ ∃ i, N.has i = true ∧ GoesC l (subs.take k) i j)) (fun vi _ => M - (intOf vi).toNat)
  case atStart =>
    refine ⟨0, N, Nat.zero_le _, rfl, HI, fun j => ?_⟩
    constructor
    · intro h
      exact ⟨j, h, (goesC_nil _ _ _).2 ⟨rfl, HN.out j h⟩⟩
    · rintro ⟨i, h, h2⟩
      rw [List.take_zero] at h2
      obtain ⟨rfl, _⟩ := (goesC_nil _ _ _).1 h2
      exact h
  case round =>
    clear HI
    obtain ⟨k, o, hk, rfl, HI, HO⟩ := hrel
    by_cases hlt : k < M
    case neg =>
      obtain ⟨c0, c1, c2, c3⟩ := BlkL.cs HI.out.out
      obtain ⟨z0, z1, z2, z3⟩ := BlkL.cs HI.out.res
      have zf := HI.out.res.frozen
      have HTk : Hid (subs.take k = subs) := List.take_of_length_le (by have := HM.out; omega)
      rw [HTk.out] at HO
      obtain ⟨qa, qb, qc, qd⟩ := o
      simp only at c0 c1 c2 c3
      go_wp2_with fail
      refine bodyPost_ret (v := plv ⟨qa, qb, qc, qd⟩) ?_ rfl ⟨⟨qa, qb, qc, qd⟩, ⟨2, ⟨some ⟨sb, 0, none⟩, M, M⟩, tk, xst, ak⟩, rfl, ?_, ?_, ?_⟩
      · simp [results, Tryd.results18]
        exact run_plv (BlkL.set4 HI.out.res qa qb qc qd)
      · intro j
        rw [HO.out j]
        simp only [goes_cat]
      · rw [set_id HAt.out]
        exact HI.out.st.set4 (by have := HBl.out; omega) (by have := HTop.out; omega) (by omega) _ _ _ _ _ _ _ _
      · exact HI.out.fr.set4 (Or.inl (by omega)) _ _ _ _ _ _ _ _
    obtain ⟨s, hs⟩ : ∃ s, subs[k]? = some s := ⟨_, List.getElem?_eq_getElem (by have := HM.out; omega)⟩
    obtain ⟨sb', R, r, a, m, e1, e2, e3, e4, e5, e6⟩ := HI.out.st.subs hs
    have e0 : sb = sb' := by
      have h := congrArg Sl.a e1
      simp at h
      exact h
    clear e1
    subst e0
    have HSs : Hid (St l s wr sb k R r a m) := e5
    have HBack : Hid (∀ w' r', (2 : Int) ≠ 4 → St l s w' sb k (R.set k r') r' a m → Fr a m sb wr w' → St l (.mk 2 set subs) w' b i rows ⟨2, ⟨some ⟨sb, 0, none⟩, M, M⟩, tk, xst, ak⟩ lo hi) := e6
    have HAt2 : Hid (∀ r : Pl, (∀ j, r.has j = true ↔ ∃ i, o.has i = true ∧ Goes l s i j) → ∀ j, r.has j = true ↔ ∃ i, N.has i = true ∧ GoesC l (subs.take (k + 1)) i j) := fun r hr => goesC_take hs HO.out hr
    have kE := fun (W : World) h => hE k s hs W sb k R r a m o h (fun n hn => by obtain ⟨i', _, h2⟩ := (HO.out n).1 hn; exact goesC_le h2)
    have hlt2 : (k : Int) < M := by omega
    clear e5 e6 hs
    obtain ⟨c0, c1, c2, c3⟩ := BlkL.cs HI.out.out
    obtain ⟨_, d1, _, _, _, _, _, _, _, _, _⟩ := part_cs HI.out.st.blk HI.out.st.at_
    simp only at d1
    go_wp2_with fail
    go_region_with
      (go_at_call 18; refine (kE _ (HSs.out.drewN 1)).mono ?_; rintro _ w4 ⟨r4, x4, rfl, hr4, s4, f4⟩; have HR4 : Hid (∀ j, r4.has j = true ↔ ∃ i, o.has i = true ∧ Goes l s i j) := hr4; have F4 : Hid (Fr a m sb wr w4) := (Fr.of_gr ((Gr.refl _).drewN 1)).trans f4; have I4 : Hid (EI l (.mk 2 set subs) b i rows lo hi w w.heap.size (w.heap.size + 1) w4 ⟨2, ⟨some ⟨sb, 0, none⟩, M, M⟩, tk, xst, ak⟩ o) := ⟨HBack.out w4 x4 (by omega) s4 F4.out, HI.out.fr.trans (F4.out.wide (by omega) (by omega) (Or.inr (by omega))), Blk.fr F4.out HI.out.res (by have := HTop.out; omega) (by have := HTop.out; omega), Blk.fr F4.out HI.out.out (by have := HTop.out; omega) (by have := HTop.out; omega)⟩; clear hr4 s4 f4; obtain ⟨g0, g1, g2, g3⟩ := BlkL.cs I4.out.out; have gf := I4.out.out.frozen)
    all_goals
      have I5 := I4.out.put HBl.out HTop.out (by omega) (Nat.le_refl _) r4.a r4.b r4.c r4.d
      have HO5 : Hid (∀ j, r4.has j = true ↔ ∃ i, N.has i = true ∧ GoesC l (subs.take (k + 1)) i j) := HAt2.out r4 HR4.out
      generalize hW6 : World.setCell _ _ _ = W6 at I5 ⊢
      have H6 : Hid (EI l (.mk 2 set subs) b i rows lo hi w w.heap.size (w.heap.size + 1) W6 ⟨2, ⟨some ⟨sb, 0, none⟩, M, M⟩, tk, xst, ak⟩ r4) := I5
      clear I5 hW6 c0 c1 c2 c3 d1 g0 g1 g2 g3 gf HI I4 HR4 F4
      go_wp2_with fail
      go_roundw
      case rel => exact ⟨k + 1, r4, by omega, by go_num, H6, HO5⟩
      case measure => simp [intOf]; omega

end Go.Proofs.YtihnmamejfoeeaaDoor
