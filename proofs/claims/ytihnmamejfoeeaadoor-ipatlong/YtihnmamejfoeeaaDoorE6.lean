/-
  The walk of ends, of an Alt; of any right pattern.
-/
import Derived.Test.YtihnmamejfoeeaaDoorE5
namespace Go.Proofs.YtihnmamejfoeeaaDoor
open Go.RowKit

theorem goesA_take {l : List Int} {subs : List Tree} {k : Nat} {s : Tree} (hs : subs[k]? = some s) {N o r : Pl} (ho : ∀ j, o.has j = true ↔ ∃ i n t, n < k ∧ subs[n]? = some t ∧ N.has i = true ∧ Goes l t i j) (hr : ∀ j, r.has j = true ↔ ∃ i, N.has i = true ∧ Goes l s i j) :
    ∀ j, (o.or r).has j = true ↔ ∃ i n t, n < k + 1 ∧ subs[n]? = some t ∧ N.has i = true ∧ Goes l t i j := by
  intro j
  rw [Pl.has_or]
  simp only [Bool.or_eq_true]
  rw [ho j, hr j]
  constructor
  · rintro (⟨i, n, t, h1, h2⟩ | ⟨i, h1, h2⟩)
    · exact ⟨i, n, t, by omega, h2⟩
    · exact ⟨i, k, s, by omega, hs, h1, h2⟩
  · rintro ⟨i, n, t, h1, h2, h3, h4⟩
    by_cases c : n < k
    · exact Or.inl ⟨i, n, t, c, h2, h3, h4⟩
    · have : n = k := by omega
      subst this
      rw [hs] at h2
      injection h2 with h2
      subst h2
      exact Or.inr ⟨i, h3, h4⟩

set_option maxRecDepth 100000 in
set_option maxHeartbeats 4000000 in
theorem ends_alt {l : List Int} {set : List (Int × Int)} {subs : List Tree} (hlen : subs.length ≤ 200) (hE : ∀ (n : Nat) (s : Tree), subs[n]? = some s → CE l s) : CE l (.mk 3 set subs) := by
  intro w b i rows x lo hi N hS hN
  have HBl : Hid (b < w.heap.size) := hS.lt
  have HTop : Hid (hi ≤ w.heap.size) := hS.top
  have HAt : Hid (rows[i]? = some x) := hS.at_
  have HS : Hid (St l (.mk 3 set subs) w b i rows x lo hi) := hS
  have HN : Hid (∀ n, N.has n = true → n ≤ l.length) := hN
  have kw := fun o q W => with_any o q W
  obtain ⟨h1, _, sb, _, _, _, h3, _⟩ := (PT_mk _ _ _ _ _ _ _ _).1 hS.pt
  obtain ⟨M, hM⟩ : ∃ M, M = subs.length := ⟨_, rfl⟩
  have HM : Hid (M = subs.length) := hM
  rw [← hM] at h3 hlen
  obtain ⟨xk, xsub, tk, xst, ak⟩ := x
  simp only at h1 h3
  subst h1 h3
  obtain ⟨c0, c1, _, _, _, _, _, _, _, _, _⟩ := part_cs hS.blk hS.at_
  simp only at c0 c1
  have bl := hS.lt
  have bl1 : b < w.heap.size + 1 := by omega
  have bl2 : b < w.heap.size + 1 + 1 := by omega
  clear hS hN hM
  go_enter Tryd.func18, Tryd.ntmps18
  go_wp2_with fail
  generalize hW : World.alloc _ _ = W
  have g0 : Gr w W := by
    rw [← hW]
    exact (((Gr.refl _).alloc _).alloc _).alloc _
  have h1 : AG l (.mk 3 set subs) b i rows lo hi w (w.heap.size + 1) (w.heap.size + 1 + 1) w.heap.size W ⟨3, ⟨some ⟨sb, 0, none⟩, M, M⟩, tk, xst, ak⟩ .zero N := by
    refine ⟨by rw [set_id HAt.out]; exact HS.out.gr g0, .of_gr g0, ?_, ?_, ?_⟩
    · rw [← hW]; exact (Blk.new' _ _ _ _ (by simp)).alloc _
    · rw [← hW]; exact Blk.new' _ _ _ _ (by simp)
    · rw [← hW]; exact ((Blk.new _ _ _).alloc _).alloc _
  have HI : Hid (AG l (.mk 3 set subs) b i rows lo hi w (w.heap.size + 1) (w.heap.size + 1 + 1) w.heap.size W ⟨3, ⟨some ⟨sb, 0, none⟩, M, M⟩, tk, xst, ak⟩ .zero N) := h1
  clear hW g0 h1 c0 c1 bl bl1 bl2 HS
  go_loopw [48] (fun vi wr => ∃ (k : Nat) (o : Pl), k ≤ M ∧ vi = .int .i64 k ∧ Hid (AG l (.mk 3 set subs) b i rows lo hi w (w.heap.size + 1) (w.heap.size + 1 + 1) w.heap.size wr ⟨3, ⟨some ⟨sb, 0, none⟩, M, M⟩, tk, xst, ak⟩ o N) ∧ Hid (∀ j, o.has j = true ↔ ∃ i n t, n < k ∧ subs[n]? = some t ∧ N.has i = true ∧ Goes l t i j)) (fun vi _ => M - (intOf vi).toNat)
  case atStart =>
    refine ⟨0, .zero, Nat.zero_le _, rfl, HI, fun j => ?_⟩
    rw [Pl.has_zero]
    simp
  case round =>
    clear HI
    obtain ⟨k, o, hk, rfl, HI, HO⟩ := hrel
    by_cases hlt : k < M
    case neg =>
      obtain ⟨c0, c1, c2, c3⟩ := BlkL.cs HI.out.out
      obtain ⟨z0, z1, z2, z3⟩ := BlkL.cs HI.out.res
      have zf := HI.out.res.frozen
      have hkM : M ≤ k := by omega
      obtain ⟨qa, qb, qc, qd⟩ := o
      simp only at c0 c1 c2 c3
      go_wp2_with fail
      refine bodyPost_ret (v := plv ⟨qa, qb, qc, qd⟩) ?_ rfl ⟨⟨qa, qb, qc, qd⟩, ⟨3, ⟨some ⟨sb, 0, none⟩, M, M⟩, tk, xst, ak⟩, rfl, ?_, ?_, ?_⟩
      · simp [results, Tryd.results18]
        exact run_plv (BlkL.set4 HI.out.res qa qb qc qd)
      · intro j
        rw [HO.out j]
        constructor
        · rintro ⟨i, n, t, _, h2, h3, h4⟩
          exact ⟨i, h3, (goes_alt _ _ _ _ _).2 ⟨n, t, h2, h4⟩⟩
        · rintro ⟨i, h3, h4⟩
          obtain ⟨n, t, h5, h6⟩ := (goes_alt _ _ _ _ _).1 h4
          have := (List.getElem?_eq_some_iff.1 h5).1
          exact ⟨i, n, t, by have := HM.out; omega, h5, h3, h6⟩
      · exact HI.out.st.set4 (by have := HBl.out; omega) (by have := HTop.out; omega) (by omega) _ _ _ _ _ _ _ _
      · exact HI.out.fr.set4 (Or.inl (by omega)) _ _ _ _ _ _ _ _
    obtain ⟨s, hs⟩ : ∃ s, subs[k]? = some s := ⟨_, List.getElem?_eq_getElem (by have := HM.out; omega)⟩
    have hst := HI.out.st
    rw [set_id HAt.out] at hst
    obtain ⟨sb', R, r, a, m, e1, e2, e3, e4, e5, e6⟩ := hst.subs hs
    have e0 : sb = sb' := by
      have h := congrArg Sl.a e1
      simp at h
      exact h
    clear e1 hst
    subst e0
    have HSs : Hid (St l s wr sb k R r a m) := e5
    have HBack : Hid (∀ w' r', (3 : Int) ≠ 4 → St l s w' sb k (R.set k r') r' a m → Fr a m sb wr w' → St l (.mk 3 set subs) w' b i rows ⟨3, ⟨some ⟨sb, 0, none⟩, M, M⟩, tk, xst, ak⟩ lo hi) := e6
    have HAt2 : Hid (∀ r : Pl, (∀ j, r.has j = true ↔ ∃ i, N.has i = true ∧ Goes l s i j) → ∀ j, (o.or r).has j = true ↔ ∃ i n t, n < k + 1 ∧ subs[n]? = some t ∧ N.has i = true ∧ Goes l t i j) := fun r hr => goesA_take hs HO.out hr
    have kE := fun (W : World) h => hE k s hs W sb k R r a m N h HN.out
    have hlt2 : (k : Int) < M := by omega
    clear e5 e6 hs
    obtain ⟨c0, c1, c2, c3⟩ := BlkL.cs HI.out.out
    obtain ⟨f0, f1, f2, f3⟩ := BlkL.cs HI.out.fresh
    obtain ⟨_, d1, _, _, _, _, _, _, _, _, _⟩ := part_cs HI.out.st.blk HI.out.st.at_
    simp only at d1
    go_wp2_with fail
    go_region_with
      (first
        | (go_at_call 18; refine (kE _ (HSs.out.drewN 1)).mono ?_; rintro _ w4 ⟨r4, x4, rfl, hr4, s4, f4⟩; have HR4 : Hid (∀ j, r4.has j = true ↔ ∃ i, N.has i = true ∧ Goes l s i j) := hr4; have F4 : Hid (Fr a m sb wr w4) := (Fr.of_gr ((Gr.refl _).drewN 1)).trans f4; have I4 : Hid (AG l (.mk 3 set subs) b i rows lo hi w (w.heap.size + 1) (w.heap.size + 1 + 1) w.heap.size w4 ⟨3, ⟨some ⟨sb, 0, none⟩, M, M⟩, tk, xst, ak⟩ o N) := ⟨(by rw [set_id HAt.out]; exact HBack.out w4 x4 (by omega) s4 F4.out), HI.out.fr.trans (F4.out.wide (by omega) (by omega) (Or.inr (by omega))), Blk.fr F4.out HI.out.res (by have := HTop.out; omega) (by have := HTop.out; omega), Blk.fr F4.out HI.out.out (by have := HTop.out; omega) (by have := HTop.out; omega), Blk.fr F4.out HI.out.fresh (by have := HTop.out; omega) (by have := HTop.out; omega)⟩; clear hr4 s4 f4; obtain ⟨g0, g1, g2, g3⟩ := BlkL.cs I4.out.out)
        | (go_at_call 34; refine (kw o r4 _).mono ?_; rintro _ w5 ⟨rfl, gw⟩; have I5 : Hid (AG l (.mk 3 set subs) b i rows lo hi w (w.heap.size + 1) (w.heap.size + 1 + 1) w.heap.size w5 ⟨3, ⟨some ⟨sb, 0, none⟩, M, M⟩, tk, xst, ak⟩ o N) := I4.out.gr gw; clear gw; obtain ⟨y0, y1, y2, y3⟩ := BlkL.cs I5.out.out; have yf := I5.out.out.frozen))
    all_goals
      have I6 := I5.out.put5 HBl.out HTop.out (by omega) (by omega) (by omega) (o.or r4).a (o.or r4).b (o.or r4).c (o.or r4).d
      have HO6 : Hid (∀ j, (o.or r4).has j = true ↔ ∃ i n t, n < k + 1 ∧ subs[n]? = some t ∧ N.has i = true ∧ Goes l t i j) := HAt2.out r4 HR4.out
      generalize hW6 : World.setCell _ _ _ = W6 at I6 ⊢
      have H6 : Hid (AG l (.mk 3 set subs) b i rows lo hi w (w.heap.size + 1) (w.heap.size + 1 + 1) w.heap.size W6 ⟨3, ⟨some ⟨sb, 0, none⟩, M, M⟩, tk, xst, ak⟩ (o.or r4) N) := I6
      clear I6 hW6 c0 c1 c2 c3 d1 f0 f1 f2 f3 g0 g1 g2 g3 y0 y1 y2 y3 yf HI I4 I5 HR4 F4
      go_wp2_with fail
      go_roundw
      case rel => exact ⟨k + 1, o.or r4, by omega, by go_num, H6, HO6⟩
      case measure => simp [intOf]; omega

/-- Of any right pattern. -/
theorem ends_all {l : List Int} (hl : l.length ≤ 255) (n : Nat) : ∀ t : Tree, size t ≤ n → size t ≤ 200 → kindsT t = true → CE l t := by
  induction n with
  | zero => intro t h; have := size_pos t; omega
  | succ n ih =>
    intro t h1 h2 h3
    obtain ⟨k, set, subs⟩ := t
    rw [size_mk] at h1 h2
    rw [kindsT_mk] at h3
    simp only [Bool.and_eq_true] at h3
    have hlen := length_le_sizeL subs
    have hE : ∀ (n : Nat) (s : Tree), subs[n]? = some s → CE l s := fun m s hs => ih s (by have := size_le_of_at hs; omega) (by have := size_le_of_at hs; omega) (kindsT_of_at h3.2 hs)
    rcases okAlone_cases h3.1 with ⟨rfl, _⟩ | ⟨rfl, _⟩ | ⟨rfl, _⟩ | ⟨rfl, _, h4⟩
    · exact ends_one hl
    · exact ends_cat (by omega) hE
    · exact ends_alt (by omega) hE
    · obtain ⟨s, rfl⟩ := List.length_eq_one_iff.1 h4
      exact ends_star hl (hE 0 s rfl)

end Go.Proofs.YtihnmamejfoeeaaDoor
