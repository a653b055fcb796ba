/-
  A set's numbers, one after the other: the walk of All and of its iterator; a loop over them whose body is never left.
-/
import Derived.RangeFuncNested
import Derived.RangeFuncBound
import Derived.RangeFuncCalls
import Derived.RangeFuncLeaves
import Derived.Shelf.Abstract
import Derived.Shelf.RegionOpen
import Derived.OwnWalkIn
import Derived.TacticsInMore
import Derived.LoopNIn
import Derived.LoopIn
import Derived.Test.YtjjlkjfhhpogaaaDoorPa2
namespace Go.Proofs.YtjjlkjfhhpogaaaDoor
open Go.RowKit Go.Shelf
attribute [local go_sem] Oper.semAt_some

theorem all_any (p : Pl) (w : World) : Calls Tryd.prog 61 #[plv p] w fun e w' => e = .returned (.func (.func 82) #[] #[.pointer (some ⟨w.heap.size, 0, none⟩)]) ∧ w' = w.alloc (.cells (plc p) 67) := by
  go_enter Tryd.func61, Tryd.ntmps61
  go_wp2_with fail
  go_ret
  exact ⟨rfl, rfl⟩

/-- What has been given so far: of the first k words all, of the next one what is no longer in y. -/
def Given (p : Pl) (k : Nat) (y : BitVec 64) (pre : List Nat) : Prop :=
  pre.Nodup ∧ (∀ q, y.getLsbD q = true → (p.word k).getLsbD q = true) ∧ ∀ n, n ∈ pre ↔ p.has n = true ∧ (n < 64 * k ∨ (n / 64 = k ∧ y.getLsbD (n % 64) = false))
def GivenW (p : Pl) (k : Nat) (pre : List Nat) : Prop := pre.Nodup ∧ ∀ n, n ∈ pre ↔ p.has n = true ∧ n < 64 * k

theorem GivenW.begin {p : Pl} {k : Nat} {pre : List Nat} (h : GivenW p k pre) : Given p k (p.word k) pre := by
  refine ⟨h.1, fun _ h => h, fun n => (h.2 n).trans ⟨fun ⟨h1, h2⟩ => ⟨h1, Or.inl h2⟩, ?_⟩⟩
  rintro ⟨h1, h2 | ⟨h2, h3⟩⟩
  · exact ⟨h1, h2⟩
  · unfold Pl.has at h1
    rw [h2, h3] at h1
    cases h1
theorem Given.end_ {p : Pl} {k : Nat} {pre : List Nat} (h : Given p k 0 pre) : GivenW p (k + 1) pre := by
  refine ⟨h.1, fun n => (h.2.2 n).trans ⟨?_, ?_⟩⟩
  · rintro ⟨h1, h2 | ⟨h2, _⟩⟩
    · exact ⟨h1, by omega⟩
    · exact ⟨h1, by omega⟩
  · rintro ⟨h1, h2⟩
    refine ⟨h1, ?_⟩
    by_cases c : n < 64 * k
    · exact Or.inl c
    · exact Or.inr ⟨by omega, by simp⟩
theorem Given.has {p : Pl} {k q : Nat} {y : BitVec 64} {pre : List Nat} (h : Given p k y pre) (hq : q < 64) (h1 : y.getLsbD q = true) : p.has (k * 64 + q) = true := by
  unfold Pl.has
  rw [show (k * 64 + q) / 64 = k by omega, show (k * 64 + q) % 64 = q by omega]
  exact h.2.1 q h1
theorem Given.fresh {p : Pl} {k q : Nat} {y : BitVec 64} {pre : List Nat} (h : Given p k y pre) (hq : q < 64) (h1 : y.getLsbD q = true) : k * 64 + q ∉ pre := by
  intro hm
  rcases ((h.2.2 _).1 hm).2 with c | ⟨_, c⟩
  · omega
  · rw [show (k * 64 + q) % 64 = q by omega, h1] at c
    cases c
theorem Given.next {p : Pl} {k q : Nat} {y : BitVec 64} {pre : List Nat} (h : Given p k y pre) (hq : q < 64) (h1 : y.getLsbD q = true) (h2 : ∀ j, (y &&& (y - 1)).getLsbD j = (y.getLsbD j && decide (j ≠ q))) :
    Given p k (y &&& (y - 1)) (pre ++ [k * 64 + q]) := by
  refine ⟨?_, fun j hj => h.2.1 j (by rw [h2] at hj; simp at hj; exact hj.1), fun n => ?_⟩
  · rw [List.nodup_append]
    refine ⟨h.1, by simp, fun a ha b hb e => ?_⟩
    simp at hb
    subst hb
    subst e
    exact h.fresh hq h1 ha
  · rw [List.mem_append, h.2.2 n]
    simp only [List.mem_singleton]
    constructor
    · rintro (⟨h3, h4 | ⟨h4, h5⟩⟩ | rfl)
      · exact ⟨h3, Or.inl h4⟩
      · exact ⟨h3, Or.inr ⟨h4, by rw [h2, h5]; rfl⟩⟩
      · exact ⟨h.has hq h1, Or.inr ⟨by omega, by rw [h2, show (k * 64 + q) % 64 = q by omega]; simp⟩⟩
    · rintro ⟨h3, h4 | ⟨h4, h5⟩⟩
      · exact Or.inl ⟨h3, Or.inl h4⟩
      · by_cases c : y.getLsbD (n % 64) = false
        · exact Or.inl ⟨h3, Or.inr ⟨h4, c⟩⟩
        · right
          rw [h2] at h5
          simp at c
          rw [c] at h5
          simp at h5
          omega

set_option maxRecDepth 100000 in
set_option maxHeartbeats 4000000 in
/-- The iterator gives each number of the set once; it turns nothing itself. -/
theorem all_gives (p : Pl) (m l B : Nat) (J : List Nat → World → Prop) (hT : ∀ pre W, J pre W → Tab W)
    (hY : ∀ pre n W, J pre W → p.has n = true → YieldAt Fence.wide (m - 1) Tryd.prog l #[.int .i64 n] W fun e W' => e = .returned (.bool true) ∧ J (pre ++ [n]) W')
    (W : World) (hB : Blk W B (plc p) 67) (h0 : J [] W) :
    CallsIn Fence.wide m Tryd.prog 82 #[.func (.yield l) #[] #[], .pointer (some ⟨B, 0, none⟩)] W fun e W' => (∃ v, e = .returned v) ∧ ∃ xs, (∀ n, n ∈ xs ↔ p.has n = true) ∧ xs.Nodup ∧ J xs W' := by
  refine callsIn_of_wp Tryd.func82 rfl trivial ?_ rfl
  simp only [Tryd.ntmps82, List.size_toArray, List.length_cons, List.length_nil, Nat.reduceAdd, Nat.reduceSub, Array.replicate_succ, Array.replicate_zero, List.push_toArray, List.append_toArray, List.nil_append, List.cons_append]
  obtain ⟨c0, c1, c2, c3⟩ := BlkL.cs hB
  gi_wp2
  have HG : Hid (GivenW p 0 []) := ⟨List.nodup_nil, fun n => by simp⟩
  clear c0 c1 c2 c3
  gi_loopw [6] (fun vi wr => ∃ (k : Nat) (pre : List Nat), k ≤ 4 ∧ vi = .int .i64 k ∧ J pre wr ∧ Hid (GivenW p k pre)) (fun vi _ => 4 - (intOf vi).toNat)
  case atStart => exact ⟨0, [], by omega, rfl, h0, HG⟩
  case round =>
    clear HG h0 hB
    obtain ⟨k, pre, hk, rfl, hJ, HG⟩ := hrel
    by_cases hlt : k < 4
    case neg =>
      gi_wp2
      go_end0
      have e : k = 4 := by omega
      subst e
      refine ⟨⟨_, rfl⟩, pre, fun n => (HG.out.2 n).trans ⟨fun h => h.1, fun h => ⟨h, ?_⟩⟩, HG.out.1, hJ⟩
      apply Classical.byContradiction
      intro c
      rw [Pl.has_big p (by omega)] at h
      cases h
    have ix := fun W => index50 p k hlt W
    have HA2 : Hid (Given p k (p.word k) pre) := HG.out.begin
    have kk : (k : Int) < 4 := by omega
    clear HG
    generalize hy : p.word k = y0 at ix HA2
    clear hy
    gi_wp2
    gi_loopw [4] (fun vw wv => ∃ (y : BitVec 64) (pre : List Nat), vw = .int .u64 (u y) ∧ J pre wv ∧ Hid (Given p k y pre)) (fun vw _ => (intOf vw).toNat)
    case atStart => exact ⟨y0, pre, rfl, hJ, HA2⟩
    case round =>
      clear HA2 ix hJ pre
      obtain ⟨y, pre, rfl, hJ, HA⟩ := hrel
      by_cases hy : y = 0
      case pos =>
        subst hy
        have HA2 : Hid (GivenW p (k + 1) pre) := HA.out.end_
        have u0 : u (0#64) = 0 := rfl
        clear HA
        gi_wp2
        go_roundw
        case rel => exact ⟨k + 1, pre, by omega, by go_num, hJ, HA2⟩
        case measure => simp [intOf]; omega
      have hy1 : (u y == 0) = false := by
        simp
        intro e
        exact hy (u_inj (e.trans u_zero.symm))
      have hy2 : (u y != 0) = true := by rw [bne, hy1]; rfl
      obtain ⟨q, hq1, hq2, _, hq3⟩ := lowest y hy
      have HQ2 : Hid (y.getLsbD q = true) := hq2
      have HQ3 : Hid (∀ j, (y &&& (y - 1)).getLsbD j = (y.getLsbD j && decide (j ≠ q))) := hq3
      have kt : Calls Tryd.prog 83 #[.int .u64 (u y)] wr fun e w' => e = .returned (.int .i64 q) ∧ w' = wr := (tz_any y hy wr (hT _ _ hJ)).mono fun e w' h => by
        obtain ⟨⟨k', rfl, h1, h2, h3⟩, rfl⟩ := h
        have a := hq3 k'
        rw [h3 k', h2] at a
        simp at a
        rw [a]
        exact ⟨rfl, rfl⟩
      have HP : Hid (p.has (k * 64 + q) = true) := HA.out.has hq1 hq2
      have HG2 : Hid (Given p k (y &&& (y - 1)) (pre ++ [k * 64 + q])) := HA.out.next hq1 hq2 hq3
      have uS : IntKind.u64.wrap (u y - 1) = u (y - 1) := u_sub1 y hy
      have uA := u_and y (y - 1)
      have HL : Hid ((y &&& (y - 1)).toNat < y.toNat) := less_and y hy
      have hmul : IntKind.i64.wrap ((k : Int) * 64) = (k : Int) * 64 := by rw [IntKind.wrap_i64]; omega
      have hadd : IntKind.i64.wrap ((k : Int) * 64 + (q : Int)) = (k : Int) * 64 + (q : Int) := by rw [IntKind.wrap_i64]; omega
      obtain ⟨fn, tmps, assign, body, hyy, hR⟩ := hY pre (k * 64 + q) wr hJ HP.out
      rw [show ((k * 64 + q : Nat) : Int) = (k : Int) * 64 + (q : Int) by omega] at hyy
      clear hq2 hq3 HA
      gi_wp2_with (refine ⟨trivial, fun h => (by cases h), ?_⟩; gi_at_call 83; refine (callsIn_wide.2 kt).mono ?_; rintro _ w3 ⟨rfl, rfl⟩)
      refine ⟨fun h => (by cases h), hR.mono ?_⟩
      rintro e W3 ⟨rfl, hJ3⟩
      gi_wp2
      go_roundw
      case rel => exact ⟨y &&& (y - 1), pre ++ [k * 64 + q], congrArg (Value.int .u64) (u_and y (y - 1)), hJ3, HG2⟩
      case measure =>
        have h := HL.out
        show (bits .and .u64 (u y) (u (y - 1))).toNat < (u y).toNat
        rw [u_and]
        show ((y &&& (y - 1)).toNat : Int).toNat < (y.toNat : Int).toNat
        omega

/-- A loop over a set's numbers whose body is never left: what holds between two rounds is kept by new blocks and by turns of blocks that the loop has laid. -/
theorem range_bits (p : Pl) {n : Nat} {g : Operand} {ps : Array Tmp} {assign body : Code} {Q : Exit → Act → World → Prop} {a : Act} {w : World} {B : Nat} (hB : Blk w B (plc p) 67)
    (hg : a.eval g = .func (.func 82) #[] #[.pointer (some ⟨B, 0, none⟩)]) (hps : ps.size = 1) (I : List Nat → World → Prop) (hT : ∀ pre W, I pre W → Tab W)
    (hIa : ∀ pre W o, I pre W → I pre (W.alloc o)) (hIp : ∀ pre W l o, w.heap.size ≤ l → I pre W → I pre (W.putObj l o)) (h0 : I [] w) (a₁ : Nat → Act)
    (hassign : ∀ (l k : Nat) (W : World) (K : Act → World → Prop), K (a₁ k) W →
      assign.wpIn (Fence.wide.inRound l) (n - 1 - 1) Tryd.prog (Exit.then K (fun _ _ _ => False)) { tmps := (ps.zip #[Value.int .i64 k]).foldl (fun t (p, v) => t.setIfInBounds p v) a.tmps, defers := [] } W)
    (hbody : ∀ (l : Nat) (pre : List Nat) (k : Nat) (W : World), I pre W → p.has k = true → body.wpIn (Fence.wide.inRound l) (n - 1 - 1) Tryd.prog (fun e _ W' => e = .normal ∧ KeepsFrom w.heap.size W W' ∧ I (pre ++ [k]) W') (a₁ k) W)
    (hdone : ∀ (D : Nat) (xs : List Nat) (W : World), w.heap.size ≤ D → (∀ n, n ∈ xs ↔ p.has n = true) → xs.Nodup → I xs W → W.heap[D]? = some (.deferred (some [])) → Q .normal { a with defers := { target := .collected D, args := #[] } :: a.defers } W) :
    (Code.rangeFunc g ps assign body).wpIn Fence.wide n Tryd.prog Q a w := by
  refine wpIn_rangeFunc fun fn hfn => ?_
  obtain ⟨S, hS⟩ : ∃ S, S = w.heap.size := ⟨_, rfl⟩
  obtain ⟨rec, hrec⟩ : ∃ rec : LoopState → Loop, rec = fun st => { state := st, pending := none, fn, tmps := a.tmps, params := ps, assign, body, defers := S } := ⟨_, rfl⟩
  have hrp : ∀ st, (rec st).params = ps := fun st => by rw [hrec]
  obtain ⟨W1, hW1⟩ : ∃ W1, W1 = (w.alloc (.deferred (some []))).alloc (.loop (rec .ready)) := ⟨_, rfl⟩
  have hs1 : (w.alloc (.deferred (some []))).heap.size = S + 1 := by rw [hS]; simp
  have hL1 : W1.heap[S + 1]? = some (.loop (rec .ready)) := by
    have := World.alloc_heap_new (w.alloc (.deferred (some []))) (.loop (rec .ready))
    rw [hs1, ← hW1] at this
    exact this
  have hK1 : W1.heap[S]? = some (.deferred (some [])) := by
    have := World.alloc_heap_new w (.deferred (some []))
    rw [← hS] at this
    rw [hW1]
    exact (Below.heap_alloc _ _ _ (by rw [hs1]; omega)).trans this
  have hI1 : I [] W1 := by rw [hW1]; exact hIa _ _ _ (hIa _ _ _ h0)
  have hB1 : Blk W1 B (plc p) 67 := by rw [hW1]; exact (hB.alloc _).alloc _
  refine ⟨S + 1, [{ target := .collected S, args := #[] }], W1, { target := .fn (.func 82) #[.pointer (some ⟨B, 0, none⟩)], args := #[.func (.yield (S + 1)) #[] #[]] }, W1, 82,
    #[.func (.yield (S + 1)) #[] #[]] ++ #[.pointer (some ⟨B, 0, none⟩)], W1, ?_, ?_, ?_, ?_, fun h => (by cases h), ?_⟩
  · rw [hW1, hrec, hS]; exact run_enterLoop_outer _ _ _ _ _
  · simp only [resolve, hg]
    simp [go_sem]
  · intro f' _; exact trivial
  · have eg : ∀ args w, (callFunc 82 args).run Tryd.prog w = .ok (.enter 82 args) w := enters_of Tryd.func82 (by kernel_rfl) rfl
    simp [invoke, go_sem, eg]
  · refine (all_gives p (n - 1) (S + 1) B (fun pre W => I pre W ∧ W.heap[S + 1]? = some (.loop (rec .ready)) ∧ W.heap[S]? = some (.deferred (some []))) (fun pre W h => hT _ _ h.1) ?_ W1 hB1 ⟨hI1, hL1, hK1⟩).mono ?_
    · rintro pre k W ⟨hi, hl, hk⟩ hh
      have hlt : S + 1 < W.heap.size := (Array.getElem?_eq_some_iff.1 hl).1
      have hy := run_yield (P := Tryd.prog) (args := #[Value.int .i64 k]) hl (by rw [hrp, hps]; rfl)
      rw [hrec] at hy
      obtain ⟨W2, hW2⟩ : ∃ W2, W2 = W.putObj (S + 1) (.loop (rec .busy)) := ⟨_, rfl⟩
      have hb : (Instr.beginRound (S + 1)).run Tryd.prog W = .ok () W2 := by
        rw [hW2]
        have := run_beginRound (P := Tryd.prog) hl (by rw [hrec])
        rw [hrec] at this ⊢
        exact this
      have hl2 : W2.heap[S + 1]? = some (.loop (rec .busy)) := by rw [hW2]; exact World.putObj_heap_same hlt
      have hk2 : W2.heap[S]? = some (.deferred (some [])) := by rw [hW2]; exact (World.putObj_heap_other (by omega)).trans hk
      have hi2 : I pre W2 := by rw [hW2]; exact hIp _ _ _ _ (by omega) hi
      refine ⟨fn, _, assign, body, hy, roundIn_of_wpIn trivial (hassign _ k W _ ⟨W2, hb, ?_⟩)⟩
      refine wpIn_mono (hbody _ pre k W2 hi2 hh) ?_
      rintro e a3 W3 ⟨rfl, hk3, hi3⟩
      have hl3 := hk3.same _ _ (by omega) hl2 rfl
      have hd3 := hk3.same _ _ (by omega) hk2 rfl
      have hr := run_endRound (P := Tryd.prog) none hl3
      rw [hrec] at hr
      refine ⟨_, _, hr, rfl, hIp _ _ _ _ (by omega) hi3, ?_, (World.putObj_heap_other (by omega)).trans hd3⟩
      rw [World.putObj_heap_same (Array.getElem?_eq_some_iff.1 hl3).1, hrec]
      rfl
    · rintro e W2 ⟨⟨v, rfl⟩, xs, hx, hn, hi, hl, hk⟩
      have he := run_endLoop (P := Tryd.prog) hl (by rw [hrec]; simp)
      rw [hrec] at he
      refine ⟨none, _, he, hdone S xs _ (by omega) hx hn (hIp _ _ _ _ (by omega) hi) ((World.putObj_heap_other (by omega)).trans hk)⟩

end Go.Proofs.YtjjlkjfhhpogaaaDoor
