/-
  The walk of step.
-/
import Derived.Test.YtnohkbdmnalmcaaGreatDoorE1
namespace Go.Proofs.YtnohkbdmnalmcaaGreatDoor
open Go.RowKit

/-- The state between two rounds. -/
structure SI (l : List Int) (t : Tree) (b i : Nat) (rows : List PV) (lo hi : Nat) (w wr : World) (x : PV) (o : Pl) : Prop where
  st : St l t wr b i (rows.set i x) x lo hi
  fr : Fr lo hi b w wr
  res : BlkL wr (w.heap.size + 1) .zero
  out : BlkL wr (w.heap.size + 1 + 1) o

theorem SI.gr {l : List Int} {t : Tree} {b i : Nat} {rows : List PV} {lo hi : Nat} {w wr w' : World} {x : PV} {o : Pl} (h : SI l t b i rows lo hi w wr x o) (k : Gr wr w') : SI l t b i rows lo hi w w' x o :=
  ⟨h.st.gr k, h.fr.gr k, h.res.gr k, h.out.gr k⟩
theorem SI.put {l : List Int} {t : Tree} {b i : Nat} {rows : List PV} {lo hi : Nat} {w wr : World} {x : PV} {o : Pl} (h : SI l t b i rows lo hi w wr x o) (hb : b < w.heap.size) (ht : hi ≤ w.heap.size) (qa qb qc qd : BitVec 64) :
    SI l t b i rows lo hi w ((((wr.setCell ⟨w.heap.size + 1 + 1, 0, none⟩ (.int .u64 (u qa))).setCell ⟨w.heap.size + 1 + 1, 1, none⟩ (.int .u64 (u qb))).setCell ⟨w.heap.size + 1 + 1, 2, none⟩ (.int .u64 (u qc))).setCell ⟨w.heap.size + 1 + 1, 3, none⟩ (.int .u64 (u qd))) x ⟨qa, qb, qc, qd⟩ :=
  ⟨h.st.set4 (by omega) (by omega) (by omega) _ _ _ _ _ _ _ _, h.fr.set4 (Or.inl (by omega)) _ _ _ _ _ _ _ _, Blk.other4 h.res (by omega) _ _ _ _ _ _ _ _, BlkL.set4 h.out qa qb qc qd⟩

/-- What has been asked so far. -/
def Asked (l : List Int) (s : Tree) (N : Pl) (k : Nat) (y : BitVec 64) (o : Pl) : Prop := (∀ q, y.getLsbD q = true → (N.word k).getLsbD q = true) ∧ ∀ j, o.has j = true ↔ ∃ n, (n < 64 * k ∨ (n / 64 = k ∧ y.getLsbD (n % 64) = false)) ∧ N.has n = true ∧ Goes l s n j
def AskedW (l : List Int) (s : Tree) (N : Pl) (k : Nat) (o : Pl) : Prop := ∀ j, o.has j = true ↔ ∃ n, n < 64 * k ∧ N.has n = true ∧ Goes l s n j

theorem AskedW.begin {l : List Int} {s : Tree} {N : Pl} {k : Nat} {o : Pl} (h : AskedW l s N k o) : Asked l s N k (N.word k) o := by
  refine ⟨fun _ h => h, fun j => (h j).trans ⟨?_, ?_⟩⟩
  · rintro ⟨n, h1, h2⟩; exact ⟨n, Or.inl h1, h2⟩
  · rintro ⟨n, h1 | ⟨h1, h2⟩, h3, h4⟩
    · exact ⟨n, h1, h3, h4⟩
    · unfold Pl.has at h3
      rw [h1, h2] at h3
      cases h3
theorem Asked.end_ {l : List Int} {s : Tree} {N : Pl} {k : Nat} {o : Pl} (h : Asked l s N k 0 o) : AskedW l s N (k + 1) o := by
  intro j
  refine (h.2 j).trans ⟨?_, ?_⟩
  · rintro ⟨n, h1 | ⟨h1, _⟩, h3⟩
    · exact ⟨n, by omega, h3⟩
    · exact ⟨n, by omega, h3⟩
  · rintro ⟨n, h1, h3⟩
    by_cases c : n < 64 * k
    · exact ⟨n, Or.inl c, h3⟩
    · exact ⟨n, Or.inr ⟨by omega, by simp⟩, h3⟩
theorem Asked.next {l : List Int} {s : Tree} {N : Pl} {k q : Nat} {y : BitVec 64} {o r : Pl} (h : Asked l s N k y o) (hq : q < 64) (h1 : y.getLsbD q = true) (h2 : ∀ j, (y &&& (y - 1)).getLsbD j = (y.getLsbD j && decide (j ≠ q))) (hr : ∀ j, r.has j = true ↔ Goes l s (k * 64 + q) j) :
    Asked l s N k (y &&& (y - 1)) (o.or r) := by
  refine ⟨fun j hj => h.1 j (by rw [h2] at hj; simp at hj; exact hj.1), fun j => ?_⟩
  rw [Pl.has_or]
  simp only [Bool.or_eq_true]
  rw [h.2 j, hr j]
  have hN : N.has (k * 64 + q) = true := by
    unfold Pl.has
    rw [show (k * 64 + q) / 64 = k by omega, show (k * 64 + q) % 64 = q by omega]
    exact h.1 q h1
  constructor
  · rintro (⟨n, h3 | ⟨h3, h4⟩, h5, h6⟩ | h3)
    · exact ⟨n, Or.inl h3, h5, h6⟩
    · exact ⟨n, Or.inr ⟨h3, by rw [h2, h4]; rfl⟩, h5, h6⟩
    · exact ⟨k * 64 + q, Or.inr ⟨by omega, by rw [h2, show (k * 64 + q) % 64 = q by omega]; simp⟩, hN, h3⟩
  · rintro ⟨n, h3 | ⟨h3, h4⟩, h5, h6⟩
    · exact Or.inl ⟨n, Or.inl h3, h5, h6⟩
    · by_cases c : y.getLsbD (n % 64) = false
      · exact Or.inl ⟨n, Or.inr ⟨h3, c⟩, h5, h6⟩
      · right
        rw [h2] at h4
        simp at c
        rw [c] at h4
        simp at h4
        have : n = k * 64 + q := by omega
        rw [← this]
        exact h6

theorem Asked.has {l : List Int} {s : Tree} {N : Pl} {k q : Nat} {y : BitVec 64} {o : Pl} (h : Asked l s N k y o) (hq : q < 64) (h1 : y.getLsbD q = true) : N.has (k * 64 + q) = true := by
  unfold Pl.has
  rw [show (k * 64 + q) / 64 = k by omega, show (k * 64 + q) % 64 = q by omega]
  exact h.1 q h1

set_option maxRecDepth 100000 in
set_option maxHeartbeats 4000000 in
theorem step_any {l : List Int} (hl : l.length ≤ 255) {set : List (Int × Int)} {s : Tree} (hE : CE l s) (w : World) (b i : Nat) (rows : List PV) (x : PV) (lo hi : Nat) (N : Pl) (hS : St l (.mk 4 set [s]) w b i rows x lo hi) (hN : ∀ n, N.has n = true → n ≤ l.length) :
    Calls Tryz.prog 76 #[.pointer (some ⟨b, i * 11, none⟩), plv N] w fun e w' => PostG l (.mk 4 set [s]) (fun j => ∃ n, N.has n = true ∧ Goes l s n j) b i rows lo hi w e w' := by
  have ks := fun (W : World) (R : List PV) (x : PV) (n : Nat) h hn => stepAt_any (set := set) hl hE W b i R x lo hi n h hn
  have HBl : Hid (b < w.heap.size) := hS.lt
  have HTop : Hid (hi ≤ w.heap.size) := hS.top
  have HAt : Hid (rows[i]? = some x) := hS.at_
  have HN : Hid (∀ n, N.has n = true → n ≤ l.length) := hN
  have HS : Hid (St l (.mk 4 set [s]) w b i rows x lo hi) := hS
  clear hS hE hN
  go_enter Tryz.func76, Tryz.ntmps76
  go_wp2_with fail
  generalize hW : World.alloc _ _ = W
  have g0 : Gr w W := by
    rw [← hW]
    exact (((Gr.refl _).alloc _).alloc _).alloc _
  have h1 : SI l (.mk 4 set [s]) b i rows lo hi w W x .zero := by
    refine ⟨by rw [set_id HAt.out]; exact HS.out.gr g0, .of_gr g0, ?_, ?_⟩
    · rw [← hW]; exact (Blk.new' _ _ _ _ (by simp)).alloc _
    · rw [← hW]; exact Blk.new' _ _ _ _ (by simp)
  have HI : Hid (SI l (.mk 4 set [s]) b i rows lo hi w W x .zero) := h1
  clear hW g0 h1
  go_loopw [9] (fun vi wr => ∃ (k : Nat) (x' : PV) (o : Pl), k ≤ 4 ∧ vi = .int .i64 k ∧ Hid (SI l (.mk 4 set [s]) b i rows lo hi w wr x' o) ∧ Hid (AskedW l s N k o)) (fun vi _ => 4 - (intOf vi).toNat)
  case atStart => exact ⟨0, x, .zero, by omega, rfl, HI, fun j => by rw [Pl.has_zero]; simp⟩
  case round =>
    clear HI HS HAt
    obtain ⟨k, x', o, hk, rfl, HI, HA⟩ := hrel
    by_cases hlt : k < 4
    case neg =>
      obtain ⟨c0, c1, c2, c3⟩ := BlkL.cs HI.out.out
      obtain ⟨z0, z1, z2, z3⟩ := BlkL.cs HI.out.res
      have zf := HI.out.res.frozen
      obtain ⟨oa, ob, oc, od⟩ := o
      simp only at c0 c1 c2 c3
      go_wp2_with fail
      refine bodyPost_ret (v := plv ⟨oa, ob, oc, od⟩) ?_ rfl ⟨⟨oa, ob, oc, od⟩, x', rfl, ?_, ?_, ?_⟩
      · simp [results, Tryz.results76]
        exact run_plv (BlkL.set4 HI.out.res oa ob oc od)
      · intro j
        refine (HA.out j).trans ⟨?_, ?_⟩
        · rintro ⟨n, _, h⟩; exact ⟨n, h⟩
        · rintro ⟨n, h1, h2⟩
          exact ⟨n, by have := HN.out n h1; omega, h1, h2⟩
      · exact HI.out.st.set4 (by have := HBl.out; omega) (by have := HTop.out; omega) (by have := HBl.out; omega) _ _ _ _ _ _ _ _
      · exact HI.out.fr.set4 (Or.inl (by omega)) _ _ _ _ _ _ _ _
    have ix := fun W => index50 N k hlt W
    have HA2 : Hid (Asked l s N k (N.word k) o) := HA.out.begin
    have kk : (k : Int) < 4 := by omega
    clear HA
    generalize hy : N.word k = y0 at ix HA2
    clear hy
    go_wp2_with fail
    go_loopw [7] (fun vw wv => ∃ (y : BitVec 64) (x' : PV) (o : Pl), vw = .int .u64 (u y) ∧ Hid (SI l (.mk 4 set [s]) b i rows lo hi w wv x' o) ∧ Hid (Asked l s N k y o)) (fun vw _ => (intOf vw).toNat)
    case atStart => exact ⟨y0, x', o, rfl, HI, HA2⟩
    case round =>
      clear HI HA2 ix x' o
      obtain ⟨y, x', o, rfl, HI, HA⟩ := hrel
      by_cases hy : y = 0
      case pos =>
        subst hy
        have HA2 : Hid (AskedW l s N (k + 1) o) := HA.out.end_
        have u0 : u (0#64) = 0 := rfl
        clear HA
        go_wp2_with fail
        go_roundw
        case rel => exact ⟨k + 1, x', o, by omega, by go_num, HI, HA2⟩
        case measure => simp [intOf]; omega
      have hy1 : (u y == 0) = false := by
        simp
        intro e
        exact hy (u_inj (e.trans u_zero.symm))
      have hy2 : (u y != 0) = true := by rw [bne, hy1]; rfl
      have kt := fun W hT => tz_any y hy W hT
      have ks2 : ∀ (W : World) (R : List PV) (x : PV) (q : Nat), St l (.mk 4 set [s]) W b i R x lo hi → k * 64 + q ≤ l.length → Calls Tryz.prog 92 #[.pointer (some ⟨b, i * 11, none⟩), .int .i64 ((k : Int) * 64 + (q : Int))] W fun e w' => PostG l (.mk 4 set [s]) (fun j => Goes l s (k * 64 + q) j) b i R lo hi W e w' := fun W R x q h1 h2 => by
        have h := ks W R x (k * 64 + q) h1 h2
        rw [show ((k * 64 + q : Nat) : Int) = (k : Int) * 64 + (q : Int) by omega] at h
        exact h
      have kw := fun q W => with_any o q W
      obtain ⟨c0, c1, c2, c3⟩ := BlkL.cs HI.out.out
      have cf := HI.out.out.frozen
      have uS : IntKind.u64.wrap (u y - 1) = u (y - 1) := u_sub1 y hy
      have uA := u_and y (y - 1)
      have HL : Hid ((y &&& (y - 1)).toNat < y.toNat) := less_and y hy
      have hmul : IntKind.i64.wrap ((k : Int) * 64) = (k : Int) * 64 := by rw [IntKind.wrap_i64]; omega
      clear ks
      go_wp2_with fail
      go_region_with
        (first
          | (go_at_call 93; refine (kt _ (HI.out.st.drewN 1).tab).mono ?_; rintro _ w3 ⟨⟨q, rfl, hq1, hq2, hq3⟩, rfl⟩; have HQ2 : Hid (y.getLsbD q = true) := hq2; have HQ3 : Hid (∀ j, (y &&& (y - 1)).getLsbD j = (y.getLsbD j && decide (j ≠ q))) := hq3; have HQL : Hid (k * 64 + q ≤ l.length) := HN.out _ (HA.out.has hq1 hq2); clear hq2 hq3; have hadd : IntKind.i64.wrap ((k : Int) * 64 + (q : Int)) = (k : Int) * 64 + (q : Int) := (by rw [IntKind.wrap_i64]; omega))
          | (go_at_call 92; refine (ks2 _ _ _ q (HI.out.st.drewN 1) HQL.out).mono ?_; rintro _ w4 ⟨r4, x4, rfl, hr4, s4, f4⟩; have HR4 : Hid (∀ j, r4.has j = true ↔ Goes l s (k * 64 + q) j) := hr4; have I4 : Hid (SI l (.mk 4 set [s]) b i rows lo hi w w4 x4 o) := ⟨(by rw [List.set_set] at s4; exact s4), HI.out.fr.trans ((Fr.of_gr ((Gr.refl _).drewN 1)).trans f4), Blk.fr f4 HI.out.res (by have := HTop.out; omega) (by have := HBl.out; omega), Blk.fr f4 HI.out.out (by have := HTop.out; omega) (by have := HBl.out; omega)⟩; clear hr4 s4 f4; obtain ⟨d0, d1, d2, d3⟩ := BlkL.cs I4.out.out)
          | (go_at_call 58; refine (kw _ _).mono ?_; rintro _ w5 ⟨rfl, gw⟩; have I5 : Hid (SI l (.mk 4 set [s]) b i rows lo hi w w5 x4 o) := I4.out.gr gw; clear gw; obtain ⟨e0, e1, e2, e3⟩ := BlkL.cs I5.out.out; have ef := I5.out.out.frozen))
      all_goals
        have I6 := I5.out.put HBl.out HTop.out (o.or r4).a (o.or r4).b (o.or r4).c (o.or r4).d
        generalize hW6 : World.setCell _ _ _ = W6 at I6 ⊢
        clear hW6 c0 c1 c2 c3 cf d0 d1 d2 d3 e0 e1 e2 e3 ef
        have H6 : Hid (SI l (.mk 4 set [s]) b i rows lo hi w W6 x4 (o.or r4)) := I6
        have HA2 : Hid (Asked l s N k (y &&& (y - 1)) (o.or r4)) := HA.out.next hq1 HQ2.out HQ3.out HR4.out
        clear I6 HI I4 I5 HQ2 HQ3 HR4
        go_wp2_with fail
        go_roundw
        case rel => exact ⟨y &&& (y - 1), x4, o.or r4, congrArg (Value.int .u64) (u_and y (y - 1)), H6, HA2⟩
        case measure =>
          have h := HL.out
          show (bits .and .u64 (u y) (u (y - 1))).toNat < (u y).toNat
          rw [u_and]
          show ((y &&& (y - 1)).toNat : Int).toNat < (y.toNat : Int).toNat
          omega
end Go.Proofs.YtnohkbdmnalmcaaGreatDoor
