/-
  Walks: the document's text of a set.
-/
import Derived.Test.YtnohkbdmnalmcaaGreatDoorZd
import Derived.Test.YtnohkbdmnalmcaaGreatDoorPr3
import Derived.Test.YtnohkbdmnalmcaaGreatDoorS1Set
import Derived.ChangeKeysEq
import Derived.Deep.DeepCutAuto
namespace Go.Proofs.YtnohkbdmnalmcaaGreatDoor
open Go.RowKit
open Go.Proofs.YtnohkbdmnalmcaaGreatDoorS1 (NF Row2 inS)

theorem nf_eq' {l m : List (Int × Int)} (hg : YtnohkbdmnalmcaaGreatDoorS1.Good l) (h1 : NF m) (h2 : ∀ n, 0 ≤ n → n ≤ 4294967295 → inS m n = inS l n) : nf l = m := by
  obtain ⟨h3, h4⟩ := nf_ok hg
  exact h3.unique h1 fun n a b => (h4 n).trans (h2 n a b).symm
theorem rnorm_row (v : Value) (l : List (Int × Int)) (w : World) (hl : l.length ≤ 1000) (hg : YtnohkbdmnalmcaaGreatDoorS1.Good l) (hv : RowS w v l) :
    Calls Tryz.prog 74 #[v] w fun e w' => ∃ u, e = .returned u ∧ RowS w' u (nf l) ∧ Below w.heap.size w w' :=
  (YtnohkbdmnalmcaaGreatDoorS1.rnorm_any v l w hl hg (row2_of hv)).mono fun _ _ ⟨u, m, h1, h2, h3, _, h5, h6⟩ => by
    have := nf_eq' hg h2 h3
    subst this
    exact ⟨u, h1, row2_to h5, h6⟩

theorem join_snoc (xs : List Bs) (x : Bs) (c : UInt8) : Lib.join (xs ++ [x]) [c] = if xs = [] then x else Lib.join xs [c] ++ c :: x := by
  cases xs with
  | nil => simp [Lib.join_one]
  | cons y r =>
    rw [if_neg (by simp), List.cons_append, Lib.join_cons, Lib.join_cons]
    simp [Lib.joinTail]

theorem eqW (d : Nat) (a b : Int) (q : Bool) (hq : (decide (a = 0) && decide (b = 4294967295)) = q) (w : World) : (Op.equalIn (d + 1 + 1) 44 (.agg #[.int .u32 a, .int .u32 b]) (.agg #[.int .u32 0, .int .u32 4294967295])).run Tryz.prog w = .ok q w := by
  have u3 := Tryz.underlying42
  have a3 := Tryz.isAgg42
  have z3 := Tryz.sizeOf42
  have hS5 : Tryz.prog.underlying 44 = some (.struct (Tryz.prog.fieldsOf 44)) := by kernel_rfl
  have hp5 : Tryz.prog.stoodInHeld 44 = false := by kernel_rfl
  subst hq
  rw [run_equalIn_agg w (d + 1) 44 _ _ hS5 hp5]
  simp only [Program.fieldsOf, Tryz.underlying44]
  by_cases h1 : a = 0
  · subst h1
    by_cases h2 : b = 4294967295
    · subst h2
      go_simp
    · have e2 : (b == 4294967295) = false := by simpa using h2
      go_simp
  · have e1 : (a == 0) = false := by simpa using h1
    go_simp
theorem eqWhole (a b : Int) (q : Bool) (hq : (decide (a = 0) && decide (b = 4294967295)) = q) (w : World) : (binOp .eql 44 (.agg #[.int .u32 a, .int .u32 b]) (.agg #[.int .u32 0, .int .u32 4294967295])).run Tryz.prog w = .ok (.bool q) w := by
  rw [run_eql_struct, show (10000 : Nat) = 9998 + 1 + 1 from rfl, eqW _ _ _ q hq]
  rfl


/-- Between the rounds over the spans. -/
structure OI (yy : Sty) (w : World) (m : List (Int × Int)) (u : Value) (W : World) : Prop where
  bel : Below w.heap.size w W
  box : Blk W w.heap.size (syc yy) 66
  row : RowS W u m
theorem OI.go {yy : Sty} {w : World} {m : List (Int × Int)} {u : Value} {W W' : World} (h : OI yy w m u W) (g : Below W.heap.size W W') : OI yy w m u W' := ⟨bstep h.bel g, h.box.bel g, h.row.bel g⟩

theorem nf_span {m : List (Int × Int)} (h : NF m) {i : Nat} {x : Int × Int} (hx : m[i]? = some x) : 0 ≤ x.1 ∧ x.1 ≤ x.2 ∧ x.2 ≤ 4294967295 := h.1 x (List.mem_of_getElem? hx)
theorem nf_whole : ∀ {m : List (Int × Int)} (_ : NF m) {i : Nat} (_ : m[i]? = some (0, 4294967295)), m = [(0, 4294967295)]
  | [], _, i, hx => by simp at hx
  | [a], _, 0, hx => by simp at hx; subst hx; rfl
  | [a], _, i + 1, hx => by simp at hx
  | a :: b :: m, h, i, hx => by
    exfalso
    have h1 := h.1 a (by simp)
    have h2 := h.1 b (by simp)
    have h3 := List.pairwise_cons.1 h.2
    have h4 := h3.1 b (by simp)
    match i, hx with
    | 0, hx => simp at hx; subst hx; simp at h4; omega
    | i + 1, hx =>
      have := h3.1 _ (List.mem_of_getElem? (l := b :: m) (i := i) (by simpa using hx))
      simp at this
      omega
theorem span_split {bw op cl : Bs} {a b : Int} (h : ¬ (a = 0 ∧ b = 4294967295)) : spanX ⟨bw, op, cl⟩ (a, b) = if a = b then dec a else op ++ (dec a ++ 45 :: (dec b ++ cl)) := by
  show (if a = 0 ∧ b = 4294967295 then [46] else if a = b then dec a else op ++ (dec a ++ 45 :: (dec b ++ cl))) = _
  rw [if_neg h]

theorem join_take_len {yy : Sty} (hyy : okY yy) {m : List (Int × Int)} (hl : m.length ≤ 1000) (h : NF m) (k : Nat) : (Lib.join ((m.take k).map (spanX yy)) [124]).length ≤ 30000 := by
  have h1 := join_len_le ((m.take k).map (spanX yy)) 124
  have h2 := lens_le ((m.take k).map (spanX yy)) 23 (by
    intro x hx
    obtain ⟨y, hy, rfl⟩ := List.mem_map.1 hx
    exact span_len hyy (h.1 y (List.mem_of_mem_take hy)))
  simp only [List.length_map, List.length_take] at h1 h2
  have : min k m.length ≤ 1000 := by omega
  have := Nat.mul_le_mul_right 23 this
  omega
theorem join_next {yy : Sty} {m : List (Int × Int)} {k : Nat} {y : Int × Int} (hy : m[k]? = some y) : Lib.join ((m.take (k + 1)).map (spanX yy)) [124] = if k = 0 then (spanX yy) y else Lib.join ((m.take k).map (spanX yy)) [124] ++ 124 :: (spanX yy) y := by
  rw [List.take_add_one, hy, List.map_append, Option.toList_some, List.map_cons, List.map_nil, join_snoc]
  by_cases h : k = 0
  · subst h; simp
  · rw [if_neg h, if_neg]
    simp
    exact ⟨h, by rintro rfl; simp at hy⟩


set_option maxRecDepth 100000 in
set_option maxHeartbeats 4000000 in
theorem rone_any (yy : Sty) (hyy : okY yy) (v : Value) (l : List (Int × Int)) (w : World) (hl : l.length ≤ 1000) (hg : YtnohkbdmnalmcaaGreatDoorS1.Good l) (hv : RowS w v l) :
    Calls Tryz.prog 55 #[.agg (syc yy), v] w fun e w' => e = .returned (str (setX yy (nf l))) ∧ Below w.heap.size w w' := by
  obtain ⟨bw, op, cl⟩ := yy
  have HYY : Hid (okY ⟨bw, op, cl⟩) := hyy
  obtain ⟨hy0', hy1', hy2'⟩ := hyy
  have hyy : okY ⟨bw, op, cl⟩ := HYY.out
  simp only at hy1' hy2'
  have kn := fun W h => rnorm_row v l W hl hg h
  have hnf := (nf_ok hg).1
  have hlen : (nf l).length ≤ 1000 := Nat.le_trans (nf_len hg) hl
  have HV : Hid (RowS w v l) := hv
  have hmx : Tryz.prog.follows .mixedOrders = true := by kernel_rfl
  generalize nf l = m at *
  clear hv hl hg hy0'
  have HN : Hid (NF m) := hnf
  have HJ : Hid ((Lib.join (m.map (spanX ⟨bw, op, cl⟩)) [124]).length ≤ 30000) := join_spans hyy hlen hnf
  clear hnf hyy
  go_enter Tryz.func55, Tryz.ntmps55
  go_upto_region 2 with (go_at_call 74; refine (kn _ (HV.out.bel (bel_alloc _ _))).mono ?_; rintro _ w2 ⟨u, rfl, ru, gw⟩; have I2 : Hid (OI ⟨bw, op, cl⟩ w m u w2) := ⟨bstep (bel_alloc _ _) gw, (Blk.new _ _ _).bel gw, ru⟩; clear gw ru)
  obtain ⟨ua, uc, rfl⟩ := I2.out.row.form
  obtain ⟨N, hN⟩ : ∃ N, N = m.length := ⟨_, rfl⟩
  have HL : Hid (N = m.length) := hN
  rw [← hN] at I2 hlen ⊢
  clear hN kn
  by_cases c0 : N = 0
  · have hm : m = [] := List.length_eq_zero_iff.1 (by have := HL.out; omega)
    subst hm
    subst c0
    go_wp2_with fail
    go_ret
    exact ⟨rfl, I2.out.bel⟩
  obtain ⟨x, hx⟩ : ∃ x, m[0]? = some x := ⟨_, List.getElem?_eq_getElem (by have := HL.out; omega)⟩
  obtain ⟨b, off, rfl, hb, d0, d1⟩ := I2.out.row.cs2 hx
  have n0 : (0 : Int) < (N : Int) := by omega
  have n1 : ((N : Int) == 0) = false := by simpa using c0
  by_cases c1 : x = (0, 4294967295)
  · subst c1
    have hm := nf_whole HN.out hx
    subst hm
    clear hx
    simp at d0 d1
    go_wp2_with fail
    go_ret
    exact ⟨rfl, I2.out.bel⟩
  obtain ⟨xa, xb⟩ := x
  have hw : (decide (xa = 0) && decide (xb = 4294967295)) = false := by
    cases h : (decide (xa = 0) && decide (xb = 4294967295)) with
    | false => rfl
    | true => simp at h; exact absurd (by rw [h.1, h.2]) c1
  have keq := fun W => eqWhole xa xb false hw W
  have HNo : Hid (∀ (i : Nat) (y : Int × Int), m[i]? = some y → ¬ (y.1 = 0 ∧ y.2 = 4294967295)) := fun i y hy h => by
    have : y = (0, 4294967295) := by rw [← h.1, ← h.2]
    subst this
    have := nf_whole HN.out hy
    subst this
    simp at hx
    exact c1 (by rw [← hx.1, ← hx.2])
  simp at d0 d1
  clear hw c1 hx
  go_wp2_with fail
  clear keq d0 d1
  go_loopw [6, 21] (fun v6 vi wr => ∃ (k : Nat), k ≤ N ∧ vi = .int .i64 k ∧ v6 = str (Lib.join ((m.take k).map (spanX ⟨bw, op, cl⟩)) [124]) ∧ Hid (OI ⟨bw, op, cl⟩ w m (.slice (some ⟨b, off, none⟩) N uc) wr)) (fun _ vi _ => N - (intOf vi).toNat)
  case atStart => exact ⟨0, Nat.zero_le _, rfl, rfl, I2⟩
  case round =>
    clear I2
    obtain ⟨k, hk, rfl, rfl, HI⟩ := hrel
    by_cases hlt : k < N
    case neg =>
      have hkN : k = N := by omega
      have hle : ¬ (k : Int) < (N : Int) := by omega
      have HE : Hid ((m.take k).map (spanX ⟨bw, op, cl⟩) = m.map (spanX ⟨bw, op, cl⟩)) := by show _ = _; rw [List.take_of_length_le (by have := HL.out; omega)]
      rw [HE.out]
      have hJ := HJ.out
      have HS : Hid (setX ⟨bw, op, cl⟩ m = brX (decide (1 < N)) (Lib.join (m.map (spanX ⟨bw, op, cl⟩)) [124])) := by
        show _ = _
        unfold setX
        rw [if_neg (by intro e; subst e; have := HL.out; simp at this; omega), HL.out]
      generalize Lib.join (m.map (spanX ⟨bw, op, cl⟩)) [124] = J at hJ HS ⊢
      by_cases c2 : 1 < N
      · have e2 : (1 : Int) < (N : Int) := by omega
        have m1 : ¬ 9223372036854775807 < 1 + J.length := by omega
        have m2 : ¬ 9223372036854775807 < 1 + J.length + 1 := by omega
        go_wp2_with fail
        go_ret
        rw [HS.out]
        refine ⟨?_, HI.out.bel⟩
        rw [str_lit #[40], str_lit #[41], str_app, str_app, decide_eq_true c2]
        rfl
      · have e2 : ¬ (1 : Int) < (N : Int) := by omega
        go_wp2_with fail
        go_ret
        rw [HS.out]
        exact ⟨by rw [decide_eq_false c2]; rfl, HI.out.bel⟩
    obtain ⟨y, hy⟩ : ∃ y, m[k]? = some y := ⟨_, List.getElem?_eq_getElem (by have := HL.out; omega)⟩
    obtain ⟨_, _, e9, _, d0, d1⟩ := HI.out.row.cs2 hy
    injection e9 with e9
    injection e9 with e8 e9
    subst e8 e9
    have hP := join_take_len HYY.out (by have := HL.out; omega) HN.out k
    have HNx : Hid (Lib.join ((m.take (k + 1)).map (spanX ⟨bw, op, cl⟩)) [124] = if k = 0 then spanX ⟨bw, op, cl⟩ y else Lib.join ((m.take k).map (spanX ⟨bw, op, cl⟩)) [124] ++ 124   :: spanX ⟨bw, op, cl⟩ y) := join_next hy
    have hy0 := nf_span HN.out hy
    have hyn := HNo.out k y hy
    obtain ⟨ya, yb⟩ := y
    simp only at d0 d1 hy0 hyn
    rw [span_split hyn] at HNx
    clear hy hyn
    generalize hPe : Lib.join ((m.take k).map (spanX ⟨bw, op, cl⟩)) [124] = P at hP HNx ⊢
    have PN : Hid (k = 0 → P = []) := by
      intro e
      rw [← hPe, e]
      rfl
    clear hPe
    have hlt2 : (k : Int) < (N : Int) := by omega
    have la := dec_len (n := ya) (by omega)
    have lb := dec_len hy0.2.2
    have kA := fun W => digits_any ya hy0.1 (by omega) W
    have kB := fun W => digits_any yb (by omega) hy0.2.2 W
    clear hy0
    by_cases c3 : k = 0
    case pos =>
      have e2 : ¬ (0 : Int) < (k : Int) := by omega
      have hPn : P = [] := PN.out c3
      subst hPn
      rw [if_pos c3] at HNx
      by_cases c4 : ya = yb
      case pos =>
        have e4 : (ya == yb) = true := by simpa using c4
        rw [if_pos c4] at HNx
        clear kB lb
        clear c3 c4
        go_wp2_with (go_at_call 75; refine (kA _).mono ?_; rintro _ w8 ⟨rfl, gw⟩; have I8 : Hid (OI ⟨bw, op, cl⟩ w m (.slice (some ⟨b, off, none⟩) N uc) w8) := (HI.out.go (bel_alloc _ _)).go gw.below; clear gw)
        go_roundw
        case rel =>
          refine ⟨k + 1, by omega, by go_num, ?_, I8⟩
          rw [HNx.out]
          apply congrArg Value.string
          apply ByteArray.ext
          simp
        case measure => simp [intOf]; omega
      case neg =>
        have e4 : (ya == yb) = false := by simpa using c4
        rw [if_neg c4] at HNx
        have q1 : ¬ 9223372036854775807 < op.length + (dec ya).length := by omega
        have q2 : ¬ 9223372036854775807 < op.length + (dec ya).length + 1 := by omega
        have q3 : ¬ 9223372036854775807 < op.length + (dec ya).length + 1 + (dec yb).length := by omega
        have q4 : ¬ 9223372036854775807 < op.length + (dec ya).length + 1 + (dec yb).length + cl.length := by omega
        have q5 : ¬ 9223372036854775807 < 0 + (op.length + (dec ya).length + 1 + (dec yb).length + cl.length) := by omega
        clear c3 c4 la lb hP
        have HB8 : Hid (Blk (wr.alloc (.cells #[.int .u32 ya, .int .u32 yb] 44)) wr.heap.size #[.int .u32 ya, .int .u32 yb] 44) := Blk.new _ _ _
        go_upto_region 14 with fail
        generalize hW : wr.alloc (.cells #[.int .u32 ya, .int .u32 yb] 44) = W1 at HB8
        have I1 : Hid (OI ⟨bw, op, cl⟩ w m (.slice (some ⟨b, off, none⟩) N uc) W1) := by rw [← hW]; exact HI.out.go (bel_alloc _ _)
        have m0 := fun n os => (HB8.out.grow n os).c 0
        have m1 := fun n os => (HB8.out.grow n os).c 1
        have s1 := fun n os => (I1.out.box.grow n os).c 1
        have s2 := fun n os => (I1.out.box.grow n os).c 2
        simp at m0 m1 s1 s2
        have kA2 : ∀ n os, Calls Tryz.prog 75 #[.int .u32 ya] (Sort.grow (W1.drewN n) os) fun e w' => e = .returned (str (dec ya)) ∧ ∃ q os', w' = Sort.grow ((Sort.grow (W1.drewN n) os).drewN q) os' := fun n os => kA _
        have kB2 : ∀ n os, Calls Tryz.prog 75 #[.int .u32 yb] (Sort.grow (W1.drewN n) os) fun e w' => e = .returned (str (dec yb)) ∧ ∃ q os', w' = Sort.grow ((Sort.grow (W1.drewN n) os).drewN q) os' := fun n os => kB _
        clear kA kB hW HI d0 d1
        refine wp_region_quiet_grownB (by assumption) (by kernel_rfl) ?_
        repeat (refine wpQuiet_stepB (fun K hK => ?_); go_simp; first | (refine hK _ ?_; clear hK K) | (apply Exists.intro; refine ⟨fun _ => ?_, hK _ ?_⟩; (first | (go_at_call 75; with_reducible refine Calls.grown_of (kA2 _ _)) | (go_at_call 75; with_reducible refine Calls.grown_of (kB2 _ _))); clear hK K))
        refine wpQuiet_nilB ?_
        intro _ hw'
        obtain ⟨⟨nq, osq⟩, hw''⟩ := hw'
        subst hw''
        have I8 : Hid (OI ⟨bw, op, cl⟩ w m (.slice (some ⟨b, off, none⟩) N uc) (Sort.grow (W1.drewN nq) osq)) := I1.out.go (Gr.below ⟨nq, osq, rfl⟩)
        generalize Sort.grow (W1.drewN nq) osq = W9 at I8 ⊢
        clear m0 m1 s1 s2 kA2 kB2 I1 HB8
        go_wp2_with fail
        go_roundw
        case rel =>
          refine ⟨k + 1, by omega, by go_num, ?_, I8⟩
          rw [HNx.out]
          rw [str_lit #[45], str_app, str_app, str_app, str_app]
          simp
        case measure => simp [intOf]; omega
    case neg =>
      have e2 : (0 : Int) < (k : Int) := by omega
      rw [if_neg c3] at HNx
      by_cases c4 : ya = yb
      case pos =>
        have e4 : (ya == yb) = true := by simpa using c4
        rw [if_pos c4] at HNx
        clear kB lb
        have q1 : ¬ 9223372036854775807 < P.length + 1 := by omega
        have q2 : ¬ 9223372036854775807 < P.length + 1 + (dec ya).length := by omega
        clear c3 c4
        go_wp2_with (go_at_call 75; refine (kA _).mono ?_; rintro _ w8 ⟨rfl, gw⟩; have I8 : Hid (OI ⟨bw, op, cl⟩ w m (.slice (some ⟨b, off, none⟩) N uc) w8) := (HI.out.go (bel_alloc _ _)).go gw.below; clear gw)
        go_roundw
        case rel =>
          refine ⟨k + 1, by omega, by go_num, ?_, I8⟩
          rw [HNx.out]
          rw [str_lit #[124], str_app, str_app]
          simp
        case measure => simp [intOf]; omega
      case neg =>
        have e4 : (ya == yb) = false := by simpa using c4
        rw [if_neg c4] at HNx
        have q1 : ¬ 9223372036854775807 < op.length + (dec ya).length := by omega
        have q2 : ¬ 9223372036854775807 < op.length + (dec ya).length + 1 := by omega
        have q3 : ¬ 9223372036854775807 < op.length + (dec ya).length + 1 + (dec yb).length := by omega
        have q4 : ¬ 9223372036854775807 < op.length + (dec ya).length + 1 + (dec yb).length + cl.length := by omega
        have q5 : ¬ 9223372036854775807 < P.length + 1 := by omega
        have q6 : ¬ 9223372036854775807 < P.length + 1 + (op.length + (dec ya).length + 1 + (dec yb).length + cl.length) := by omega
        clear c3 c4 la lb hP
        have HB8 : Hid (Blk (wr.alloc (.cells #[.int .u32 ya, .int .u32 yb] 44)) wr.heap.size #[.int .u32 ya, .int .u32 yb] 44) := Blk.new _ _ _
        go_upto_region 14 with fail
        generalize hW : wr.alloc (.cells #[.int .u32 ya, .int .u32 yb] 44) = W1 at HB8
        have I1 : Hid (OI ⟨bw, op, cl⟩ w m (.slice (some ⟨b, off, none⟩) N uc) W1) := by rw [← hW]; exact HI.out.go (bel_alloc _ _)
        have m0 := fun n os => (HB8.out.grow n os).c 0
        have m1 := fun n os => (HB8.out.grow n os).c 1
        have s1 := fun n os => (I1.out.box.grow n os).c 1
        have s2 := fun n os => (I1.out.box.grow n os).c 2
        simp at m0 m1 s1 s2
        have kA2 : ∀ n os, Calls Tryz.prog 75 #[.int .u32 ya] (Sort.grow (W1.drewN n) os) fun e w' => e = .returned (str (dec ya)) ∧ ∃ q os', w' = Sort.grow ((Sort.grow (W1.drewN n) os).drewN q) os' := fun n os => kA _
        have kB2 : ∀ n os, Calls Tryz.prog 75 #[.int .u32 yb] (Sort.grow (W1.drewN n) os) fun e w' => e = .returned (str (dec yb)) ∧ ∃ q os', w' = Sort.grow ((Sort.grow (W1.drewN n) os).drewN q) os' := fun n os => kB _
        clear kA kB hW HI d0 d1
        refine wp_region_quiet_grownB (by assumption) (by kernel_rfl) ?_
        repeat (refine wpQuiet_stepB (fun K hK => ?_); go_simp; first | (refine hK _ ?_; clear hK K) | (apply Exists.intro; refine ⟨fun _ => ?_, hK _ ?_⟩; (first | (go_at_call 75; with_reducible refine Calls.grown_of (kA2 _ _)) | (go_at_call 75; with_reducible refine Calls.grown_of (kB2 _ _))); clear hK K))
        refine wpQuiet_nilB ?_
        intro _ hw'
        obtain ⟨⟨nq, osq⟩, hw''⟩ := hw'
        subst hw''
        have I8 : Hid (OI ⟨bw, op, cl⟩ w m (.slice (some ⟨b, off, none⟩) N uc) (Sort.grow (W1.drewN nq) osq)) := I1.out.go (Gr.below ⟨nq, osq, rfl⟩)
        generalize Sort.grow (W1.drewN nq) osq = W9 at I8 ⊢
        clear m0 m1 s1 s2 kA2 kB2 I1 HB8
        go_wp2_with fail
        go_roundw
        case rel =>
          refine ⟨k + 1, by omega, by go_num, ?_, I8⟩
          rw [HNx.out]
          rw [str_lit #[45], str_lit #[124], str_app, str_app, str_app, str_app, str_app, str_app]
          simp
        case measure => simp [intOf]; omega

end Go.Proofs.YtnohkbdmnalmcaaGreatDoor
