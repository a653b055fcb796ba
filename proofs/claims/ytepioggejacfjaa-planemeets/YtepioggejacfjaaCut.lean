/-
  The walk of 'cuts'.
-/
import Derived.Test.YtepioggejacfjaaSrt
namespace Go.Proofs.Ytepioggejacfjaa
open Go.RowKit Go.Shelf
open Go.Sort (Holds putRow)

/-- Where boxes begin, and what is behind their ends, along a side. -/
def cutL (f : Int → Int) (l : List Sp) : List Int := 0 :: l.flatMap fun s => [f s.1, f s.2 + 1]

theorem cutL_snoc (f : Int → Int) (l : List Sp) (x : Sp) : cutL f (l ++ [x]) = cutL f l ++ [f x.1, f x.2 + 1] := by
  simp [cutL]

theorem cutL_length (f : Int → Int) (l : List Sp) : (cutL f l).length = 1 + 2 * l.length := by
  induction l with
  | nil => rfl
  | cons a l ih => simp [cutL] at *; omega

theorem mem_cutL {f : Int → Int} {l : List Sp} {x : Int} : x ∈ cutL f l ↔ x = 0 ∨ ∃ s ∈ l, x = f s.1 ∨ x = f s.2 + 1 := by
  simp [cutL]

theorem cutL_rng {f : Int → Int} {l : List Sp} (hf : ∀ s ∈ l, (0 ≤ f s.1 ∧ f s.1 ≤ 65535) ∧ 0 ≤ f s.2 ∧ f s.2 ≤ 65535) : ∀ x ∈ cutL f l, 0 ≤ x ∧ x ≤ 65536 := fun x hx => by
  rcases mem_cutL.1 hx with rfl | ⟨s, hs, rfl | rfl⟩
  · omega
  · have := (hf s hs).1; omega
  · have := (hf s hs).2; omega

theorem good_hi2 {l : List Sp} (h : Good l) : ∀ s ∈ l, (0 ≤ hiP s.1 ∧ hiP s.1 ≤ 65535) ∧ 0 ≤ hiP s.2 ∧ hiP s.2 ≤ 65535 := fun s hs => by
  have := h s hs; unfold hiP; omega
theorem good_lo2 {l : List Sp} (h : Good l) : ∀ s ∈ l, (0 ≤ loP s.1 ∧ loP s.1 ≤ 65535) ∧ 0 ≤ loP s.2 ∧ loP s.2 ≤ 65535 := fun s hs => by
  have := h s hs; unfold loP; omega

/-- What 'within' keeps of the cuts is where kinds may begin. -/
theorem begs_of_cut {f : Int → Int} {l : List Sp} (hf : ∀ s ∈ l, (0 ≤ f s.1 ∧ f s.1 ≤ 65535) ∧ 0 ≤ f s.2 ∧ f s.2 ≤ 65535) {r : List (Fin 65537)} (hr : r.Pairwise (· < ·)) (hm : ∀ x, x ∈ r ↔ x ∈ ((cutL f l).map toF).toArray.toList ∧ x.val ≤ 65535) :
    Begs f l (r.map fun x => ((x.val : Nat) : Int)) := by
  refine ⟨List.pairwise_map.2 (hr.imp fun h => by omega), fun x => ?_⟩
  rw [List.mem_map]
  constructor
  · rintro ⟨y, hy, rfl⟩
    obtain ⟨h1, h2⟩ := (hm y).1 hy
    obtain ⟨z, hz, rfl⟩ := List.mem_map.1 (by simpa using h1)
    have hzr := cutL_rng hf z hz
    rw [toF_val hzr.1 hzr.2]
    have h3 : z ≤ 65535 := by have := toF_val hzr.1 hzr.2; omega
    rcases mem_cutL.1 hz with h | ⟨s, hs, h | h⟩
    · exact Or.inl h
    · exact Or.inr ⟨s, hs, Or.inl h⟩
    · exact Or.inr ⟨s, hs, Or.inr ⟨by omega, h⟩⟩
  · intro h
    have hx : x ∈ cutL f l ∧ x ≤ 65535 := by
      rcases h with rfl | ⟨s, hs, rfl | ⟨h1, rfl⟩⟩
      · exact ⟨mem_cutL.2 (Or.inl rfl), by omega⟩
      · exact ⟨mem_cutL.2 (Or.inr ⟨s, hs, Or.inl rfl⟩), (hf s hs).1.2⟩
      · exact ⟨mem_cutL.2 (Or.inr ⟨s, hs, Or.inr rfl⟩), by omega⟩
    have hxr := cutL_rng hf x hx.1
    refine ⟨toF x, (hm _).2 ⟨by simpa using ⟨x, hx.1, rfl⟩, ?_⟩, toF_val hxr.1 hxr.2⟩
    have := toF_val hxr.1 hxr.2
    omega

theorem OwnF.keptAt {base : Nat} {w w' : World} {g n cap : Nat} {l : List Int} (h : OwnF base w (.slice (some ⟨g, 0, none⟩) n cap) l) (e : w'.heap[g]? = w.heap[g]?) : OwnF base w' (.slice (some ⟨g, 0, none⟩) n cap) l := by
  refine ⟨h.1, ?_⟩
  rcases h.2 with h0 | ⟨g', cap', cur, hv, hb, hg, hn, hm, hs, ht⟩
  · exact .inl h0
  · refine .inr ⟨g', cap', cur, hv, hb, ?_, hn, hm, hs, ht⟩
    simp at hv
    rw [← hv.1, e, hv.1]
    exact hg

theorem OwnF.holds {base : Nat} {w : World} {g n cap : Nat} {l : List Int} (h : OwnF base w (.slice (some ⟨g, 0, none⟩) n cap) l) (hne : l ≠ []) (hr : ∀ x ∈ l, 0 ≤ x ∧ x ≤ 65536) : Holds fv w g 0 (l.map toF).toArray := by
  obtain ⟨g', cap', hv, _, _, _, hfr, hcl⟩ := h.shape hne
  simp at hv
  obtain ⟨rfl, _⟩ := hv
  intro j hj
  have hj' : j < l.length := by simpa using hj
  refine ⟨?_, hfr _⟩
  rw [Nat.zero_add, getElem!_pos _ j hj, hcl j _ (List.getElem?_eq_getElem hj')]
  have hx := hr l[j] (List.getElem_mem hj')
  have e : fl l[j] = bitsF (toF l[j]) := by unfold bitsF; rw [toF_val hx.1 hx.2]
  simp
  exact e

theorem add_one {x : Int} (h0 : 0 ≤ x) (h1 : x ≤ 4294967295) (W : World) :
    (binOp .add 42 (.complex .f64 (fl (x / 65536)) (fl (x % 65536))) (.complex .f64 4607182418800017408 4607182418800017408)).run Try.prog W = .ok (.complex .f64 (fl (x / 65536 + 1)) (fl (x % 65536 + 1))) W := by
  refine run_complex_sum (P := Try.prog) W .add (Or.inl rfl) 42 .f64 _ _ _ _ _ _ ?_
  unfold cSumBits
  rw [fl_add1 (by omega) (by omega), fl_add1 (by omega) (by omega)]
  rfl

/-- 'append' of two floats; the new length under a name of its own. -/
theorem wp_appFm {w : World} {ops : Array Oper} {rest : List Oper} {o : Oper} {a : Act} {Q : Exit → Act → World → Prop} (hgd : o.guard = none) (s x : Operand)
    (ho : o.op = .call { callee := .builtin .append, args := #[s, x], argTypes := #[49, 49] })
    (base : Nat) (v : Value) (l : List Int) (m : Nat) (hm : l.length + 2 = m) (hs : a.eval s = v) (hown : OwnF base w v l) (y z : Int)
    (blk : Nat) (hx : a.eval x = .slice (some ⟨blk, 0, none⟩) 2 2) (h0 : w.cell? ⟨blk, 0, none⟩ = some (.float .f64 (fl y))) (h1 : w.cell? ⟨blk, 1, none⟩ = some (.float .f64 (fl z)))
    (hl : l.length ≤ 1000000) (hbase : base ≤ w.heap.size)
    (h : ∀ g cap w', OwnF base w' (.slice (some ⟨g, 0, none⟩) m cap) (l ++ [y, z]) → Below base w w' → base ≤ g → g < w'.heap.size → (v.ownBlock = some g ∨ g = w.heap.size) → (∀ b, b < w.heap.size → v.ownBlock ≠ some b → w'.heap[b]? = w.heap[b]?) → wpList Try.prog ops Q rest (a.put o.dst (.slice (some ⟨g, 0, none⟩) m cap)) w') : wpList Try.prog ops Q (o :: rest) a w := by
  subst hm
  exact wp_appF hgd s x ho base v l hs hown y z blk hx h0 h1 hl hbase h

theorem OwnF.lt {base : Nat} {w : World} {g n cap : Nat} {l : List Int} (h : OwnF base w (.slice (some ⟨g, 0, none⟩) n cap) l) : base ≤ g ∧ g < w.heap.size := World.ownsRow.lt h g rfl

set_option maxHeartbeats 2000000 in
theorem cuts_any (v : Value) (l : List Sp) (w : World) (hl : l.length ≤ 64) (hg : Good l) (hv : Row2 w v l) :
    Calls Try.prog 26 #[v] w fun e w' => ∃ (X Y : List Int) (gX cX gY cY : Nat), e = .returned (.tuple #[.slice (some ⟨gX, 0, none⟩) X.length cX, .slice (some ⟨gY, 0, none⟩) Y.length cY]) ∧ Begs hiP l X ∧ Begs loP l Y ∧ X.length ≤ 1 + 2 * l.length ∧ Y.length ≤ 1 + 2 * l.length ∧
      gX < w'.heap.size ∧ gY < w'.heap.size ∧ (∀ (i : Nat) x, X[i]? = some x → w'.cell? ⟨gX, i, none⟩ = some (.float .f64 (fl x))) ∧ (∀ (i : Nat) x, Y[i]? = some x → w'.cell? ⟨gY, i, none⟩ = some (.float .f64 (fl x))) ∧ Below w.heap.size w w' := by
  obtain ⟨ao, cap, rfl, hc, _⟩ := hv
  have HG : Hid (Good l) := hg
  clear hg
  have z0 := fl_zero
  go_enter Try.func26, Try.ntmps26
  go_wp2_with fail
  have A1 : OwnF w.heap.size ((w.alloc (.cells #[.float .f64 0] 53)).alloc (.cells #[.float .f64 0] 53)) (.slice (some ⟨w.heap.size, 0, none⟩) 1 1) (cutL hiP []) := by
    have := (OwnF.one w w.heap.size (Nat.le_refl _) 0).alloc (.cells #[.float .f64 0] 53)
    rw [fl_zero] at this
    exact this
  have A2 : OwnF w.heap.size ((w.alloc (.cells #[.float .f64 0] 53)).alloc (.cells #[.float .f64 0] 53)) (.slice (some ⟨w.heap.size + 1, 0, none⟩) 1 1) (cutL loP []) := by
    have := OwnF.one (w.alloc (.cells #[.float .f64 0] 53)) w.heap.size (by simp) 0
    rw [fl_zero, show (w.alloc (.cells #[.float .f64 0] 53)).heap.size = w.heap.size + 1 from by simp] at this
    exact this
  go_loopw [2, 3, 12] (fun vn vv i wr => ∃ (k : Nat) (gN cN gV cV : Nat), k ≤ l.length ∧ i = .int .i64 k ∧ vn = .slice (some ⟨gN, 0, none⟩) (1 + 2 * k) cN ∧ vv = .slice (some ⟨gV, 0, none⟩) (1 + 2 * k) cV ∧ gN ≠ gV ∧ OwnF w.heap.size wr (.slice (some ⟨gN, 0, none⟩) (1 + 2 * k) cN) (cutL hiP (l.take k)) ∧ OwnF w.heap.size wr (.slice (some ⟨gV, 0, none⟩) (1 + 2 * k) cV) (cutL loP (l.take k)) ∧ Below w.heap.size w wr) (fun _ _ i _ => l.length - (intOf i).toNat)
  case atStart => exact ⟨0, w.heap.size, 1, w.heap.size + 1, 1, Nat.zero_le _, rfl, rfl, rfl, by omega, A1, A2, ((Below.refl _ _).alloc (Nat.le_refl _) _).alloc (by simp) _⟩
  case round =>
    clear A1 A2 z0
    obtain ⟨k, gN, cN, gV, cV, hk, rfl, rfl, rfl, hne, ON, OV, hB⟩ := hrel
    have hB' := hB.size
    by_cases hlt : k < l.length
    · obtain ⟨ba, offa, rfl, hba, hcella⟩ := hc (ne_nil_of_lt hlt)
      obtain ⟨x, hx⟩ : ∃ x, l[k]? = some x := ⟨_, List.getElem?_eq_getElem hlt⟩
      obtain ⟨c1, c2⟩ := hcella k x hx
      have c1' : wr.cell? ⟨ba, offa + k * 2, none⟩ = some (.int .u32 x.1) := (hB.cell (by exact hba)).trans c1
      have c2' : wr.cell? ⟨ba, offa + k * 2 + 1, none⟩ = some (.int .u32 x.2) := (hB.cell (by exact hba)).trans c2
      obtain ⟨x10, x11, x20, x21⟩ := HG.out x (List.mem_of_getElem? hx)
      have HT : Hid (l.take (k + 1) = l.take k ++ [x]) := take_succ_of hx
      have hadd := fun W => add_one x20 x21 W
      have p1 := fun W => point_any x.1 x10 x11 W
      have p2 := fun W => point_any x.2 x20 x21 W
      clear hc hcella c1 c2 hx
      go_wp2_with fail
      go_quiet (first | (go_at_call 19; first | (with_reducible exact Calls.quiet_of_same (p1 _)) | (with_reducible exact Calls.quiet_of_same (p2 _))))
      clear p1 p2 hadd
      generalize hW : World.drewN _ nq = W1
      have ON1 := (ON.alloc (.cells #[.int .u32 x.1, .int .u32 x.2] 26)).drewN nq
      have OV1 := (OV.alloc (.cells #[.int .u32 x.1, .int .u32 x.2] 26)).drewN nq
      have B1 := below_drewN (hB.alloc hB' (.cells #[.int .u32 x.1, .int .u32 x.2] 26)) nq
      rw [hW] at ON1 OV1 B1
      have hB1 := B1.size
      have hl1 := cutL_length hiP (l.take k)
      have hl2 := cutL_length loP (l.take k)
      rw [List.length_take, Nat.min_eq_left hk] at hl1 hl2
      have HN : Hid (cutL hiP (l.take (k + 1)) = cutL hiP (l.take k) ++ [x.1 / 65536, x.2 / 65536 + 1]) := by
        show _ = _
        rw [HT.out, cutL_snoc]; rfl
      have HV2 : Hid (cutL loP (l.take (k + 1)) = cutL loP (l.take k) ++ [x.1 % 65536, x.2 % 65536 + 1]) := by
        show _ = _
        rw [HT.out, cutL_snoc]; rfl
      have HL1 : Hid ((cutL hiP (l.take k)).length = 1 + 2 * k) := hl1
      have HL2 : Hid ((cutL loP (l.take k)).length = 1 + 2 * k) := hl2
      generalize cutL hiP (l.take k) = nb at *
      generalize cutL loP (l.take k) = vb at *
      have HW : Hid (World.drewN _ nq = W1) := hW
      clear hW ON OV hB hB' HW hl1 hl2
      go_wp2_with (first
        | (at_builtin
           refine wp_appFm rfl _ _ rfl w.heap.size (.slice (some ⟨gN, 0, none⟩) (1 + 2 * k) cN) nb (1 + 2 * (k + 1)) (by rw [HL1.out]; omega) rfl (ON1.alloc _) (x.1 / 65536) (x.2 / 65536 + 1) W1.heap.size rfl (by simp [go_sem]) (by simp [go_sem]) (by rw [HL1.out]; omega) (by simp; omega) ?_
           intro g3 cap3 w3 how3 hB3 hg31 hg32 hgg hoth
           have OV3 : OwnF w.heap.size w3 (.slice (some ⟨gV, 0, none⟩) (1 + 2 * k) cV) vb := (OV1.alloc _).keptAt (hoth gV (by have := OV1.lt; simp; omega) (by simp [Value.ownBlock]; exact hne))
           have B3 : Below w.heap.size w w3 := (B1.alloc hB1 _).trans hB3
           have hne3 : g3 ≠ gV := by
             have := OV1.lt
             rcases hgg with h | h
             · simp [Value.ownBlock] at h; omega
             · simp at h; omega
           have hB3' := B3.size
           clear hoth hgg ON1 OV1 B1 hB3)
        | (at_builtin
           refine wp_appFm rfl _ _ rfl w.heap.size (.slice (some ⟨gV, 0, none⟩) (1 + 2 * k) cV) vb (1 + 2 * (k + 1)) (by rw [HL2.out]; omega) rfl (OV3.alloc _) (x.1 % 65536) (x.2 % 65536 + 1) w3.heap.size rfl (by simp [go_sem]) (by simp [go_sem]) (by rw [HL2.out]; omega) (by simp; omega) ?_
           intro g4 cap4 w4 how4 hB4 hg41 hg42 hgg4 hoth4))
      have ON4 : OwnF w.heap.size w4 (.slice (some ⟨g3, 0, none⟩) (1 + 2 * (k + 1)) cap3) (nb ++ [x.1 / 65536, x.2 / 65536 + 1]) := (how3.alloc _).keptAt (hoth4 g3 (by simp; omega) (by simp [Value.ownBlock]; omega))
      have B4 : Below w.heap.size w w4 := (B3.alloc hB3' _).trans hB4
      have hne4 : g3 ≠ g4 := by
        rcases hgg4 with h | h
        · simp [Value.ownBlock] at h; omega
        · simp at h; omega
      rw [← HN.out] at ON4
      rw [← HV2.out] at how4
      go_roundw
      case rel => exact ⟨k + 1, g3, cap3, g4, cap4, by omega, by go_num, rfl, rfl, hne4, ON4, how4, B4⟩
      case measure => simp [intOf]; omega
    · have hke : k = l.length := by omega
      subst hke
      rw [List.take_length] at ON OV
      have hlN := cutL_length hiP l
      have hlV := cutL_length loP l
      have hrN := cutL_rng (good_hi2 HG.out)
      have hrV := cutL_rng (good_lo2 HG.out)
      have hHN := ON.holds (by simp [cutL]) hrN
      have hHV := OV.holds (by simp [cutL]) hrV
      obtain ⟨gN', cN', hvN, _, hgN, hcN, _, _⟩ := ON.shape (by simp [cutL])
      obtain ⟨gV', cV', hvV, _, hgV, hcV, _, _⟩ := OV.shape (by simp [cutL])
      simp at hvN hvV
      obtain ⟨rfl, hq1, rfl⟩ := hvN
      obtain ⟨rfl, hq2, rfl⟩ := hvV
      clear hq1 hq2
      have hw1 := within_any gN cN ((cutL hiP l).map toF).toArray wr hHN hgN (by simp; omega) (by simp; omega)
      have sN : ((cutL hiP l).map toF).toArray.size = 1 + 2 * l.length := by simp; omega
      have sV : ((cutL loP l).map toF).toArray.size = 1 + 2 * l.length := by simp; omega
      rw [sN] at hw1
      have HON := ON.lt
      have HOV := OV.lt
      have HSV : Hid (((cutL loP l).map toF).toArray.size = 1 + 2 * l.length) := sV
      have hcV2 : 1 + 2 * l.length ≤ cV := by omega
      clear hc hHN hgN ON sN sV hlN hlV hcN hcV
      go_wp2_with fail
      refine hw1.mono ?_
      rintro e w1 ⟨r, rfl, r1, r2, r3, r4, G1⟩
      have hs1 := G1.size
      have hHV1 : Holds fv w1 gV 0 ((cutL loP l).map toF).toArray := (OV.keptAt (G1.block gV hgV (by simp; omega))).holds (by simp [cutL]) hrV
      have hw2 := within_any gV cV ((cutL loP l).map toF).toArray w1 hHV1 (by omega) (by rw [HSV.out]; omega) (by rw [HSV.out]; omega)
      rw [HSV.out] at hw2
      have hBX := begs_of_cut (good_hi2 HG.out) r1 r2
      clear hw1 hHV hHV1
      go_wp2_with fail
      refine hw2.mono ?_
      rintro e w2 ⟨t, rfl, t1, t2, t3, t4, G2⟩
      have hs2 := G2.size
      have hBY := begs_of_cut (good_lo2 HG.out) t1 t2
      have BF : Below w.heap.size w w2 := (hB.grown G1 hB' (fun q hq => by cases hq; exact HON.1)).grown G2 (by omega) (fun q hq => by cases hq; exact HOV.1)
      clear hw2
      go_wp2_with fail
      go_ret2
      refine ⟨r.map fun x => ((x.val : Nat) : Int), t.map fun x => ((x.val : Nat) : Int), gN, cN, gV, cV, by simp, hBX, hBY, by simp; omega, by simp; omega, by omega, by omega, fun i x hx => ?_, fun i x hx => ?_, BF⟩
      · rw [List.getElem?_map] at hx
        obtain ⟨y, hy, rfl⟩ := Option.map_eq_some_iff.1 hx
        rw [World.cell?_of_block (w := w1) (a := ⟨gN, i, none⟩) (G2.block gN (by omega) (by simp; omega))]
        exact r4 i y hy
      · rw [List.getElem?_map] at hx
        obtain ⟨y, hy, rfl⟩ := Option.map_eq_some_iff.1 hx
        exact t4 i y hy
end Go.Proofs.Ytepioggejacfjaa
