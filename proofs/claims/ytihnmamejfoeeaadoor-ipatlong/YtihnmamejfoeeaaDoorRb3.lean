/-
  Walks: item.
-/
import Derived.Test.YtihnmamejfoeeaaDoorRb2
namespace Go.Proofs.YtihnmamejfoeeaaDoor
open Go.RowKit

set_option maxRecDepth 100000 in
set_option maxHeartbeats 1000000 in
theorem star_P {P : Nat → Prop} {t : Tree} {x : PC} {w : World} (hP : ∀ g, P g → g < w.heap.size) (hx : HO P w t x) :
    Calls Tryd.prog 30 #[x.v] w fun e w' => ∃ r : PC, e = .returned r.v ∧ HO (fun g => P g ∨ (w.heap.size ≤ g ∧ g < w'.heap.size)) w' (stT t) r ∧ Below w.heap.size w w' := by
  have HX : Hid (HO P w t x) := hx
  have HPp : Hid (∀ g, P g → g < w.heap.size) := hP
  obtain ⟨xk, ⟨x1, x2, x3⟩, x4, x5, x6⟩ := x
  clear hx hP
  go_enter Tryd.func30, Tryd.ntmps30
  go_wp2_with fail
  refine bodyPost_ret (v := PC.v ⟨4, ⟨none, 0, 0⟩, ⟨some ⟨w.heap.size + 1 + 1, 0, none⟩, 1, 1⟩⟩) ?_ rfl ⟨_, rfl, ?_, bstep (bstep (bel_alloc _ _) (bel_alloc _ _)) (bel_alloc _ _)⟩
  · simp [results, Tryd.results30]
    exact run_ptv (x := ⟨4, ⟨none, 0, 0⟩, ⟨some ⟨w.heap.size + 1 + 1, 0, none⟩, 1, 1⟩⟩) ((Blk.new' _ _ _ _ (by simp)).alloc _)
  · exact HO_sub1 (HO.same (fun _ h => Or.inl h) (fun g hg => (bstep (bstep (bel_alloc _ _) (bel_alloc _ _)) (bel_alloc _ _)).block g (HPp.out g hg)) HX.out) (Blk.new' _ _ _ _ (by simp)) rfl (Or.inr ⟨by omega, by simp⟩)

/-- Between the signs: the pattern lies in block b3. -/
structure IX (s : ByteArray) (b : Nat) (w : World) (b3 i : Nat) (wr ou fu : Bool) (t : Tree) (x : PC) (W : World) : Prop where
  ax : AX s b w i wr ou fu W
  me : Blk W b3 (encT x).toArray 25
  ho : HO (fun g => w.heap.size + 1 ≤ g ∧ g < W.heap.size ∧ g ≠ b3) W t x
  hb3 : w.heap.size < b3
  rt : rightT t = true
  le : i ≤ s.size
theorem IX.go {s : ByteArray} {b : Nat} {w : World} {b3 i i' : Nat} {wr ou fu wr' ou' fu' : Bool} {t : Tree} {x : PC} {W W' : World} (h : IX s b w b3 i wr ou fu t x W) (g : Ex b W W') (hb : BlkR W' b s i' wr' ou' fu') (hi : i' ≤ s.size) : IX s b w b3 i' wr' ou' fu' t x W' :=
  ⟨h.ax.go g hb, Blk.ex g h.me (by have := h.ax.lt; have := h.hb3; omega), HO.same (fun _ h1 => ⟨h1.1, Nat.lt_of_lt_of_le h1.2.1 g.size, h1.2.2⟩) (fun q h1 => g.block q h1.2.1 (by have := h.ax.lt; omega)) h.ho, h.hb3, h.rt, hi⟩
theorem IX.step {s : ByteArray} {b : Nat} {w : World} {b3 i : Nat} {wr ou fu fu' : Bool} {t t' : Tree} {x r : PC} {W W' : World} (h : IX s b w b3 i wr ou fu t x W) (g : Ex b W W') (hb : BlkR W' b s i wr ou fu') (hr : HO (fun g => w.heap.size + 1 ≤ g ∧ g < W'.heap.size ∧ g ≠ b3) W' t' r) (hk : rightT t' = true) :
    IX s b w b3 i wr ou fu' t' r (((W'.setCell ⟨b3, 0, none⟩ (.int .i64 r.k)).setCell ⟨b3, 1, none⟩ (.slice r.s.a r.s.n r.s.c)).setCell ⟨b3, 2, none⟩ (.slice r.b.a r.b.n r.b.c)) := by
  have h1 := h.ax.go g hb
  have hlt := h.ax.lt
  have h3 := h.hb3
  have hm := Blk.ex g h.me (by omega : b3 ≠ b)
  refine ⟨⟨set3_ex h1.ex (by omega) _ _ _, h1.res.set3 (by omega) _ _ _, h1.rd.set3 (by omega) _ _ _, hlt⟩, ?_, ?_, h3, hk, h.le⟩
  · exact blk_put3 hm r
  · exact HO.same (fun q hq => ⟨hq.1, by simpa using hq.2.1, hq.2.2⟩) (fun q hq => heap_set3 hq.2.2 _ _ _) hr
theorem IX.start {s : ByteArray} {b : Nat} {w : World} {i : Nat} {wr ou fu : Bool} {t : Tree} {r : PC} {W : World} (h : AX s b w i wr ou fu W) (hr : HO (fun g => w.heap.size + 1 ≤ g ∧ g < W.heap.size) W t r) (hk : rightT t = true) (hi : i ≤ s.size) :
    IX s b w W.heap.size i wr ou fu t r (W.alloc (.cells #[.int .i64 r.k, .slice r.s.a r.s.n r.s.c, .slice r.b.a r.b.n r.b.c] 25)) :=
  ⟨h.bel (bel_alloc _ _), Blk.new _ _ _, HO.same (fun q hq => ⟨hq.1, by simp; omega, by omega⟩) (fun q hq => (bel_alloc _ _).block q hq.2) hr, h.res.lt, hk, hi⟩
theorem IX.held {s : ByteArray} {b : Nat} {w : World} {b3 i : Nat} {wr ou fu : Bool} {t : Tree} {x : PC} {W : World} (h : IX s b w b3 i wr ou fu t x W) : HT W t x := h.ho.held

/-- What is left to be read behind an atom, between the signs. -/
def SignD (s : ByteArray) (wr0 ou0 fu0 : Bool) (M : Option Rd) (t : Tree) (i : Nat) (wr ou fu : Bool) : Prop :=
  (wr0 = true → wr = true) ∧ (wr0 = false → (M = none ∧ wr = true) ∨ (wr = false ∧ ∃ o f, ou = (ou0 || o) ∧ fu = (fu0 || f) ∧ M = some ⟨(signsM (s.data.toList.drop i) t f).1, o, (signsM (s.data.toList.drop i) t f).2.1, (signsM (s.data.toList.drop i) t f).2.2⟩))

theorem SignD.start {s : ByteArray} {alt : Bs → Option Rd} {r : Bs} {t : Tree} {i : Nat} {wr0 ou0 fu0 wr ou fu : Bool} (h : Does s wr0 ou0 fu0 (atomM alt r) t i wr ou fu) : SignD s wr0 ou0 fu0 (itemM alt r) t i wr ou fu := by
  refine ⟨h.1, fun hw => ?_⟩
  rcases h.2 hw with ⟨h1, h2⟩ | ⟨x, h1, h2, h3, h4, h5, h6⟩
  · left; unfold itemM; rw [h1]; exact ⟨rfl, h2⟩
  · right
    refine ⟨h2, x.o, x.f, h5, h6, ?_⟩
    unfold itemM
    rw [h1, h3, h4]
theorem SignD.fin {s : ByteArray} {M : Option Rd} {t : Tree} {i : Nat} {wr0 ou0 fu0 wr ou fu : Bool} (h : SignD s wr0 ou0 fu0 M t i wr ou fu) (h1 : headIs 42 (s.data.toList.drop i) = false) (h2 : headIs 43 (s.data.toList.drop i) = false) (h3 : headIs 63 (s.data.toList.drop i) = false) : Does s wr0 ou0 fu0 M t i wr ou fu := by
  refine ⟨h.1, fun hw => ?_⟩
  rcases h.2 hw with h4 | ⟨h4, o, f, h5, h6, h7⟩
  · exact Or.inl h4
  · right
    have hs : signsM (s.data.toList.drop i) t f = (t, f, s.data.toList.drop i) := by
      cases e : s.data.toList.drop i with
      | nil => rw [signsM]
      | cons c r =>
        rw [e] at h1 h2 h3
        simp [headIs_cons] at h1 h2 h3
        rw [signsM, if_neg h1, if_neg h2, if_neg h3]
    rw [hs] at h7
    exact ⟨_, h7, h4, rfl, rfl, h5, h6⟩
theorem SignD.step {s : ByteArray} {M : Option Rd} {t : Tree} {i : Nat} {wr0 ou0 fu0 wr ou fu : Bool} {c : UInt8} {F : Tree → Tree} (hF : ∀ r t f, signsM (c :: r) t f = signsM r (keptM (F t)).1 (f || (keptM (F t)).2)) (h : SignD s wr0 ou0 fu0 M t i wr ou fu) (h1 : headIs c (s.data.toList.drop i) = true) : SignD s wr0 ou0 fu0 M (keptM (F t)).1 (i + 1) wr ou (fu || (keptM (F t)).2) := by
  refine ⟨h.1, fun hw => ?_⟩
  rcases h.2 hw with h4 | ⟨h4, o, f, h5, h6, h7⟩
  · exact Or.inl h4
  · right
    rw [(headIs_drop h1).1, hF] at h7
    exact ⟨h4, o, f || (keptM (F t)).2, h5, by rw [h6, Bool.or_assoc], h7⟩
theorem signs_42 (r : Bs) (t : Tree) (f : Bool) : signsM (42 :: r) t f = signsM r (keptM (stT t)).1 (f || (keptM (stT t)).2) := by rw [signsM, if_pos rfl]
theorem signs_43 (r : Bs) (t : Tree) (f : Bool) : signsM (43 :: r) t f = signsM r (keptM (plusT t)).1 (f || (keptM (plusT t)).2) := by rw [signsM, if_neg (by decide), if_pos rfl]
theorem signs_63 (r : Bs) (t : Tree) (f : Bool) : signsM (63 :: r) t f = signsM r (keptM (optT t)).1 (f || (keptM (optT t)).2) := by rw [signsM, if_neg (by decide), if_neg (by decide), if_pos rfl]

set_option maxRecDepth 100000 in
set_option maxHeartbeats 8000000 in
theorem item_any {s : ByteArray} {b n : Nat} {alt : Bs → Option Rd} (hs : s.size ≤ 3000) (ka : CA s b 66 (atomM alt) n) : CA s b 57 (itemM alt) n := by
  intro i wr ou fu w hi hlim hb
  have HA := AX.start hb
  have HS : Hid (s.size ≤ 3000) := hs
  have HKA := ka i wr ou fu _ hi hlim HA.rd
  have kN : ∀ (c : UInt8) (b3 j : Nat) (wr' ou' fu' : Bool) (t : Tree) (x : PC) (W : World), headIs c (s.data.toList.drop j) = false → IX s b w b3 j wr' ou' fu' t x W → Calls Tryd.prog 27 #[.pointer (some ⟨b, 0, none⟩), .int .u8 c.toNat] W fun e w' => e = .returned (.bool false) ∧ IX s b w b3 j wr' ou' fu' t x w' := fun c b3 j wr' ou' fu' t x W h a => (took_no a.le a.ax.rd h).mono fun _ _ h => ⟨h.1, a.go (.of_gr h.2) (a.ax.rd.gr h.2) a.le⟩
  have kY : ∀ (c : UInt8) (b3 j : Nat) (wr' ou' fu' : Bool) (t : Tree) (x : PC) (W : World), headIs c (s.data.toList.drop j) = true → IX s b w b3 j wr' ou' fu' t x W → Calls Tryd.prog 27 #[.pointer (some ⟨b, 0, none⟩), .int .u8 c.toNat] W fun e w' => e = .returned (.bool true) ∧ IX s b w b3 (j + 1) wr' ou' fu' t x w' := fun c b3 j wr' ou' fu' t x W h a => (took_yes hs a.ax.rd h).mono fun _ _ h' => ⟨h'.1, a.go h'.2.1 h'.2.2 (headIs_drop h).2⟩
  generalize hW : w.alloc (.cells #[.int .i64 0, .slice none 0 0, .slice none 0 0] 25) = W0 at HA HKA
  have HI : Hid (AX s b w i wr ou fu W0) := HA
  clear hb HA hi hs ka hlim
  go_enter Tryd.func57, Tryd.ntmps57
  go_upto_region 1 with fail
  clear hW
  go_wp2_with (go_at_call 66; refine HKA.mono ?_; rintro _ w4 ⟨⟨r0, ⟨r1, r2, r3⟩, r4, r5, r6⟩, t4, i4, wr4, ou4, fu4, rfl, ho4, hk4, ex4, b4, le4, le5, d4⟩; have I4 : Hid (IX s b w w4.heap.size i4 wr4 ou4 fu4 t4 ⟨r0, ⟨r1, r2, r3⟩, r4, r5, r6⟩ (w4.alloc (.cells #[.int .i64 r0, .slice r1 r2 r3, .slice r4 r5 r6] 25))) := IX.start (HI.out.go ex4 b4) (ho4.low (by have := HI.out.res.lt; omega)) hk4 le5; have D4 : Hid (SignD s wr ou fu (itemM alt (s.data.toList.drop i)) t4 i4 wr4 ou4 fu4) := SignD.start d4; have L4 : Hid (i ≤ i4) := le4; clear ho4 hk4 ex4 b4 le4 le5 d4)
  generalize w4.heap.size = b3 at I4 ⊢
  go_loopw [7] (fun _ wr0 => ∃ (i5 : Nat) (wr5 ou5 fu5 : Bool) (t5 : Tree) (x5 : PC), Hid (IX s b w b3 i5 wr5 ou5 fu5 t5 x5 wr0) ∧ Hid (SignD s wr ou fu (itemM alt (s.data.toList.drop i)) t5 i5 wr5 ou5 fu5) ∧ Hid (i ≤ i5)) (fun _ wr0 => s.size - posOf b wr0)
  case atStart => exact ⟨i4, wr4, ou4, fu4, t4, _, I4, D4, L4⟩
  case round =>
    clear I4 D4 L4 HKA HI
    obtain ⟨i5, wr5, ou5, fu5, t5, ⟨q0, ⟨q1, q2, q3⟩, q4, q5, q6⟩, I5, D5, L5⟩ := hrel
    have HP : Hid (posOf b _ = i5) := posOf_blk I5.out.ax.rd
    cases h42 : headIs 42 (s.data.toList.drop i5) with
    | true =>
      have kY42 : ∀ W, IX s b w b3 i5 wr5 ou5 fu5 t5 ⟨q0, ⟨q1, q2, q3⟩, q4, q5, q6⟩ W → Calls Tryd.prog 27 #[.pointer (some ⟨b, 0, none⟩), .int .u8 42] W fun e w' => e = .returned (.bool true) ∧ IX s b w b3 (i5 + 1) wr5 ou5 fu5 t5 ⟨q0, ⟨q1, q2, q3⟩, q4, q5, q6⟩ w' := fun W a => kY 42 _ _ _ _ _ _ _ W h42 a
      clear kN kY
      go_wp2_with (first
        | (go_at_call 27; (with_reducible refine (kY42 _ I5.out).mono ?_); rintro _ w7 ⟨rfl, a2⟩; have I7 : Hid (IX s b w b3 (i5 + 1) wr5 ou5 fu5 t5 ⟨q0, ⟨q1, q2, q3⟩, q4, q5, q6⟩ w7) := a2; obtain ⟨m0, m1, m2⟩ := BlkT.cs I7.out.me; simp only at m0 m1 m2; have mf := I7.out.me.frozen; have ml := I7.out.me.lt; clear a2)
        | (go_at_call 30; refine (star_P (P := fun g => w.heap.size + 1 ≤ g ∧ g < w7.heap.size ∧ g ≠ b3) (fun g hg => hg.2.1) I7.out.ho).mono ?_; rintro _ w8 ⟨⟨u0, ⟨u1, u2, u3⟩, u4, u5, u6⟩, rfl, ho8, bb8⟩; have I8 : Hid (IX s b w b3 (i5 + 1) wr5 ou5 fu5 t5 ⟨q0, ⟨q1, q2, q3⟩, q4, q5, q6⟩ w8) := I7.out.go (.of_bel bb8) (I7.out.ax.rd.bel bb8) I7.out.le; have H8 : Hid (HO (fun g => w.heap.size + 1 ≤ g ∧ g < w8.heap.size ∧ g ≠ b3) w8 (stT t5) ⟨u0, ⟨u1, u2, u3⟩, u4, u5, u6⟩) := ho8.imp' (by intro g hg; have h1 := bb8.size; have h2 := I7.out.me.lt; have h3 := I7.out.hb3; omega); clear ho8 bb8)
        | (go_at_call 32; refine (kept_any (P := fun g => w.heap.size + 1 ≤ g ∧ g < w8.heap.size ∧ g ≠ b3) I8.out.ax.rd (ok_st I8.out.rt) (fun g hg => hg.2.1) H8.out).mono ?_; rintro _ w9 ⟨⟨p0, ⟨p1, p2, p3⟩, p4, p5, p6⟩, rfl, ho9, ex9, b9⟩; have S9 : Hid (IX s b w b3 (i5 + 1) wr5 ou5 (fu5 || (keptM (stT t5)).2) (keptM (stT t5)).1 ⟨p0, ⟨p1, p2, p3⟩, p4, p5, p6⟩ (((w9.setCell ⟨b3, 0, none⟩ (.int .i64 p0)).setCell ⟨b3, 1, none⟩ (.slice p1 p2 p3)).setCell ⟨b3, 2, none⟩ (.slice p4 p5 p6))) := I8.out.step ex9 b9 (ho9.imp' (fun g hg => ⟨hg.1, Nat.lt_of_lt_of_le hg.2.1 ex9.size, hg.2.2⟩)) (right_kept _); have M9 : Hid (Blk w9 b3 (encT ⟨q0, ⟨q1, q2, q3⟩, q4, q5, q6⟩).toArray 25) := Blk.ex ex9 I8.out.me (by have := I8.out.ax.lt; have := I8.out.hb3; omega); obtain ⟨n0, n1, n2⟩ := BlkT.cs M9.out; have nf := M9.out.frozen; clear ho9 ex9 b9))
      generalize hW10 : World.setCell _ _ _ = W10 at S9 ⊢
      have S10 : Hid (IX s b w b3 (i5 + 1) wr5 ou5 (fu5 || (keptM (stT t5)).2) (keptM (stT t5)).1 ⟨p0, ⟨p1, p2, p3⟩, p4, p5, p6⟩ W10) := S9.out
      clear hW10 S9
      go_roundw
      case rel => exact ⟨i5 + 1, wr5, ou5, _, _, _, S10, SignD.step (c := 42) (F := stT) signs_42 D5.out h42, by have := L5.out; exact (by omega : i ≤ i5 + 1)⟩
      case measure => rw [posOf_blk S10.out.ax.rd, HP.out]; have := (headIs_drop h42).2; omega
    | false =>
    cases h43 : headIs 43 (s.data.toList.drop i5) with
    | true =>
      have kN42 : ∀ W, IX s b w b3 i5 wr5 ou5 fu5 t5 ⟨q0, ⟨q1, q2, q3⟩, q4, q5, q6⟩ W → Calls Tryd.prog 27 #[.pointer (some ⟨b, 0, none⟩), .int .u8 42] W fun e w' => e = .returned (.bool false) ∧ IX s b w b3 i5 wr5 ou5 fu5 t5 ⟨q0, ⟨q1, q2, q3⟩, q4, q5, q6⟩ w' := fun W a => kN 42 _ _ _ _ _ _ _ W h42 a
      have kY43 : ∀ W, IX s b w b3 i5 wr5 ou5 fu5 t5 ⟨q0, ⟨q1, q2, q3⟩, q4, q5, q6⟩ W → Calls Tryd.prog 27 #[.pointer (some ⟨b, 0, none⟩), .int .u8 43] W fun e w' => e = .returned (.bool true) ∧ IX s b w b3 (i5 + 1) wr5 ou5 fu5 t5 ⟨q0, ⟨q1, q2, q3⟩, q4, q5, q6⟩ w' := fun W a => kY 43 _ _ _ _ _ _ _ W h43 a
      clear kN kY
      go_wp2_with (first
        | (go_at_call 27; (with_reducible refine (kN42 _ I5.out).mono ?_); rintro _ w6 ⟨rfl, a2⟩; have I6 : Hid (IX s b w b3 i5 wr5 ou5 fu5 t5 ⟨q0, ⟨q1, q2, q3⟩, q4, q5, q6⟩ w6) := a2; obtain ⟨m0, m1, m2⟩ := BlkT.cs I6.out.me; clear a2)
        | (go_at_call 27; (with_reducible refine (kY43 _ I6.out).mono ?_); rintro _ w7 ⟨rfl, a2⟩; have I7 : Hid (IX s b w b3 (i5 + 1) wr5 ou5 fu5 t5 ⟨q0, ⟨q1, q2, q3⟩, q4, q5, q6⟩ w7) := a2; obtain ⟨m0, m1, m2⟩ := BlkT.cs I7.out.me; simp only at m0 m1 m2; have mf := I7.out.me.frozen; have ml := I7.out.me.lt; clear a2)
        | (go_at_call 67; refine (again_P I7.out.ax.rd I7.out.rt I7.out.held).mono ?_; rintro _ w9 ⟨⟨p0, ⟨p1, p2, p3⟩, p4, p5, p6⟩, rfl, ho9, ex9, b9⟩; have S9 : Hid (IX s b w b3 (i5 + 1) wr5 ou5 (fu5 || (keptM (plusT t5)).2) (keptM (plusT t5)).1 ⟨p0, ⟨p1, p2, p3⟩, p4, p5, p6⟩ (((w9.setCell ⟨b3, 0, none⟩ (.int .i64 p0)).setCell ⟨b3, 1, none⟩ (.slice p1 p2 p3)).setCell ⟨b3, 2, none⟩ (.slice p4 p5 p6))) := I7.out.step ex9 b9 (ho9.imp' (by intro g hg; have h2 := I7.out.me.lt; have h3 := I7.out.hb3; omega)) (right_kept _); have M9 : Hid (Blk w9 b3 (encT ⟨q0, ⟨q1, q2, q3⟩, q4, q5, q6⟩).toArray 25) := Blk.ex ex9 I7.out.me (by have := I7.out.ax.lt; have := I7.out.hb3; omega); obtain ⟨n0, n1, n2⟩ := BlkT.cs M9.out; have nf := M9.out.frozen; clear ho9 ex9 b9))
      generalize hW10 : World.setCell _ _ _ = W10 at S9 ⊢
      have S10 : Hid (IX s b w b3 (i5 + 1) wr5 ou5 (fu5 || (keptM (plusT t5)).2) (keptM (plusT t5)).1 ⟨p0, ⟨p1, p2, p3⟩, p4, p5, p6⟩ W10) := S9.out
      clear hW10 S9
      go_roundw
      case rel => exact ⟨i5 + 1, wr5, ou5, _, _, _, S10, SignD.step (c := 43) (F := plusT) signs_43 D5.out h43, by have := L5.out; exact (by omega : i ≤ i5 + 1)⟩
      case measure => rw [posOf_blk S10.out.ax.rd, HP.out]; have := (headIs_drop h43).2; omega
    | false =>
    cases h63 : headIs 63 (s.data.toList.drop i5) with
    | true =>
      have kN42 : ∀ W, IX s b w b3 i5 wr5 ou5 fu5 t5 ⟨q0, ⟨q1, q2, q3⟩, q4, q5, q6⟩ W → Calls Tryd.prog 27 #[.pointer (some ⟨b, 0, none⟩), .int .u8 42] W fun e w' => e = .returned (.bool false) ∧ IX s b w b3 i5 wr5 ou5 fu5 t5 ⟨q0, ⟨q1, q2, q3⟩, q4, q5, q6⟩ w' := fun W a => kN 42 _ _ _ _ _ _ _ W h42 a
      have kN43 : ∀ W, IX s b w b3 i5 wr5 ou5 fu5 t5 ⟨q0, ⟨q1, q2, q3⟩, q4, q5, q6⟩ W → Calls Tryd.prog 27 #[.pointer (some ⟨b, 0, none⟩), .int .u8 43] W fun e w' => e = .returned (.bool false) ∧ IX s b w b3 i5 wr5 ou5 fu5 t5 ⟨q0, ⟨q1, q2, q3⟩, q4, q5, q6⟩ w' := fun W a => kN 43 _ _ _ _ _ _ _ W h43 a
      have kY63 : ∀ W, IX s b w b3 i5 wr5 ou5 fu5 t5 ⟨q0, ⟨q1, q2, q3⟩, q4, q5, q6⟩ W → Calls Tryd.prog 27 #[.pointer (some ⟨b, 0, none⟩), .int .u8 63] W fun e w' => e = .returned (.bool true) ∧ IX s b w b3 (i5 + 1) wr5 ou5 fu5 t5 ⟨q0, ⟨q1, q2, q3⟩, q4, q5, q6⟩ w' := fun W a => kY 63 _ _ _ _ _ _ _ W h63 a
      clear kN kY
      go_wp2_with (first
        | (go_at_call 27; (with_reducible refine (kN42 _ I5.out).mono ?_); rintro _ w1 ⟨rfl, a2⟩; have I1 : Hid (IX s b w b3 i5 wr5 ou5 fu5 t5 ⟨q0, ⟨q1, q2, q3⟩, q4, q5, q6⟩ w1) := a2; obtain ⟨m0, m1, m2⟩ := BlkT.cs I1.out.me; clear a2)
        | (go_at_call 27; (with_reducible refine (kN43 _ I1.out).mono ?_); rintro _ w6 ⟨rfl, a2⟩; have I6 : Hid (IX s b w b3 i5 wr5 ou5 fu5 t5 ⟨q0, ⟨q1, q2, q3⟩, q4, q5, q6⟩ w6) := a2; obtain ⟨m0, m1, m2⟩ := BlkT.cs I6.out.me; clear a2)
        | (go_at_call 27; (with_reducible refine (kY63 _ I6.out).mono ?_); rintro _ w7 ⟨rfl, a2⟩; have I7 : Hid (IX s b w b3 (i5 + 1) wr5 ou5 fu5 t5 ⟨q0, ⟨q1, q2, q3⟩, q4, q5, q6⟩ w7) := a2; obtain ⟨m0, m1, m2⟩ := BlkT.cs I7.out.me; simp only at m0 m1 m2; have mf := I7.out.me.frozen; have ml := I7.out.me.lt; clear a2)
        | (have I8 : Hid (IX s b w b3 (i5 + 1) wr5 ou5 fu5 t5 ⟨q0, ⟨q1, q2, q3⟩, q4, q5, q6⟩ (w7.alloc (.cells #[.int .i64 q0, .slice q1 q2 q3, .slice q4 q5 q6, .int .i64 2, .slice none 0 0, .slice none 0 0] 25))) := I7.out.go (.of_bel (bel_alloc _ _)) (I7.out.ax.rd.alloc _) I7.out.le; go_at_call 32; refine (kept_any (P := fun g => w.heap.size + 1 ≤ g ∧ g < (w7.alloc (.cells #[.int .i64 q0, .slice q1 q2 q3, .slice q4 q5 q6, .int .i64 2, .slice none 0 0, .slice none 0 0] 25)).heap.size ∧ g ≠ b3) I8.out.ax.rd (ok_opt I8.out.rt) (fun g hg => hg.2.1) (HO_sub2 I8.out.ho (HO_none 2) (Blk.new _ _ _) rfl ⟨by have := I7.out.me.lt; have := I7.out.hb3; omega, by simp, by have := I7.out.me.lt; omega⟩)).mono ?_; rintro _ w9 ⟨⟨p0, ⟨p1, p2, p3⟩, p4, p5, p6⟩, rfl, ho9, ex9, b9⟩; have S9 : Hid (IX s b w b3 (i5 + 1) wr5 ou5 (fu5 || (keptM (optT t5)).2) (keptM (optT t5)).1 ⟨p0, ⟨p1, p2, p3⟩, p4, p5, p6⟩ (((w9.setCell ⟨b3, 0, none⟩ (.int .i64 p0)).setCell ⟨b3, 1, none⟩ (.slice p1 p2 p3)).setCell ⟨b3, 2, none⟩ (.slice p4 p5 p6))) := I8.out.step ex9 b9 (ho9.imp' (fun g hg => ⟨hg.1, Nat.lt_of_lt_of_le hg.2.1 ex9.size, hg.2.2⟩)) (right_kept _); have M9 : Hid (Blk w9 b3 (encT ⟨q0, ⟨q1, q2, q3⟩, q4, q5, q6⟩).toArray 25) := Blk.ex ex9 I8.out.me (by have := I8.out.ax.lt; have := I8.out.hb3; omega); obtain ⟨n0, n1, n2⟩ := BlkT.cs M9.out; have nf := M9.out.frozen; clear ho9 ex9 b9))
      generalize hW10 : World.setCell _ _ _ = W10 at S9 ⊢
      have S10 : Hid (IX s b w b3 (i5 + 1) wr5 ou5 (fu5 || (keptM (optT t5)).2) (keptM (optT t5)).1 ⟨p0, ⟨p1, p2, p3⟩, p4, p5, p6⟩ W10) := S9.out
      clear hW10 S9
      go_roundw
      case rel => exact ⟨i5 + 1, wr5, ou5, _, _, _, S10, SignD.step (c := 63) (F := optT) signs_63 D5.out h63, by have := L5.out; exact (by omega : i ≤ i5 + 1)⟩
      case measure => rw [posOf_blk S10.out.ax.rd, HP.out]; have := (headIs_drop h63).2; omega
    | false =>
      have kN42 : ∀ W, IX s b w b3 i5 wr5 ou5 fu5 t5 ⟨q0, ⟨q1, q2, q3⟩, q4, q5, q6⟩ W → Calls Tryd.prog 27 #[.pointer (some ⟨b, 0, none⟩), .int .u8 42] W fun e w' => e = .returned (.bool false) ∧ IX s b w b3 i5 wr5 ou5 fu5 t5 ⟨q0, ⟨q1, q2, q3⟩, q4, q5, q6⟩ w' := fun W a => kN 42 _ _ _ _ _ _ _ W h42 a
      have kN43 : ∀ W, IX s b w b3 i5 wr5 ou5 fu5 t5 ⟨q0, ⟨q1, q2, q3⟩, q4, q5, q6⟩ W → Calls Tryd.prog 27 #[.pointer (some ⟨b, 0, none⟩), .int .u8 43] W fun e w' => e = .returned (.bool false) ∧ IX s b w b3 i5 wr5 ou5 fu5 t5 ⟨q0, ⟨q1, q2, q3⟩, q4, q5, q6⟩ w' := fun W a => kN 43 _ _ _ _ _ _ _ W h43 a
      have kN63 : ∀ W, IX s b w b3 i5 wr5 ou5 fu5 t5 ⟨q0, ⟨q1, q2, q3⟩, q4, q5, q6⟩ W → Calls Tryd.prog 27 #[.pointer (some ⟨b, 0, none⟩), .int .u8 63] W fun e w' => e = .returned (.bool false) ∧ IX s b w b3 i5 wr5 ou5 fu5 t5 ⟨q0, ⟨q1, q2, q3⟩, q4, q5, q6⟩ w' := fun W a => kN 63 _ _ _ _ _ _ _ W h63 a
      clear kN kY
      go_wp2_with (first
        | (go_at_call 27; (with_reducible refine (kN42 _ I5.out).mono ?_); rintro _ w1 ⟨rfl, a2⟩; have I1 : Hid (IX s b w b3 i5 wr5 ou5 fu5 t5 ⟨q0, ⟨q1, q2, q3⟩, q4, q5, q6⟩ w1) := a2; obtain ⟨m0, m1, m2⟩ := BlkT.cs I1.out.me; clear a2)
        | (go_at_call 27; (with_reducible refine (kN43 _ I1.out).mono ?_); rintro _ w6 ⟨rfl, a2⟩; have I6 : Hid (IX s b w b3 i5 wr5 ou5 fu5 t5 ⟨q0, ⟨q1, q2, q3⟩, q4, q5, q6⟩ w6) := a2; obtain ⟨m0, m1, m2⟩ := BlkT.cs I6.out.me; clear a2)
        | (go_at_call 27; (with_reducible refine (kN63 _ I6.out).mono ?_); rintro _ w7 ⟨rfl, a2⟩; have I7 : Hid (IX s b w b3 i5 wr5 ou5 fu5 t5 ⟨q0, ⟨q1, q2, q3⟩, q4, q5, q6⟩ w7) := a2; obtain ⟨m0, m1, m2⟩ := BlkT.cs I7.out.me; simp only at m0 m1 m2; obtain ⟨y0, y1, y2⟩ := BlkT.cs I7.out.ax.res; have z0 := I7.out.ax.res.frozen; clear a2))
      refine bodyPost_ret (v := PC.v ⟨q0, ⟨q1, q2, q3⟩, ⟨q4, q5, q6⟩⟩) ?_ rfl (I7.out.ax.fin (I7.out.ho.imp' (fun g hg => ⟨hg.1, hg.2.1⟩)) I7.out.rt L5.out I7.out.le (D5.out.fin h42 h43 h63) _ _ _)
      simp [results, Tryd.results57]
      have B := blk_put3 I7.out.ax.res ⟨q0, ⟨q1, q2, q3⟩, ⟨q4, q5, q6⟩⟩
      simp only at B
      generalize hW7 : World.setCell _ _ _ = W7 at B ⊢
      exact run_ptv B

end Go.Proofs.YtihnmamejfoeeaaDoor
