/-
  The walks of the document's Print and of IpatPrints.
-/
import Derived.Test.YtnohkbdmnalmcaaGreatDoorZt
import Derived.Test.YtnohkbdmnalmcaaGreatDoorL3
import Derived.Test.YtnohkbdmnalmcaaGreatDoorAj
import Derived.Test.YtnohkbdmnalmcaaGreatDoorSm
import Derived.Test.YtnohkbdmnalmcaaGreatDoorCq
namespace Go.Proofs.YtnohkbdmnalmcaaGreatDoor
open Go.RowKit

set_option maxRecDepth 100000 in
set_option maxHeartbeats 4000000 in
theorem rprint_any (t : Tree) (x : PC) (w : World) (hok : okT t) (hg : goodT t) (hx : HT w t x) :
    Calls Tryz.prog 17 #[x.v] w fun e w' => e = .returned (.tuple #[str (printM t).1, .int .i64 (printM t).2]) ∧ Below w.heap.size w w' := by
  have kr := fun W h => rright_any t x W hok h
  have HX : Hid (HT w t x) := hx
  obtain ⟨xk, ⟨x1, x2, x3⟩, x4, x5, x6⟩ := x
  have HBx : Hid (Blk (w.alloc (.cells #[.int .i64 xk, .slice x1 x2 x3, .slice x4 x5 x6] 26)) w.heap.size #[.int .i64 xk, .slice x1 x2 x3, .slice x4 x5 x6] 26) := Blk.new _ _ _
  cases hr : rightT t with
  | true =>
    rw [hr] at kr
    obtain ⟨hz, _, hk⟩ := right_parts hr
    have HP : Hid (printM t = (wholeX t, 0)) := by show _ = _; unfold printM; rw [if_pos hr]
    have kt : ∀ W, Below w.heap.size w W → Calls Tryz.prog 38 #[.agg #[.string ⟨#[95]⟩, .string ⟨#[91]⟩, .string ⟨#[93]⟩], PC.v ⟨xk, ⟨x1, x2, x3⟩, ⟨x4, x5, x6⟩⟩, .int .i64 0] W fun e w' => PostX styI t 0 W e w' := fun W g => rtext_any 95 [91] [93] okY_I _ t _ 0 W (Nat.le_refl _) hz hk hg (by omega) (HT.bel g HX.out)
    have hl0 : (textT styI t 0).length ≤ 100000000 := by have := text_len styI okY_I _ t (Nat.le_refl _) hz hk hg 0; omega
    have HW : Hid (wholeX t = 94 :: (textT styI t 0 ++ [36])) := rfl
    rw [HP.out, HW.out]
    clear hx hok hg hr hz hk HP HW
    go_enter Tryz.func17, Tryz.ntmps17
    go_wp2_with (first
      | (go_at_call 37; refine (kr _ (HX.out.gr ((Gr.refl _).alloc _))).mono ?_; rintro _ w2 ⟨rfl, gw⟩; have G2 : Hid (Gr w w2) := ((Gr.refl _).alloc _).trans gw; obtain ⟨e0, e1, e2⟩ : w2.cell? ⟨w.heap.size, 0, none⟩ = some (.int .i64 xk) ∧ w2.cell? ⟨w.heap.size, 1, none⟩ = some (.slice x1 x2 x3) ∧ w2.cell? ⟨w.heap.size, 2, none⟩ = some (.slice x4 x5 x6) := ⟨(HBx.out.gr gw).c 0, (HBx.out.gr gw).c 1, (HBx.out.gr gw).c 2⟩; clear gw)
      | (go_at_call 38; refine (kt _ G2.out.below).mono ?_; rintro _ w3 ⟨rfl, g3⟩; have B3 : Hid (Below w.heap.size w w3) := bstep G2.out.below g3; clear g3))
    refine bodyPost_ret (v := .tuple #[str (94 :: (textT styI t 0 ++ [36])), .int .i64 0]) ?_ rfl ⟨rfl, B3.out⟩
    simp [results, Tryz.results17, go_sem]
    rw [str_lit #[94], str_lit #[36], str_app, str_app]
    simp
  | false =>
    rw [hr] at kr
    have HP : Hid (printM t = ([], 4)) := by show _ = _; unfold printM; rw [if_neg (by rw [hr]; decide)]
    rw [HP.out]
    clear hx hok hg hr HP
    go_enter Tryz.func17, Tryz.ntmps17
    go_wp2_with (go_at_call 37; refine (kr _ (HX.out.gr ((Gr.refl _).alloc _))).mono ?_; rintro _ w2 ⟨rfl, gw⟩; have G2 : Hid (Gr w w2) := ((Gr.refl _).alloc _).trans gw; clear gw)
    refine bodyPost_ret (v := .tuple #[str [], .int .i64 4]) ?_ rfl ⟨rfl, G2.out.below⟩
    simp [results, Tryz.results17, go_sem]


set_option maxRecDepth 100000 in
set_option maxHeartbeats 4000000 in
theorem rjprint_any (t : Tree) (x : PC) (w : World) (hok : okT t) (hg : goodT t) (hx : HT w t x) :
    Calls Tryz.prog 22 #[x.v] w fun e w' => e = .returned (.tuple #[str (jprintM t).1, .int .i64 (jprintM t).2]) ∧ Below w.heap.size w w' := by
  have kr := fun W h => rright_any t x W hok h
  have HX : Hid (HT w t x) := hx
  obtain ⟨xk, ⟨x1, x2, x3⟩, x4, x5, x6⟩ := x
  have HBx : Hid (Blk (w.alloc (.cells #[.int .i64 xk, .slice x1 x2 x3, .slice x4 x5 x6] 26)) w.heap.size #[.int .i64 xk, .slice x1 x2 x3, .slice x4 x5 x6] 26) := Blk.new _ _ _
  cases hr : rightT t with
  | true =>
    rw [hr] at kr
    obtain ⟨hz, _, hk⟩ := right_parts hr
    have HP : Hid (jprintM t = (textT styJ t 0, 0)) := by show _ = _; unfold jprintM; rw [if_pos hr]
    have kt : ∀ W, Below w.heap.size w W → Calls Tryz.prog 38 #[.agg #[.string ⟨#[32]⟩, .string ⟨#[]⟩, .string ⟨#[]⟩], PC.v ⟨xk, ⟨x1, x2, x3⟩, ⟨x4, x5, x6⟩⟩, .int .i64 0] W fun e w' => PostX styJ t 0 W e w' := fun W g => rtext_any 32 [] [] okY_J _ t _ 0 W (Nat.le_refl _) hz hk hg (by omega) (HT.bel g HX.out)
    have hl0 : (textT styJ t 0).length ≤ 100000000 := by have := text_len styJ okY_J _ t (Nat.le_refl _) hz hk hg 0; omega
    have HW : Hid (textT styJ t 0 = textT styJ t 0) := rfl
    rw [HP.out, HW.out]
    clear hx hok hg hr hz hk HP HW
    go_enter Tryz.func22, Tryz.ntmps22
    go_wp2_with (first
      | (go_at_call 37; refine (kr _ (HX.out.gr ((Gr.refl _).alloc _))).mono ?_; rintro _ w2 ⟨rfl, gw⟩; have G2 : Hid (Gr w w2) := ((Gr.refl _).alloc _).trans gw; obtain ⟨e0, e1, e2⟩ : w2.cell? ⟨w.heap.size, 0, none⟩ = some (.int .i64 xk) ∧ w2.cell? ⟨w.heap.size, 1, none⟩ = some (.slice x1 x2 x3) ∧ w2.cell? ⟨w.heap.size, 2, none⟩ = some (.slice x4 x5 x6) := ⟨(HBx.out.gr gw).c 0, (HBx.out.gr gw).c 1, (HBx.out.gr gw).c 2⟩; clear gw)
      | (go_at_call 38; refine (kt _ G2.out.below).mono ?_; rintro _ w3 ⟨rfl, g3⟩; have B3 : Hid (Below w.heap.size w w3) := bstep G2.out.below g3; clear g3))
    refine bodyPost_ret (v := .tuple #[str (textT styJ t 0), .int .i64 0]) ?_ rfl ⟨rfl, B3.out⟩
    simp [results, Tryz.results22, go_sem]
  | false =>
    rw [hr] at kr
    have HP : Hid (jprintM t = ([], 4)) := by show _ = _; unfold jprintM; rw [if_neg (by rw [hr]; decide)]
    rw [HP.out]
    clear hx hok hg hr HP
    go_enter Tryz.func22, Tryz.ntmps22
    go_wp2_with (go_at_call 37; refine (kr _ (HX.out.gr ((Gr.refl _).alloc _))).mono ?_; rintro _ w2 ⟨rfl, gw⟩; have G2 : Hid (Gr w w2) := ((Gr.refl _).alloc _).trans gw; clear gw)
    refine bodyPost_ret (v := .tuple #[str [], .int .i64 4]) ?_ rfl ⟨rfl, G2.out.below⟩
    simp [results, Tryz.results22, go_sem]


set_option maxRecDepth 100000 in
set_option maxHeartbeats 8000000 in
theorem law_prints (t : Tree) (x : PC) (w : World) (hok : okT t) (hg : goodT t) (hx : HT w t x) (hP : TabP w) :
    Calls Tryz.prog 4 #[x.v] w fun e w' => e = .returned (.bool true) ∧ Below w.heap.size w w' := by
  have kal := fun W h => alive_any W h
  have kg := fun W h => great_any t x W hok h
  have kp := fun y W h1 h2 => print_any t y W hok hg h1 h2
  have kr := fun W h1 => rprint_any t x W hok hg h1
  have HX : Hid (HT w t x) := hx
  have HTp : Hid (TabP w) := hP
  have HOk : Hid (okT t) := hok
  obtain ⟨xk, ⟨x1, x2, x3⟩, x4, x5, x6⟩ := x
  clear hx hP hok hg
  obtain ⟨S, hS⟩ : ∃ S : ByteArray, S = ⟨(printM t).1.toArray⟩ := ⟨_, rfl⟩
  obtain ⟨q, hq⟩ : ∃ q : Int, q = (printM t).2 := ⟨_, rfl⟩
  unfold str at kp kr
  rw [← hS, ← hq] at kp kr
  clear hS hq
  go_enter Tryz.func4, Tryz.ntmps4
  go_upto_region 1 with fail
  generalize hW : World.alloc _ _ = W
  have HI : Hid (BX w ⟨xk, ⟨x1, x2, x3⟩, ⟨x4, x5, x6⟩⟩ W) := by
    rw [← hW]
    exact ⟨(Below.refl _ _).alloc (Nat.le_refl _) _, Blk.new _ _ _⟩
  clear hW
  go_upto_region 3 with (go_at_call 10; refine (kal _ (HTp.out.bel HI.out.bel)).mono ?_; rintro _ w2 ⟨rfl, gw⟩; have I2 : Hid (BX w ⟨xk, ⟨x1, x2, x3⟩, ⟨x4, x5, x6⟩⟩ w2) := HI.out.go gw; clear gw; obtain ⟨e0, e1, e2⟩ := BlkT.cs I2.out.box)
  clear HI kal
  by_cases c1 : 3000 < size t
  · have kg2 : ∀ W, HT W t ⟨xk, ⟨x1, x2, x3⟩, ⟨x4, x5, x6⟩⟩ → Calls Tryz.prog 14 #[PC.v ⟨xk, ⟨x1, x2, x3⟩, ⟨x4, x5, x6⟩⟩] W fun e w' => e = .returned (.bool true) ∧ Gr W w' := fun W h => by have := kg W h; simpa [c1] using this
    clear kg kr kp
    go_wp2_with (go_at_call 14; refine (kg2 _ (HT.bel I2.out.bel HX.out)).mono ?_; rintro _ w3 ⟨rfl, gw⟩; have I3 : Hid (BX w ⟨xk, ⟨x1, x2, x3⟩, ⟨x4, x5, x6⟩⟩ w3) := I2.out.go gw.below; clear gw)
    go_ret
    exact ⟨rfl, I3.out.bel⟩
  have kg2 : ∀ W, HT W t ⟨xk, ⟨x1, x2, x3⟩, ⟨x4, x5, x6⟩⟩ → Calls Tryz.prog 14 #[PC.v ⟨xk, ⟨x1, x2, x3⟩, ⟨x4, x5, x6⟩⟩] W fun e w' => e = .returned (.bool false) ∧ Gr W w' := fun W h => by have := kg W h; simpa [c1] using this
  have kc : ∀ W, HT W t ⟨xk, ⟨x1, x2, x3⟩, ⟨x4, x5, x6⟩⟩ → Calls Tryz.prog 15 #[PC.v ⟨xk, ⟨x1, x2, x3⟩, ⟨x4, x5, x6⟩⟩] W fun e w' => PostC t W e w' := fun W h => copy_any _ t _ W (Nat.le_refl _) (by omega) HOk.out h
  clear kg c1
  go_upto_region 6 with (first
    | (go_at_call 14; refine (kg2 _ (HT.bel I2.out.bel HX.out)).mono ?_; rintro _ w3 ⟨rfl, gw⟩; have I3 : Hid (BX w ⟨xk, ⟨x1, x2, x3⟩, ⟨x4, x5, x6⟩⟩ w3) := I2.out.go gw.below; clear gw; obtain ⟨f0, f1, f2⟩ := BlkT.cs I3.out.box)
    | (go_at_call 15; refine (kc _ (HT.bel I3.out.bel HX.out)).mono ?_; rintro _ w4 ⟨⟨r0, ⟨r1, r2, r3⟩, r4, r5, r6⟩, rfl, ho, gw⟩; have H4 : Hid (HT w4 t ⟨r0, ⟨r1, r2, r3⟩, ⟨r4, r5, r6⟩⟩) := ho.held; have I4 : Hid (BX w ⟨xk, ⟨x1, x2, x3⟩, ⟨x4, x5, x6⟩⟩ w4) := I3.out.go gw; clear gw ho))
  generalize hW3 : World.alloc _ _ = W3
  have HS : Hid (BY w ⟨xk, ⟨x1, x2, x3⟩, ⟨x4, x5, x6⟩⟩ ⟨r0, ⟨r1, r2, r3⟩, ⟨r4, r5, r6⟩⟩ w4.heap.size t W3) := by
    rw [← hW3]
    exact ⟨I4.out.go (bel_alloc _ _), Blk.new _ _ _, HT.bel (bel_alloc _ _) H4.out⟩
  clear hW3 I2 I3 I4 H4 e0 e1 e2 f0 f1 f2 kg2 kc
  obtain ⟨a0, a1, a2⟩ := BlkT.cs HS.out.bx.box
  obtain ⟨b0, b1, b2⟩ := BlkT.cs HS.out.res
  go_upto_region 8 with (first
    | (go_at_call 16; refine (kp _ _ HS.out.held (HTp.out.bel HS.out.bx.bel)).mono ?_; rintro _ w5 ⟨rfl, gw⟩; have S5 : Hid (BY w ⟨xk, ⟨x1, x2, x3⟩, ⟨x4, x5, x6⟩⟩ ⟨r0, ⟨r1, r2, r3⟩, ⟨r4, r5, r6⟩⟩ w4.heap.size t w5) := HS.out.go gw; clear gw; obtain ⟨d0, d1, d2⟩ := BlkT.cs S5.out.bx.box)
    | (go_at_call 17; refine (kr _ (HT.bel S5.out.bx.bel HX.out)).mono ?_; rintro _ w6 ⟨rfl, gw⟩; have S6 : Hid (BY w ⟨xk, ⟨x1, x2, x3⟩, ⟨x4, x5, x6⟩⟩ ⟨r0, ⟨r1, r2, r3⟩, ⟨r4, r5, r6⟩⟩ w4.heap.size t w6) := S5.out.go gw; clear gw))
  clear HS S5 a0 a1 a2 b0 b1 b2 d0 d1 d2 kp kr
  obtain ⟨a0, a1, a2⟩ := BlkT.cs S6.out.bx.box
  obtain ⟨b0, b1, b2⟩ := BlkT.cs S6.out.res
  have ks : ∀ W, HT W t ⟨r0, ⟨r1, r2, r3⟩, ⟨r4, r5, r6⟩⟩ → HT W t ⟨xk, ⟨x1, x2, x3⟩, ⟨x4, x5, x6⟩⟩ → Calls Tryz.prog 13 #[PC.v ⟨r0, ⟨r1, r2, r3⟩, ⟨r4, r5, r6⟩⟩, PC.v ⟨xk, ⟨x1, x2, x3⟩, ⟨x4, x5, x6⟩⟩] W fun e w' => e = .returned (.bool true) ∧ Gr W w' := fun W h1 h2 => same_true _ t _ _ W (Nat.le_refl _) HOk.out h1 h2
  go_wp2_with (go_at_call 13; refine (ks _ S6.out.held (HT.bel S6.out.bx.bel HX.out)).mono ?_; rintro _ w7 ⟨rfl, gw⟩; have B7 : Hid (Below w.heap.size w w7) := bstep S6.out.bx.bel gw.below; clear gw)
  go_ret
  exact ⟨rfl, B7.out⟩

set_option maxRecDepth 100000 in
set_option maxHeartbeats 8000000 in
theorem law_jprints (t : Tree) (x : PC) (w : World) (hok : okT t) (hg : goodT t) (hx : HT w t x) (hP : TabP w) :
    Calls Tryz.prog 7 #[x.v] w fun e w' => e = .returned (.bool true) ∧ Below w.heap.size w w' := by
  have kal := fun W => jalive_any W
  have kg := fun W h => great_any t x W hok h
  have kp := fun y W h1 h2 => jprint_any t y W hok hg h1 h2
  have kr := fun W h1 => rjprint_any t x W hok hg h1
  have HX : Hid (HT w t x) := hx
  have HTp : Hid (TabP w) := hP
  have HOk : Hid (okT t) := hok
  obtain ⟨xk, ⟨x1, x2, x3⟩, x4, x5, x6⟩ := x
  clear hx hP hok hg
  obtain ⟨S, hS⟩ : ∃ S : ByteArray, S = ⟨(jprintM t).1.toArray⟩ := ⟨_, rfl⟩
  obtain ⟨q, hq⟩ : ∃ q : Int, q = (jprintM t).2 := ⟨_, rfl⟩
  unfold str at kp kr
  rw [← hS, ← hq] at kp kr
  clear hS hq
  go_enter Tryz.func7, Tryz.ntmps7
  go_upto_region 1 with fail
  generalize hW : World.alloc _ _ = W
  have HI : Hid (BX w ⟨xk, ⟨x1, x2, x3⟩, ⟨x4, x5, x6⟩⟩ W) := by
    rw [← hW]
    exact ⟨(Below.refl _ _).alloc (Nat.le_refl _) _, Blk.new _ _ _⟩
  clear hW
  go_upto_region 3 with (go_at_call 20; refine (kal _).mono ?_; rintro _ w2 ⟨rfl, gw⟩; have I2 : Hid (BX w ⟨xk, ⟨x1, x2, x3⟩, ⟨x4, x5, x6⟩⟩ w2) := HI.out.go gw; clear gw; obtain ⟨e0, e1, e2⟩ := BlkT.cs I2.out.box)
  clear HI kal
  by_cases c1 : 3000 < size t
  · have kg2 : ∀ W, HT W t ⟨xk, ⟨x1, x2, x3⟩, ⟨x4, x5, x6⟩⟩ → Calls Tryz.prog 14 #[PC.v ⟨xk, ⟨x1, x2, x3⟩, ⟨x4, x5, x6⟩⟩] W fun e w' => e = .returned (.bool true) ∧ Gr W w' := fun W h => by have := kg W h; simpa [c1] using this
    clear kg kr kp
    go_wp2_with (go_at_call 14; refine (kg2 _ (HT.bel I2.out.bel HX.out)).mono ?_; rintro _ w3 ⟨rfl, gw⟩; have I3 : Hid (BX w ⟨xk, ⟨x1, x2, x3⟩, ⟨x4, x5, x6⟩⟩ w3) := I2.out.go gw.below; clear gw)
    go_ret
    exact ⟨rfl, I3.out.bel⟩
  have kg2 : ∀ W, HT W t ⟨xk, ⟨x1, x2, x3⟩, ⟨x4, x5, x6⟩⟩ → Calls Tryz.prog 14 #[PC.v ⟨xk, ⟨x1, x2, x3⟩, ⟨x4, x5, x6⟩⟩] W fun e w' => e = .returned (.bool false) ∧ Gr W w' := fun W h => by have := kg W h; simpa [c1] using this
  have kc : ∀ W, HT W t ⟨xk, ⟨x1, x2, x3⟩, ⟨x4, x5, x6⟩⟩ → Calls Tryz.prog 15 #[PC.v ⟨xk, ⟨x1, x2, x3⟩, ⟨x4, x5, x6⟩⟩] W fun e w' => PostC t W e w' := fun W h => copy_any _ t _ W (Nat.le_refl _) (by omega) HOk.out h
  clear kg c1
  go_upto_region 6 with (first
    | (go_at_call 14; refine (kg2 _ (HT.bel I2.out.bel HX.out)).mono ?_; rintro _ w3 ⟨rfl, gw⟩; have I3 : Hid (BX w ⟨xk, ⟨x1, x2, x3⟩, ⟨x4, x5, x6⟩⟩ w3) := I2.out.go gw.below; clear gw; obtain ⟨f0, f1, f2⟩ := BlkT.cs I3.out.box)
    | (go_at_call 15; refine (kc _ (HT.bel I3.out.bel HX.out)).mono ?_; rintro _ w4 ⟨⟨r0, ⟨r1, r2, r3⟩, r4, r5, r6⟩, rfl, ho, gw⟩; have H4 : Hid (HT w4 t ⟨r0, ⟨r1, r2, r3⟩, ⟨r4, r5, r6⟩⟩) := ho.held; have I4 : Hid (BX w ⟨xk, ⟨x1, x2, x3⟩, ⟨x4, x5, x6⟩⟩ w4) := I3.out.go gw; clear gw ho))
  generalize hW3 : World.alloc _ _ = W3
  have HS : Hid (BY w ⟨xk, ⟨x1, x2, x3⟩, ⟨x4, x5, x6⟩⟩ ⟨r0, ⟨r1, r2, r3⟩, ⟨r4, r5, r6⟩⟩ w4.heap.size t W3) := by
    rw [← hW3]
    exact ⟨I4.out.go (bel_alloc _ _), Blk.new _ _ _, HT.bel (bel_alloc _ _) H4.out⟩
  clear hW3 I2 I3 I4 H4 e0 e1 e2 f0 f1 f2 kg2 kc
  obtain ⟨a0, a1, a2⟩ := BlkT.cs HS.out.bx.box
  obtain ⟨b0, b1, b2⟩ := BlkT.cs HS.out.res
  go_upto_region 8 with (first
    | (go_at_call 21; refine (kp _ _ HS.out.held (HTp.out.bel HS.out.bx.bel)).mono ?_; rintro _ w5 ⟨rfl, gw⟩; have S5 : Hid (BY w ⟨xk, ⟨x1, x2, x3⟩, ⟨x4, x5, x6⟩⟩ ⟨r0, ⟨r1, r2, r3⟩, ⟨r4, r5, r6⟩⟩ w4.heap.size t w5) := HS.out.go gw; clear gw; obtain ⟨d0, d1, d2⟩ := BlkT.cs S5.out.bx.box)
    | (go_at_call 22; refine (kr _ (HT.bel S5.out.bx.bel HX.out)).mono ?_; rintro _ w6 ⟨rfl, gw⟩; have S6 : Hid (BY w ⟨xk, ⟨x1, x2, x3⟩, ⟨x4, x5, x6⟩⟩ ⟨r0, ⟨r1, r2, r3⟩, ⟨r4, r5, r6⟩⟩ w4.heap.size t w6) := S5.out.go gw; clear gw))
  clear HS S5 a0 a1 a2 b0 b1 b2 d0 d1 d2 kp kr
  obtain ⟨a0, a1, a2⟩ := BlkT.cs S6.out.bx.box
  obtain ⟨b0, b1, b2⟩ := BlkT.cs S6.out.res
  have ks : ∀ W, HT W t ⟨r0, ⟨r1, r2, r3⟩, ⟨r4, r5, r6⟩⟩ → HT W t ⟨xk, ⟨x1, x2, x3⟩, ⟨x4, x5, x6⟩⟩ → Calls Tryz.prog 13 #[PC.v ⟨r0, ⟨r1, r2, r3⟩, ⟨r4, r5, r6⟩⟩, PC.v ⟨xk, ⟨x1, x2, x3⟩, ⟨x4, x5, x6⟩⟩] W fun e w' => e = .returned (.bool true) ∧ Gr W w' := fun W h1 h2 => same_true _ t _ _ W (Nat.le_refl _) HOk.out h1 h2
  go_wp2_with (go_at_call 13; refine (ks _ S6.out.held (HT.bel S6.out.bx.bel HX.out)).mono ?_; rintro _ w7 ⟨rfl, gw⟩; have B7 : Hid (Below w.heap.size w w7) := bstep S6.out.bx.bel gw.below; clear gw)
  go_ret
  exact ⟨rfl, B7.out⟩

end Go.Proofs.YtnohkbdmnalmcaaGreatDoor
