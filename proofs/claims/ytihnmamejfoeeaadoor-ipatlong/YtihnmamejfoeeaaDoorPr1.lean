/-
  Walks: bracketed, spanText.
-/
import Derived.Test.YtihnmamejfoeeaaDoorFu
import Derived.Test.YtihnmamejfoeeaaDoorCb
namespace Go.Proofs.YtihnmamejfoeeaaDoor
open Go.RowKit

theorem str_app (a b : Bs) : (⟨a.toArray⟩ : ByteArray) ++ ⟨b.toArray⟩ = ⟨(a ++ b).toArray⟩ := by
  apply ByteArray.ext
  simp
theorem str_lit (a : Array UInt8) : (⟨a⟩ : ByteArray) = ⟨a.toList.toArray⟩ := by simp

set_option maxRecDepth 100000 in
theorem brack_any (l : Bs) (q : Bool) (w : World) (_hl : l.length ≤ 1000000000) :
    Calls Tryd.prog 24 #[str l, .bool q] w fun e w' => e = .returned (str (brX q l)) ∧ w' = w := by
  cases q
  · go_enter Tryd.func24, Tryd.ntmps24
    go_wp2_with fail
    go_ret
    exact ⟨rfl, rfl⟩
  · go_enter Tryd.func24, Tryd.ntmps24
    go_wp2_with fail
    go_ret
    refine ⟨?_, rfl⟩
    rw [str_lit #[40], str_lit #[41], str_app, str_app]
    rfl

abbrev sc (x : Int × Int) : Array Value := #[.int .u32 x.1, .int .u32 x.2]

theorem dec_len {n : Int} (h : n ≤ 4294967295) : (dec n).length ≤ 10 := by
  unfold dec
  rw [Lib.decDigits_length]
  have h1 := Lib.nDigits_unique 9 n.toNat
  by_cases c : 10 ^ 9 ≤ n.toNat
  · rw [h1 c (by omega)]; omega
  · have : ∀ (k u : Nat), u < 10 ^ (k + 1) → Lib.nDigits u ≤ k + 1 := by
      intro k
      induction k with
      | zero => intro u hu; rw [Lib.nDigits_small (by simpa using hu)]; omega
      | succ k ih =>
        intro u hu
        by_cases c : u < 10
        · rw [Lib.nDigits_small c]; omega
        · rw [Lib.nDigits_big c]
          have := ih (u / 10) (by rw [Nat.pow_succ] at hu; omega)
          omega
    have := this 8 n.toNat (by omega)
    omega

set_option maxRecDepth 100000 in
set_option maxHeartbeats 2000000 in
theorem spanText_any (x : Int × Int) (h : 0 ≤ x.1 ∧ x.1 ≤ x.2 ∧ x.2 ≤ 4294967295) (w : World) (htab : TabP w) :
    Calls Tryd.prog 39 #[.agg (sc x)] w fun e w' => e = .returned (str (spanX x)) ∧ Gr w w' := by
  obtain ⟨a, b⟩ := x
  simp only at h
  obtain ⟨h0, h1, h2⟩ := h
  have hmx : Tryd.prog.follows .mixedOrders = true := by kernel_rfl
  have HX : Hid (spanX (a, b) = if a = 0 ∧ b = 4294967295 then [46] else if a = b then dec a else 91 :: (dec a ++ 45 :: (dec b ++ [93]))) := rfl
  rw [HX.out]
  have kA : ∀ W, Gr w W → Calls Tryd.prog 48 #[.int .u32 a] W fun e w' => e = .returned (str (dec a)) ∧ Gr W w' := fun W g => numText_any a h0 (by omega) W (htab.gr g)
  have kB : ∀ W, Gr w W → Calls Tryd.prog 48 #[.int .u32 b] W fun e w' => e = .returned (str (dec b)) ∧ Gr W w' := fun W g => numText_any b (by omega) h2 W (htab.gr g)
  clear htab HX
  by_cases c1 : a = 0
  · by_cases c2 : b = 4294967295
    · subst c1
      subst c2
      clear kA kB
      rw [if_pos ⟨rfl, rfl⟩]
      go_enter Tryd.func39, Tryd.ntmps39
      go_wp2_with fail
      go_ret
      exact ⟨rfl, (Gr.refl _).alloc _⟩
    · have hno : ¬ (a = 0 ∧ b = 4294967295) := fun h => c2 h.2
      rw [if_neg hno]
      by_cases c3 : a = b
      · have e3 : (a == b) = true := by simpa using c3
        rw [if_pos c3]
        have e1 : (a == 0) = true := by simpa using c1
        have e2 : (b == 4294967295) = false := by simpa using c2
        clear c1 c2
        clear c3 hno kB
        go_enter Tryd.func39, Tryd.ntmps39
        go_wp2_with (go_at_call 48; refine (kA _ ((Gr.refl _).alloc _)).mono ?_; rintro _ w2 ⟨rfl, gw⟩; have G2 : Hid (Gr w w2) := ((Gr.refl _).alloc _).trans gw; clear gw)
        go_ret
        exact ⟨rfl, G2.out⟩
      · have e3 : (a == b) = false := by simpa using c3
        rw [if_neg c3]
        have e1 : (a == 0) = true := by simpa using c1
        have e2 : (b == 4294967295) = false := by simpa using c2
        clear c1 c2
        have HBx : Hid (Blk (w.alloc (.cells #[.int .u32 a, .int .u32 b] 39)) w.heap.size #[.int .u32 a, .int .u32 b] 39) := Blk.new _ _ _
        clear c3 hno
        go_enter Tryd.func39, Tryd.ntmps39
        go_upto_region 5 with fail
        generalize hW : w.alloc (.cells #[.int .u32 a, .int .u32 b] 39) = W1 at HBx
        have G1 : Hid (Gr w W1) := by rw [← hW]; exact (Gr.refl _).alloc _
        have c0 := fun n os => (HBx.out.grow n os).c 0
        have c1' := fun n os => (HBx.out.grow n os).c 1
        simp at c0 c1'
        have bl := HBx.out.lt
        have kA2 : ∀ n os, Calls Tryd.prog 48 #[.int .u32 a] (Sort.grow (W1.drewN n) os) fun e w' => e = .returned (str (dec a)) ∧ ∃ q os', w' = Sort.grow ((Sort.grow (W1.drewN n) os).drewN q) os' := fun n os => kA _ (G1.out.trans ⟨n, os, rfl⟩)
        have kB2 : ∀ n os, Calls Tryd.prog 48 #[.int .u32 b] (Sort.grow (W1.drewN n) os) fun e w' => e = .returned (str (dec b)) ∧ ∃ q os', w' = Sort.grow ((Sort.grow (W1.drewN n) os).drewN q) os' := fun n os => kB _ (G1.out.trans ⟨n, os, rfl⟩)
        have la := dec_len (n := a) (by omega)
        have lb := dec_len h2
        have n1 : ¬ 9223372036854775807 < 1 + (dec a).length := by omega
        have n2 : ¬ 9223372036854775807 < 1 + (dec a).length + 1 := by omega
        have n3 : ¬ 9223372036854775807 < 1 + (dec a).length + 1 + (dec b).length := by omega
        have n4 : ¬ 9223372036854775807 < 1 + (dec a).length + 1 + (dec b).length + 1 := by omega
        clear la lb
        clear kA kB hW
        refine wp_region_quiet_grownB (by assumption) (by kernel_rfl) ?_
        repeat (refine wpQuiet_stepB (fun K hK => ?_); go_simp; first | (refine hK _ ?_; clear hK K) | (apply Exists.intro; refine ⟨fun _ => ?_, hK _ ?_⟩; (first | (go_at_call 48; with_reducible refine Calls.grown_of (kA2 _ _)) | (go_at_call 48; with_reducible refine Calls.grown_of (kB2 _ _))); clear hK K))
        refine wpQuiet_nilB ?_
        intro _ hw'
        obtain ⟨⟨nq, osq⟩, hw''⟩ := hw'
        subst hw''
        have G2 : Hid (Gr w (Sort.grow (W1.drewN nq) osq)) := G1.out.trans ⟨nq, osq, rfl⟩
        clear c0 c1' kA2 kB2
        go_wp2_with fail
        go_ret
        refine ⟨?_, G2.out⟩
        rw [str_lit #[91], str_lit #[45], str_lit #[93], str_app, str_app, str_app, str_app]
        simp
  · have hno : ¬ (a = 0 ∧ b = 4294967295) := fun h => c1 h.1
    rw [if_neg hno]
    by_cases c3 : a = b
    · have e3 : (a == b) = true := by simpa using c3
      rw [if_pos c3]
      have e1 : (a == 0) = false := by simpa using c1
      clear c1
      clear c3 hno kB
      go_enter Tryd.func39, Tryd.ntmps39
      go_wp2_with (go_at_call 48; refine (kA _ ((Gr.refl _).alloc _)).mono ?_; rintro _ w2 ⟨rfl, gw⟩; have G2 : Hid (Gr w w2) := ((Gr.refl _).alloc _).trans gw; clear gw)
      go_ret
      exact ⟨rfl, G2.out⟩
    · have e3 : (a == b) = false := by simpa using c3
      rw [if_neg c3]
      have e1 : (a == 0) = false := by simpa using c1
      clear c1
      have HBx : Hid (Blk (w.alloc (.cells #[.int .u32 a, .int .u32 b] 39)) w.heap.size #[.int .u32 a, .int .u32 b] 39) := Blk.new _ _ _
      clear c3 hno
      go_enter Tryd.func39, Tryd.ntmps39
      go_upto_region 5 with fail
      generalize hW : w.alloc (.cells #[.int .u32 a, .int .u32 b] 39) = W1 at HBx
      have G1 : Hid (Gr w W1) := by rw [← hW]; exact (Gr.refl _).alloc _
      have c0 := fun n os => (HBx.out.grow n os).c 0
      have c1' := fun n os => (HBx.out.grow n os).c 1
      simp at c0 c1'
      have bl := HBx.out.lt
      have kA2 : ∀ n os, Calls Tryd.prog 48 #[.int .u32 a] (Sort.grow (W1.drewN n) os) fun e w' => e = .returned (str (dec a)) ∧ ∃ q os', w' = Sort.grow ((Sort.grow (W1.drewN n) os).drewN q) os' := fun n os => kA _ (G1.out.trans ⟨n, os, rfl⟩)
      have kB2 : ∀ n os, Calls Tryd.prog 48 #[.int .u32 b] (Sort.grow (W1.drewN n) os) fun e w' => e = .returned (str (dec b)) ∧ ∃ q os', w' = Sort.grow ((Sort.grow (W1.drewN n) os).drewN q) os' := fun n os => kB _ (G1.out.trans ⟨n, os, rfl⟩)
      have la := dec_len (n := a) (by omega)
      have lb := dec_len h2
      have n1 : ¬ 9223372036854775807 < 1 + (dec a).length := by omega
      have n2 : ¬ 9223372036854775807 < 1 + (dec a).length + 1 := by omega
      have n3 : ¬ 9223372036854775807 < 1 + (dec a).length + 1 + (dec b).length := by omega
      have n4 : ¬ 9223372036854775807 < 1 + (dec a).length + 1 + (dec b).length + 1 := by omega
      clear la lb
      clear kA kB hW
      refine wp_region_quiet_grownB (by assumption) (by kernel_rfl) ?_
      repeat (refine wpQuiet_stepB (fun K hK => ?_); go_simp; first | (refine hK _ ?_; clear hK K) | (apply Exists.intro; refine ⟨fun _ => ?_, hK _ ?_⟩; (first | (go_at_call 48; with_reducible refine Calls.grown_of (kA2 _ _)) | (go_at_call 48; with_reducible refine Calls.grown_of (kB2 _ _))); clear hK K))
      refine wpQuiet_nilB ?_
      intro _ hw'
      obtain ⟨⟨nq, osq⟩, hw''⟩ := hw'
      subst hw''
      have G2 : Hid (Gr w (Sort.grow (W1.drewN nq) osq)) := G1.out.trans ⟨nq, osq, rfl⟩
      clear c0 c1' kA2 kB2
      go_wp2_with fail
      go_ret
      refine ⟨?_, G2.out⟩
      rw [str_lit #[91], str_lit #[45], str_lit #[93], str_app, str_app, str_app, str_app]
      simp

end Go.Proofs.YtihnmamejfoeeaaDoor
