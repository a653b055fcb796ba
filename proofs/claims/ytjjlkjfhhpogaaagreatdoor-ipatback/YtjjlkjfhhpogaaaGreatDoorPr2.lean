/-
  Walks: a number's text.
  Walks: bracketed, spanText.
  Rows of texts in memory; walks: setText, joined.
-/
import Derived.Test.YtjjlkjfhhpogaaaGreatDoorTx
import Derived.Test.YtjjlkjfhhpogaaaGreatDoorLb
import Derived.Test.YtjjlkjfhhpogaaaGreatDoorW2
import Derived.Lib.Walk
import Derived.Lib.ItoaMem
import Derived.BigCall
import Derived.BigGuard
import Derived.Test.YtjjlkjfhhpogaaaGreatDoorTm
import Derived.Deep.DeepCutAuto
namespace Go.Proofs.YtjjlkjfhhpogaaaGreatDoor
open Go.RowKit Go.Sort

/-- The powers of ten, as the rows list them. -/
def TabP (w : World) : Prop := Lib.TabIs Tryz.prog w "internal/strconv.uint64pow10" .u64 Lib.pow10Tab
theorem TabP.bel {w w' : World} (h : TabP w) (hB : Below w.heap.size w w') : TabP w' := by
  unfold TabP Lib.TabIs World.var? at *
  cases hg : Tryz.prog.globalNamed "internal/strconv.uint64pow10" with
  | none => simp [hg] at h
  | some g =>
    simp only [hg, Option.bind_some] at h ⊢
    have hlt : g < w.heap.size := by
      rcases Nat.lt_or_ge g w.heap.size with h' | h'
      · exact h'
      · rw [Array.getElem?_eq_none h'] at h; simp at h
    rw [hB.block g hlt]
    exact h
theorem TabP.gr {w w' : World} (h : TabP w) (g : Gr w w') : TabP w' := h.bel g.below

/-- A text's value. -/
abbrev str (l : Bs) : Value := .string ⟨l.toArray⟩

theorem holds_zero0 (w : World) (T : TypeId) (nd : Nat) (hs : nd ≤ 24) : Holds (fun (b : UInt8) => Value.int .u8 (b.toNat : Int)) (w.alloc (.cells Lib.zeros24 T)) w.heap.size 0 (Array.replicate nd (0 : UInt8)) := fun j hj => by
  have hj' : j < nd := by simpa using hj
  refine ⟨?_, World.frozen?_alloc_new _ _ _ _⟩
  rw [World.cell?_alloc_new, Lib.zeros24_at _ (by omega), getElem!_pos _ j hj]
  simp
theorem fin_pos0 (w : World) (o : Obj) (dk : Array UInt8) (k : Nat) : ∃ os, (putRow (fun (b : UInt8) => Value.int .u8 (b.toNat : Int)) (w.alloc o) w.heap.size 0 dk).drewN k = grow (w.drewN k) os := by
  rw [alloc_eq_grow]
  obtain ⟨os', _, e⟩ := putRow_grow_new (fun (b : UInt8) => Value.int .u8 (b.toNat : Int)) w #[o] w.heap.size 0 dk (Nat.le_refl _)
  exact ⟨os', by rw [e]; rfl⟩

set_option maxHeartbeats 6400000 in
set_option maxRecDepth 100000 in
theorem formatUint_any (u : Nat) (hu64 : u < 18446744073709551616) (w : World) (htab : TabP w) :
    Calls Tryz.prog 133 #[.int .u64 u, .int .i64 10] w fun e w' => e = .returned (str (Lib.decDigits u)) ∧ Gr w w' := by
  by_cases hs : u < 100
  · have k1 := fun W => Tryz.internal_strconv_small u hs W
    have e1 : decide (u < 100) = true := by simpa using hs
    clear htab
    go_enter Tryz.func133, Tryz.ntmps133
    go_wp2_with (go_at_call 147; refine (k1 _).mono ?_; rintro e w' ⟨rfl, rfl⟩)
    go_ret
    exact ⟨rfl, Gr.refl _⟩
  · have e1 : decide (u < 100) = false := by simpa using hs
    have hu1 : 1 ≤ u := by omega
    have hnd20 : Lib.nDigits u ≤ 20 := by have := Lib.numDigits_eq u hu1 hu64; split at this <;> omega
    have hal : Tryz.prog.arrayLen 155 = 24 := by simp [Program.arrayLen, Tryz.underlying155]
    have hsl1 : ∀ W, (Instr.sliceAt 155 (.pointer (some ⟨w.heap.size, 0, none⟩)) none (some (.int .i64 (Lib.nDigits u : Int))) none).run Tryz.prog W = .ok (.slice (some ⟨w.heap.size, 0, none⟩) (Lib.nDigits u) 24) W := fun W => by
      rw [run_sliceAt_array_h W 155 ⟨w.heap.size, 0, none⟩ (by simp [Program.arrayLen, Program.elem, Tryz.underlying155]) .i64 (Lib.nDigits u : Int) (by omega) (by rw [hal]; omega)]
      go_simp
    have hH0 := holds_zero0 w 155 (Lib.nDigits u) (by omega)
    have hfmt := Tryz.internal_strconv_formatBase10 w.heap.size 0 24 u (Array.replicate (Lib.nDigits u) 0) (w.alloc (.cells Lib.zeros24 155)) hH0 (by rw [Array.size_replicate]; exact Lib.lt_pow_nDigits u) hu64 (by rw [Array.size_replicate]; omega)
    rw [Array.size_replicate] at hfmt
    have HH0 := Lib.hid hH0
    have knd := Tryz.internal_strconv_numDigits u hu1 hu64 (w.alloc (.cells Lib.zeros24 155)) (Lib.tabIs_alloc htab _)
    clear hH0 hal
    go_enter Tryz.func133, Tryz.ntmps133
    go_wp2_with (go_at_call 148; refine knd.mono ?_; rintro e w' ⟨rfl, rfl⟩)
    go_at_call 149
    refine hfmt.mono ?_
    rintro e w' ⟨rfl, k, v', dk, rfl, hF⟩
    have hcv : (convert 104 9 (.slice (some ⟨w.heap.size, 0, none⟩) (Lib.nDigits u) 24)).run Tryz.prog ((putRow (fun (b : UInt8) => Value.int .u8 (b.toNat : Int)) (w.alloc (.cells Lib.zeros24 155)) w.heap.size 0 dk).drewN k) = .ok (.string ⟨(Lib.decDigits u).toArray⟩) ((putRow (fun (b : UInt8) => Value.int .u8 (b.toNat : Int)) (w.alloc (.cells Lib.zeros24 155)) w.heap.size 0 dk).drewN k) := by
      have h := run_convert_bytes_back (P := Tryz.prog) ((putRow (fun (b : UInt8) => Value.int .u8 (b.toNat : Int)) (w.alloc (.cells Lib.zeros24 155)) w.heap.size 0 dk).drewN k) 104 9 5 ⟨w.heap.size, 0, none⟩ 24 (Lib.decDigits u) Tryz.underlying104 Tryz.underlying5 Tryz.underlying9 (fun j hj => by
        rw [Lib.row_is_numeral hF j hj, Lib.add_plain, World.cell?_drewN]
        exact cell?_putRow (fun (b : UInt8) => Value.int .u8 (b.toNat : Int)) _ w.heap.size 0 _ dk HH0.out (by rw [hF.size, Array.size_replicate]) j (by rw [hF.size]; rw [Lib.decDigits_length] at hj; exact hj))
      rw [Lib.decDigits_length] at h
      exact h
    go_wp2_with fail
    go_ret
    obtain ⟨os, eo⟩ := fin_pos0 w (.cells Lib.zeros24 155) dk k
    exact ⟨rfl, k, os, eo⟩

set_option maxRecDepth 100000 in
theorem formatUint2_any (u : Nat) (hu64 : u < 18446744073709551616) (w : World) (htab : TabP w) :
    Calls Tryz.prog 122 #[.int .u64 u, .int .i64 10] w fun e w' => e = .returned (str (Lib.decDigits u)) ∧ Gr w w' := by
  have k1 := formatUint_any u hu64 w htab
  clear htab
  go_enter Tryz.func122, Tryz.ntmps122
  go_wp2_with (go_at_call 133; refine k1.mono ?_; rintro _ w2 ⟨rfl, gw⟩; have G2 : Hid (Gr w w2) := gw; clear gw)
  go_ret
  exact ⟨rfl, G2.out⟩

set_option maxRecDepth 100000 in
theorem numText_any (n : Int) (h0 : 0 ≤ n) (h1 : n ≤ 4294967295) (w : World) (htab : TabP w) :
    Calls Tryz.prog 102 #[.int .u32 n] w fun e w' => e = .returned (str (dec n)) ∧ Gr w w' := by
  obtain ⟨u, rfl⟩ : ∃ u : Nat, n = u := ⟨n.toNat, by omega⟩
  have k1 := formatUint2_any u (by omega) w htab
  have HD : Hid (dec (u : Int) = Lib.decDigits u) := by show dec (u : Int) = Lib.decDigits u; simp [dec]
  rw [HD.out]
  have hw : IntKind.u64.wrap (u : Int) = u := by rw [IntKind.wrap_u64]; omega
  clear htab HD
  go_enter Tryz.func102, Tryz.ntmps102
  go_wp2_with (go_at_call 122; refine k1.mono ?_; rintro _ w2 ⟨rfl, gw⟩; have G2 : Hid (Gr w w2) := gw; clear gw)
  go_ret
  exact ⟨rfl, G2.out⟩

end Go.Proofs.YtjjlkjfhhpogaaaGreatDoor

namespace Go.Proofs.YtjjlkjfhhpogaaaGreatDoor
open Go.RowKit

theorem str_app (a b : Bs) : (⟨a.toArray⟩ : ByteArray) ++ ⟨b.toArray⟩ = ⟨(a ++ b).toArray⟩ := by
  apply ByteArray.ext
  simp
theorem str_lit (a : Array UInt8) : (⟨a⟩ : ByteArray) = ⟨a.toList.toArray⟩ := by simp

set_option maxRecDepth 100000 in
theorem brack_any (l : Bs) (q : Bool) (w : World) (_hl : l.length ≤ 1000000000) :
    Calls Tryz.prog 72 #[str l, .bool q] w fun e w' => e = .returned (str (brX q l)) ∧ w' = w := by
  cases q
  · go_enter Tryz.func72, Tryz.ntmps72
    go_wp2_with fail
    go_ret
    exact ⟨rfl, rfl⟩
  · go_enter Tryz.func72, Tryz.ntmps72
    go_wp2_with fail
    go_ret
    refine ⟨?_, rfl⟩
    rw [str_lit #[40], str_lit #[41], str_app, str_app]
    rfl

abbrev sc (x : Int × Int) : Array Value := #[.int .u32 x.1, .int .u32 x.2]

theorem dec_len {n : Int} (h : n ≤ 4294967295) : (dec n).length ≤ 10 := by
  unfold dec
  rw [Lib.decDigits_length]
  have h1 := Lib.nDigits_unique 9 n.toNat
  by_cases c : 10 ^ 9 ≤ n.toNat
  · rw [h1 c (by omega)]; omega
  · have : ∀ (k u : Nat), u < 10 ^ (k + 1) → Lib.nDigits u ≤ k + 1 := by
      intro k
      induction k with
      | zero => intro u hu; rw [Lib.nDigits_small (by simpa using hu)]; omega
      | succ k ih =>
        intro u hu
        by_cases c : u < 10
        · rw [Lib.nDigits_small c]; omega
        · rw [Lib.nDigits_big c]
          have := ih (u / 10) (by rw [Nat.pow_succ] at hu; omega)
          omega
    have := this 8 n.toNat (by omega)
    omega

/-- A style's cells. -/
abbrev syc (y : Sty) : Array Value := #[str y.bw, str y.op, str y.cl]
abbrev BlkY (W : World) (b : Nat) (y : Sty) : Prop := Blk W b (syc y) 64
theorem BlkY.cs {W : World} {b : Nat} {bw op cl : Bs} (h : BlkY W b ⟨bw, op, cl⟩) : W.cell? ⟨b, 0, none⟩ = some (str bw) ∧ W.cell? ⟨b, 1, none⟩ = some (str op) ∧ W.cell? ⟨b, 2, none⟩ = some (str cl) := ⟨h.c 0, h.c 1, h.c 2⟩
/-- Its signs are no longer than one byte. -/
def okY (y : Sty) : Prop := y.bw.length ≤ 1 ∧ y.op.length ≤ 1 ∧ y.cl.length ≤ 1
theorem okY_I : okY styI := by simp [okY, styI]
theorem okY_J : okY styJ := by simp [okY, styJ]

set_option maxRecDepth 100000 in
set_option maxHeartbeats 2000000 in
theorem spanText_any (y : Sty) (x : Int × Int) (hy : okY y) (h : 0 ≤ x.1 ∧ x.1 ≤ x.2 ∧ x.2 ≤ 4294967295) (w : World) (htab : TabP w) :
    Calls Tryz.prog 87 #[.agg (syc y), .agg (sc x)] w fun e w' => e = .returned (str (spanX y x)) ∧ Gr w w' := by
  obtain ⟨a, b⟩ := x
  obtain ⟨bw, op, cl⟩ := y
  obtain ⟨_, hy1, hy2⟩ := hy
  simp only at h hy1 hy2
  obtain ⟨h0, h1, h2⟩ := h
  have hmx : Tryz.prog.follows .mixedOrders = true := by kernel_rfl
  have HX : Hid (spanX ⟨bw, op, cl⟩ (a, b) = if a = 0 ∧ b = 4294967295 then [46] else if a = b then dec a else op ++ (dec a ++ 45 :: (dec b ++ cl))) := rfl
  rw [HX.out]
  have kA : ∀ W, Gr w W → Calls Tryz.prog 102 #[.int .u32 a] W fun e w' => e = .returned (str (dec a)) ∧ Gr W w' := fun W g => numText_any a h0 (by omega) W (htab.gr g)
  have kB : ∀ W, Gr w W → Calls Tryz.prog 102 #[.int .u32 b] W fun e w' => e = .returned (str (dec b)) ∧ Gr W w' := fun W g => numText_any b (by omega) h2 W (htab.gr g)
  have G0 : Hid (Gr w ((w.alloc (.cells #[str bw, str op, str cl] 64)).alloc (.cells #[.int .u32 a, .int .u32 b] 44))) := ((Gr.refl _).alloc _).alloc _
  clear htab HX
  by_cases c1 : a = 0
  · by_cases c2 : b = 4294967295
    · subst c1
      subst c2
      clear kA kB
      rw [if_pos ⟨rfl, rfl⟩]
      go_enter Tryz.func87, Tryz.ntmps87
      go_wp2_with fail
      go_ret
      exact ⟨rfl, G0.out⟩
    · have hno : ¬ (a = 0 ∧ b = 4294967295) := fun h => c2 h.2
      rw [if_neg hno]
      have e1 : (a == 0) = true := by simpa using c1
      have e2 : (b == 4294967295) = false := by simpa using c2
      clear c1 c2 hno
      by_cases c3 : a = b
      · have e3 : (a == b) = true := by simpa using c3
        rw [if_pos c3]
        clear c3 kB
        go_enter Tryz.func87, Tryz.ntmps87
        go_wp2_with (go_at_call 102; refine (kA _ G0.out).mono ?_; rintro _ w2 ⟨rfl, gw⟩; have G2 : Hid (Gr w w2) := G0.out.trans gw; clear gw)
        go_ret
        exact ⟨rfl, G2.out⟩
      · have e3 : (a == b) = false := by simpa using c3
        rw [if_neg c3]
        have HBx : Hid (Blk ((w.alloc (.cells #[str bw, str op, str cl] 64)).alloc (.cells #[.int .u32 a, .int .u32 b] 44)) (w.heap.size + 1) #[.int .u32 a, .int .u32 b] 44) := Blk.new' _ _ _ _ (by simp)
        have HBy : Hid (BlkY ((w.alloc (.cells #[str bw, str op, str cl] 64)).alloc (.cells #[.int .u32 a, .int .u32 b] 44)) w.heap.size ⟨bw, op, cl⟩) := (Blk.new _ _ _).alloc _
        clear c3
        go_enter Tryz.func87, Tryz.ntmps87
        go_upto_region 5 with fail
        generalize hW : World.alloc _ _ = W1 at HBx HBy G0 ⊢
        have G1 : Hid (Gr w W1) := G0.out
        clear G0 hW
        have c0 := fun n os => (HBx.out.grow n os).c 0
        have c1' := fun n os => (HBx.out.grow n os).c 1
        have s1 := fun n os => (HBy.out.grow n os).c 1
        have s2 := fun n os => (HBy.out.grow n os).c 2
        simp at c0 c1' s1 s2
        have bl := HBx.out.lt
        have bly := HBy.out.lt
        have kA2 : ∀ n os, Calls Tryz.prog 102 #[.int .u32 a] (Sort.grow (W1.drewN n) os) fun e w' => e = .returned (str (dec a)) ∧ ∃ q os', w' = Sort.grow ((Sort.grow (W1.drewN n) os).drewN q) os' := fun n os => kA _ (G1.out.trans ⟨n, os, rfl⟩)
        have kB2 : ∀ n os, Calls Tryz.prog 102 #[.int .u32 b] (Sort.grow (W1.drewN n) os) fun e w' => e = .returned (str (dec b)) ∧ ∃ q os', w' = Sort.grow ((Sort.grow (W1.drewN n) os).drewN q) os' := fun n os => kB _ (G1.out.trans ⟨n, os, rfl⟩)
        have la := dec_len (n := a) (by omega)
        have lb := dec_len h2
        have n1 : ¬ 9223372036854775807 < op.length + (dec a).length := by omega
        have n2 : ¬ 9223372036854775807 < op.length + (dec a).length + 1 := by omega
        have n3 : ¬ 9223372036854775807 < op.length + (dec a).length + 1 + (dec b).length := by omega
        have n4 : ¬ 9223372036854775807 < op.length + (dec a).length + 1 + (dec b).length + cl.length := by omega
        clear la lb
        clear kA kB
        refine wp_region_quiet_grownB (by assumption) (by kernel_rfl) ?_
        repeat (refine wpQuiet_stepB (fun K hK => ?_); go_simp; first | (refine hK _ ?_; clear hK K) | (apply Exists.intro; refine ⟨fun _ => ?_, hK _ ?_⟩; (first | (go_at_call 102; with_reducible refine Calls.grown_of (kA2 _ _)) | (go_at_call 102; with_reducible refine Calls.grown_of (kB2 _ _))); clear hK K))
        refine wpQuiet_nilB ?_
        intro _ hw'
        obtain ⟨⟨nq, osq⟩, hw''⟩ := hw'
        subst hw''
        have G2 : Hid (Gr w (Sort.grow (W1.drewN nq) osq)) := G1.out.trans ⟨nq, osq, rfl⟩
        clear c0 c1' s1 s2 kA2 kB2
        go_wp2_with fail
        go_ret
        refine ⟨?_, G2.out⟩
        rw [str_lit #[45], str_app, str_app, str_app, str_app]
        simp
  · have hno : ¬ (a = 0 ∧ b = 4294967295) := fun h => c1 h.1
    rw [if_neg hno]
    have e1 : (a == 0) = false := by simpa using c1
    clear c1 hno
    by_cases c3 : a = b
    · have e3 : (a == b) = true := by simpa using c3
      rw [if_pos c3]
      clear c3 kB
      go_enter Tryz.func87, Tryz.ntmps87
      go_wp2_with (go_at_call 102; refine (kA _ G0.out).mono ?_; rintro _ w2 ⟨rfl, gw⟩; have G2 : Hid (Gr w w2) := G0.out.trans gw; clear gw)
      go_ret
      exact ⟨rfl, G2.out⟩
    · have e3 : (a == b) = false := by simpa using c3
      rw [if_neg c3]
      have HBx : Hid (Blk ((w.alloc (.cells #[str bw, str op, str cl] 64)).alloc (.cells #[.int .u32 a, .int .u32 b] 44)) (w.heap.size + 1) #[.int .u32 a, .int .u32 b] 44) := Blk.new' _ _ _ _ (by simp)
      have HBy : Hid (BlkY ((w.alloc (.cells #[str bw, str op, str cl] 64)).alloc (.cells #[.int .u32 a, .int .u32 b] 44)) w.heap.size ⟨bw, op, cl⟩) := (Blk.new _ _ _).alloc _
      clear c3
      go_enter Tryz.func87, Tryz.ntmps87
      go_upto_region 5 with fail
      generalize hW : World.alloc _ _ = W1 at HBx HBy G0 ⊢
      have G1 : Hid (Gr w W1) := G0.out
      clear G0 hW
      have c0 := fun n os => (HBx.out.grow n os).c 0
      have c1' := fun n os => (HBx.out.grow n os).c 1
      have s1 := fun n os => (HBy.out.grow n os).c 1
      have s2 := fun n os => (HBy.out.grow n os).c 2
      simp at c0 c1' s1 s2
      have bl := HBx.out.lt
      have bly := HBy.out.lt
      have kA2 : ∀ n os, Calls Tryz.prog 102 #[.int .u32 a] (Sort.grow (W1.drewN n) os) fun e w' => e = .returned (str (dec a)) ∧ ∃ q os', w' = Sort.grow ((Sort.grow (W1.drewN n) os).drewN q) os' := fun n os => kA _ (G1.out.trans ⟨n, os, rfl⟩)
      have kB2 : ∀ n os, Calls Tryz.prog 102 #[.int .u32 b] (Sort.grow (W1.drewN n) os) fun e w' => e = .returned (str (dec b)) ∧ ∃ q os', w' = Sort.grow ((Sort.grow (W1.drewN n) os).drewN q) os' := fun n os => kB _ (G1.out.trans ⟨n, os, rfl⟩)
      have la := dec_len (n := a) (by omega)
      have lb := dec_len h2
      have n1 : ¬ 9223372036854775807 < op.length + (dec a).length := by omega
      have n2 : ¬ 9223372036854775807 < op.length + (dec a).length + 1 := by omega
      have n3 : ¬ 9223372036854775807 < op.length + (dec a).length + 1 + (dec b).length := by omega
      have n4 : ¬ 9223372036854775807 < op.length + (dec a).length + 1 + (dec b).length + cl.length := by omega
      clear la lb
      clear kA kB
      refine wp_region_quiet_grownB (by assumption) (by kernel_rfl) ?_
      repeat (refine wpQuiet_stepB (fun K hK => ?_); go_simp; first | (refine hK _ ?_; clear hK K) | (apply Exists.intro; refine ⟨fun _ => ?_, hK _ ?_⟩; (first | (go_at_call 102; with_reducible refine Calls.grown_of (kA2 _ _)) | (go_at_call 102; with_reducible refine Calls.grown_of (kB2 _ _))); clear hK K))
      refine wpQuiet_nilB ?_
      intro _ hw'
      obtain ⟨⟨nq, osq⟩, hw''⟩ := hw'
      subst hw''
      have G2 : Hid (Gr w (Sort.grow (W1.drewN nq) osq)) := G1.out.trans ⟨nq, osq, rfl⟩
      clear c0 c1' s1 s2 kA2 kB2
      go_wp2_with fail
      go_ret
      refine ⟨?_, G2.out⟩
      rw [str_lit #[45], str_app, str_app, str_app, str_app]
      simp

end Go.Proofs.YtjjlkjfhhpogaaaGreatDoor

namespace Go.Proofs.YtjjlkjfhhpogaaaGreatDoor
open Go.RowKit
open Go.Proofs.YtjjlkjfhhpogaaaGreatDoorS1 (NF)

def encX (l : Bs) : List Value := [str l]
theorem encX_len (l : Bs) : (encX l).length = 1 := rfl

theorem made_str {α : Type} {f : α → List Value} {n : Nat} (hf : ∀ x, (f x).length = n) (hn : 0 < n) (x : α) (zs : Array Value) (hz : zs.toList = f x) (N : Nat) : madeCells zs (N * n) = (cellsOf f (List.replicate N x)).toArray := by
  have hs : zs.size = n := by rw [← Array.length_toList, hz, hf]
  apply Array.ext_getElem?
  intro i
  by_cases hi : i < N * n
  · have h1 : i / n < N := (Nat.div_lt_iff_lt_mul hn).2 hi
    have h2 : i % n < n := Nat.mod_lt _ hn
    have h3 : i / n * n + i % n = i := by rw [Nat.mul_comm]; exact Nat.div_add_mod i n
    have h4 := cellsOf_at hf (List.replicate N x) (i / n) x (by simp [h1]) (i % n) (zs[i % n]!) (by
      rw [← hz, Array.getElem?_toList, getElem!_pos zs (i % n) (by omega)]
      exact Array.getElem?_eq_getElem (by omega))
    rw [h3] at h4
    have h5 : (cellsOf f (List.replicate N x)).toArray[i]? = some (zs[i % n]!) := by rw [List.getElem?_toArray]; exact h4
    rw [h5]
    simp [madeCells, hs, hi]
  · rw [Array.getElem?_eq_none (by simp [madeCells]; omega), Array.getElem?_eq_none (by simp [cellsOf_length hf]; omega)]

/-- The cells of a row of texts. -/
def srow (os : List Bs) : Array Value := (cellsOf encX os).toArray
theorem srow_map (os : List Bs) : srow os = (os.map fun l => str l).toArray := by
  unfold srow cellsOf
  congr 1
  induction os with
  | nil => rfl
  | cons a l ih => simp [encX, ih]
theorem srow_at {w : World} {b j : Nat} {os : List Bs} {l : Bs} (h : Blk w b (srow os) 9) (hj : os[j]? = some l) : w.cell? ⟨b, j, none⟩ = some (str l) := by
  rw [h.c, srow_map]
  simp [hj]
theorem srow_set {w : World} {b j : Nat} {os : List Bs} (h : Blk w b (srow os) 9) (l : Bs) : Blk (w.setCell ⟨b, j, none⟩ (str l)) b (srow (os.set j l)) 9 := by
  have := h.set j (str l)
  have e : (srow os).setIfInBounds j (str l) = srow (os.set j l) := by
    rw [srow_map, srow_map, List.setIfInBounds_toArray, List.map_set]
  rw [e] at this
  exact this
theorem info9 : (Tryz.prog.info? 9).map (fun i => (i.zero, i.size, i.bytes)) = some (some (.string ⟨#[]⟩), 1, 16) := by kernel_rfl
theorem make9 (N : Nat) (hN : N ≤ 1000000) (W : World) : (Instr.makeSlice 99 (.int .i64 N) (.int .i64 N)).run Tryz.prog W = .ok (.slice (some ⟨W.heap.size, 0, none⟩) N N) (W.alloc (.cells (srow (List.replicate N [])) 9)) := by
  obtain ⟨i, hi, hz, hz1, hz2⟩ := info_parts info9
  have := run_make (P := Tryz.prog) W 99 9 i _ Tryz.underlying99 hi hz .i64 .i64 N N (by omega) (by omega) (by rw [hz2]; omega) (by omega)
  rw [this, hz1]
  exact congrArg (fun c => Result.ok (Value.slice (some ⟨W.heap.size, 0, none⟩) N N) (W.alloc (.cells c 9))) (made_str encX_len (by omega) ([] : Bs) _ rfl N)

/-- A row that is filled, from its front on. -/
def partL {α : Type} (f : α → Bs) (l : List α) (k : Nat) : List Bs := (l.take k).map f ++ List.replicate (l.length - k) []
theorem partL_0 {α : Type} (f : α → Bs) (l : List α) : partL f l 0 = List.replicate l.length [] := by simp [partL]
theorem partL_all {α : Type} (f : α → Bs) (l : List α) {k : Nat} (h : l.length ≤ k) : partL f l k = l.map f := by
  simp [partL, List.take_of_length_le h, Nat.sub_eq_zero_of_le h]
theorem partL_set {α : Type} (f : α → Bs) (l : List α) {k : Nat} {x : α} (h : l[k]? = some x) : (partL f l k).set k (f x) = partL f l (k + 1) := by
  have hk := (List.getElem?_eq_some_iff.1 h).1
  unfold partL
  have h1 : ((l.take k).map f).length = k := by simp; omega
  rw [List.set_append_right _ _ (by omega), h1, Nat.sub_self, take_succ_of h, List.map_append]
  obtain ⟨m, hm⟩ : ∃ m, l.length - k = m + 1 := ⟨l.length - k - 1, by omega⟩
  have hm2 : l.length - (k + 1) = m := by omega
  rw [hm, hm2, List.replicate_succ]
  simp
theorem partL_cur {α : Type} (f : α → Bs) (l : List α) {k : Nat} (hk : k < l.length) : (partL f l k)[k]? = some [] := by
  unfold partL
  have h1 : ((l.take k).map f).length = k := by simp; omega
  rw [List.getElem?_append_right (by omega), h1, Nat.sub_self, List.getElem?_replicate, if_pos (by omega)]

theorem join_any {w : World} {b : Nat} {os : List Bs} {N : Nat} (sep : Bs) (h : Blk w b (srow os) 9) (hN : os.length = N) (hN2 : N ≤ 1000000) (hlen : (Lib.join os sep).length ≤ 100000000000) :
    Calls Tryz.prog 88 #[.slice (some ⟨b, 0, none⟩) N N, str sep] w fun e w' => e = .returned (str (Lib.join os sep)) ∧ Below w.heap.size w w' := by
  subst hN
  have e1 : (os.map fun l => (⟨l.toArray⟩ : ByteArray)).map (·.data.toList) = os := by
    rw [List.map_map]
    exact List.map_id'' (fun _ => rfl) os
  have h1 := Tryz.strings_Join b 0 os.length (os.map fun l => (⟨l.toArray⟩ : ByteArray)) ⟨sep.toArray⟩ w (fun j x hx => by
    rw [List.getElem?_map] at hx
    cases hl : os[j]? with
    | none => rw [hl] at hx; simp at hx
    | some l =>
      rw [hl] at hx
      simp at hx
      subst hx
      rw [Nat.zero_add]
      exact srow_at h hl) h.lt (by simp; omega) (by simp) (by rw [e1]; simp; omega)
  rw [e1] at h1
  simp only [List.length_map] at h1
  exact h1

theorem lens_le (xs : List Bs) (k : Nat) (h : ∀ x ∈ xs, x.length ≤ k) : Lib.lens xs ≤ xs.length * k := by
  induction xs with
  | nil => simp [Lib.lens]
  | cons a l ih =>
    have h1 := h a (by simp)
    have h2 := ih fun x hx => h x (by simp [hx])
    simp only [Lib.lens, List.map_cons, List.sum_cons, List.length_cons] at h2 ⊢
    rw [Nat.succ_mul]
    omega
theorem join_len_le (xs : List Bs) (c : UInt8) : (Lib.join xs [c]).length ≤ xs.length + Lib.lens xs := by
  cases xs with
  | nil => simp [Lib.join_nil]
  | cons x r => rw [Lib.join_length]; simp <;> omega
theorem span_len {y : Sty} (hy : okY y) {x : Int × Int} (h : 0 ≤ x.1 ∧ x.1 ≤ x.2 ∧ x.2 ≤ 4294967295) : (spanX y x).length ≤ 23 := by
  have h1 := dec_len (n := x.1) (by omega)
  have h2 := dec_len h.2.2
  obtain ⟨_, h3, h4⟩ := hy
  unfold spanX
  split
  · simp
  · split
    · omega
    · simp; omega
theorem join_spans {y : Sty} (hy : okY y) {m : List (Int × Int)} (hl : m.length ≤ 1000) (h : NF m) : (Lib.join (m.map (spanX y)) [124]).length ≤ 30000 := by
  have h1 := join_len_le (m.map (spanX y)) 124
  have h2 := lens_le (m.map (spanX y)) 23 (by
    intro x hx
    obtain ⟨z, hz, rfl⟩ := List.mem_map.1 hx
    exact span_len hy (h.1 z hz))
  simp only [List.length_map] at h1 h2
  omega

/-- Between the rounds of a list of texts. -/
structure SJ (y : Sty) (w : World) (tb : Nat) (os : List Bs) (W : World) : Prop where
  bel : Below w.heap.size w W
  row : Blk W tb (srow os) 9
  sty : BlkY W w.heap.size y
  htb : w.heap.size < tb
theorem SJ.go {y : Sty} {w : World} {tb : Nat} {os : List Bs} {W W' : World} (h : SJ y w tb os W) (g : Below W.heap.size W W') : SJ y w tb os W' := ⟨bstep h.bel g, h.row.bel g, h.sty.bel g, h.htb⟩
theorem SJ.set {y : Sty} {w : World} {tb : Nat} {os : List Bs} {W : World} (h : SJ y w tb os W) (j : Nat) (l : Bs) : SJ y w tb (os.set j l) (W.setCell ⟨tb, j, none⟩ (str l)) := ⟨h.bel.setCell (Nat.le_of_lt h.htb) _, srow_set h.row l, Blk.other h.sty (by have := h.htb; show w.heap.size ≠ tb; omega) _, h.htb⟩

set_option maxRecDepth 100000 in
set_option maxHeartbeats 4000000 in
theorem setText_any (y : Sty) (hy : okY y) (v : Value) (m : List (Int × Int)) (w : World) (hv : RowS w v m) (hnf : NF m) (hl : m.length ≤ 1000) (htab : TabP w) :
    Calls Tryz.prog 70 #[.agg (syc y), v] w fun e w' => e = .returned (str (setX y m)) ∧ Below w.heap.size w w' := by
  obtain ⟨ao, cap, rfl⟩ := hv.form
  obtain ⟨bw, op, cl⟩ := y
  by_cases c : m = []
  · subst c
    go_enter Tryz.func70, Tryz.ntmps70
    go_wp2_with fail
    go_ret
    exact ⟨rfl, bel_alloc _ _⟩
  · obtain ⟨N, hN⟩ : ∃ N, N = m.length := ⟨_, rfl⟩
    have hN0 : 0 < N := by rw [hN]; exact List.length_pos_iff.2 c
    have e1 : ((N : Int) == 0) = false := by simp <;> omega
    have HX : Hid (setX ⟨bw, op, cl⟩ m = brX (decide (1 < N)) (Lib.join (m.map (spanX ⟨bw, op, cl⟩)) [124])) := by show _ = _; rw [hN]; unfold setX; rw [if_neg c]
    have HN : Hid (N = m.length) := hN
    have HV : Hid (RowS w (.slice ao N cap) m) := by rw [hN]; exact hv
    have HNF : Hid (NF m) := hnf
    have HT : Hid (TabP w) := htab
    have hN1 : N ≤ 1000 := by omega
    have mk := fun W => make9 N (by omega) W
    have hlen : (Lib.join (m.map (spanX ⟨bw, op, cl⟩)) [124]).length ≤ 30000 := join_spans hy hl hnf
    have HY : Hid (okY ⟨bw, op, cl⟩) := hy
    have HLen : Hid ((Lib.join (m.map (spanX ⟨bw, op, cl⟩)) [124]).length ≤ 30000) := hlen
    rw [HX.out, ← hN]
    clear hv hnf htab hl hN c HX hlen hy
    go_enter Tryz.func70, Tryz.ntmps70
    go_wp2_with fail
    generalize hW : World.alloc _ _ = W1
    have I1 : Hid (SJ ⟨bw, op, cl⟩ w (w.heap.size + 1) (partL (spanX ⟨bw, op, cl⟩) m 0) W1) := by rw [← hW, partL_0, ← HN.out]; exact ⟨bstep (bel_alloc _ _) (bel_alloc _ _), Blk.new' _ _ _ _ (by simp), (Blk.new _ _ _).alloc _, Nat.lt_succ_self _⟩
    clear hW mk
    generalize w.heap.size + 1 = tb at I1 ⊢
    go_loopw [16] (fun vi wr => ∃ k : Nat, k ≤ N ∧ vi = .int .i64 k ∧ Hid (SJ ⟨bw, op, cl⟩ w tb (partL (spanX ⟨bw, op, cl⟩) m k) wr)) (fun vi _ => N - (intOf vi).toNat)
    case atStart => exact ⟨0, Nat.zero_le _, rfl, I1⟩
    case round =>
      clear I1
      obtain ⟨k, hk, rfl, I5⟩ := hrel
      by_cases hlt : k < N
      case pos =>
        obtain ⟨x, hx⟩ : ∃ x, m[k]? = some x := ⟨_, List.getElem?_eq_getElem (by have := HN.out; omega)⟩
        obtain ⟨b, off, rfl, hb, q0, q1⟩ := RowX.cs2 (HV.out.bel I5.out.bel) hx
        have hxb := HNF.out.1 x (List.mem_of_getElem? hx)
        have kS : ∀ W, Below w.heap.size w W → Calls Tryz.prog 87 #[.agg #[str bw, str op, str cl], .agg #[.int .u32 x.1, .int .u32 x.2]] W fun e w' => e = .returned (str (spanX ⟨bw, op, cl⟩ x)) ∧ Gr W w' := fun W g => spanText_any ⟨bw, op, cl⟩ x HY.out hxb W (HT.out.bel g)
        have HPS : Hid ((partL (spanX ⟨bw, op, cl⟩) m k).set k (spanX ⟨bw, op, cl⟩ x) = partL (spanX ⟨bw, op, cl⟩) m (k + 1)) := partL_set (spanX ⟨bw, op, cl⟩) m hx
        have hcur := srow_at I5.out.row (partL_cur (spanX ⟨bw, op, cl⟩) m (by have := HN.out; omega : k < m.length))
        have hlt2 : (k : Int) < N := by omega
        have HPC : Hid ((partL (spanX ⟨bw, op, cl⟩) m k)[k]? = some []) := partL_cur (spanX ⟨bw, op, cl⟩) m (by have := HN.out; omega)
        have HLt : Hid (tb < wr.heap.size) := I5.out.row.lt
        obtain ⟨s0, s1, s2⟩ := BlkY.cs (I5.out.go (bel_alloc wr (.cells #[.int .u32 x.1, .int .u32 x.2] 44))).sty
        have HSy : Hid (w.heap.size < wr.heap.size) := I5.out.sty.lt
        clear hx hxb hcur
        go_wp2_with (go_at_call 87; refine (kS _ (bstep I5.out.bel (bel_alloc _ _))).mono ?_; rintro _ w7 ⟨rfl, g7⟩; have I7 : Hid (SJ ⟨bw, op, cl⟩ w tb (partL (spanX ⟨bw, op, cl⟩) m k) w7) := (I5.out.go (bel_alloc _ _)).go g7.below; have t7 := srow_at I7.out.row HPC.out; have f7 := I7.out.row.frozen; clear g7)
        have J := I7.out.set k (spanX ⟨bw, op, cl⟩ x)
        rw [HPS.out] at J
        generalize hW8 : World.setCell _ _ _ = W8 at J ⊢
        have I8 : Hid (SJ ⟨bw, op, cl⟩ w tb (partL (spanX ⟨bw, op, cl⟩) m (k + 1)) W8) := J
        clear J hW8 I7 t7 f7
        go_roundw
        case rel => exact ⟨k + 1, by omega, by go_num, I8⟩
        case measure => simp [intOf]; omega
      case neg =>
        have hkN : k = N := by omega
        have hle : ¬ (k : Int) < N := by omega
        have I6 : Hid (SJ ⟨bw, op, cl⟩ w tb (m.map (spanX ⟨bw, op, cl⟩)) wr) := by
          have := I5.out
          rw [partL_all (spanX ⟨bw, op, cl⟩) m (by have := HN.out; omega)] at this
          exact this
        clear I5 hkN
        have kb : ∀ W, Calls Tryz.prog 72 #[str (Lib.join (m.map (spanX ⟨bw, op, cl⟩)) [124]), .bool (decide ((1 : Int) < (N : Int)))] W fun e w' => e = .returned (str (brX (decide (1 < N)) (Lib.join (m.map (spanX ⟨bw, op, cl⟩)) [124]))) ∧ w' = W := fun W => by
          have e : decide ((1 : Int) < (N : Int)) = decide (1 < N) := by apply Bool.eq_iff_iff.2; simp <;> omega
          rw [e]
          exact brack_any (Lib.join (m.map (spanX ⟨bw, op, cl⟩)) [124]) (decide (1 < N)) W (by have := HLen.out; omega)
        go_wp2_with (first
          | (go_at_call 88; refine (join_any [124] I6.out.row (by simp; exact HN.out.symm) (by omega) (by have := HLen.out; omega)).mono ?_; rintro _ w7 ⟨rfl, b7⟩; have B7 : Hid (Below w.heap.size w w7) := bstep I6.out.bel b7; clear b7)
          | (go_at_call 72; refine (kb _).mono ?_; rintro _ w8 ⟨rfl, rfl⟩))
        go_ret
        exact ⟨rfl, B7.out⟩

end Go.Proofs.YtjjlkjfhhpogaaaGreatDoor
