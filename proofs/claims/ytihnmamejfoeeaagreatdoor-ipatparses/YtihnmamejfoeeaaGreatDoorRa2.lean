/-
  The reader in memory: what turns and what stays; walks: took, refuse, must, ended, tooFull, star.
  Walks: refuse, ended, must, tooFull, star.
-/
import Derived.Test.YtihnmamejfoeeaaGreatDoorTi
import Derived.Test.YtihnmamejfoeeaaGreatDoorPm
namespace Go.Proofs.YtihnmamejfoeeaaGreatDoor
open Go.RowKit

/-- The reader's cells. -/
abbrev rc (s : ByteArray) (i : Nat) (wr ou fu : Bool) : Array Value := #[.string s, .int .i64 i, .bool wr, .bool ou, .bool fu]
abbrev BlkR (w : World) (b : Nat) (s : ByteArray) (i : Nat) (wr ou fu : Bool) : Prop := Blk w b (rc s i wr ou fu) 46

/-- Nothing old turns but block b. -/
structure Ex (b : Nat) (w w' : World) : Prop where
  os : w'.os = w.os
  tape : w'.tape = w.tape
  output : w'.output = w.output
  size : w.heap.size ≤ w'.heap.size
  block : ∀ g, g < w.heap.size → g ≠ b → w'.heap[g]? = w.heap[g]?
theorem Ex.refl (b : Nat) (w : World) : Ex b w w := ⟨rfl, rfl, rfl, Nat.le_refl _, fun _ _ _ => rfl⟩
theorem Ex.trans {b : Nat} {w w' w'' : World} (h : Ex b w w') (k : Ex b w' w'') : Ex b w w'' :=
  ⟨k.os.trans h.os, k.tape.trans h.tape, k.output.trans h.output, Nat.le_trans h.size k.size, fun g h1 h2 => (k.block g (Nat.lt_of_lt_of_le h1 h.size) h2).trans (h.block g h1 h2)⟩
theorem Ex.of_bel {b : Nat} {w w' : World} (h : Below w.heap.size w w') : Ex b w w' := ⟨h.os, h.tape, h.output, h.size, fun g h1 _ => h.block g h1⟩
theorem Ex.of_gr {b : Nat} {w w' : World} (h : Gr w w') : Ex b w w' := .of_bel h.below
theorem Ex.alloc {b : Nat} {w w' : World} (h : Ex b w w') (o : Obj) : Ex b w (w'.alloc o) := h.trans (.of_bel (bel_alloc _ _))
theorem Ex.drewN {b : Nat} {w w' : World} (h : Ex b w w') (n : Nat) : Ex b w (w'.drewN n) := h.trans (.of_bel (below_drewN (Below.refl _ _) n))
theorem Ex.setB {b : Nat} {w w' : World} (h : Ex b w w') (i : Nat) (v : Value) : Ex b w (w'.setCell ⟨b, i, none⟩ v) := by
  have e := (Below.refl 0 w').setCell (p := ⟨b, i, none⟩) (Nat.zero_le _) v
  exact ⟨e.os.trans h.os, e.tape.trans h.tape, e.output.trans h.output, Nat.le_trans h.size e.size, fun g h1 h2 => (Below.heap_setCell _ _ _ _ h2).trans (h.block g h1 h2)⟩
theorem Ex.setNew {b : Nat} {w w' : World} (h : Ex b w w') {g : Nat} (hg : w.heap.size ≤ g) (i : Nat) (v : Value) : Ex b w (w'.setCell ⟨g, i, none⟩ v) := by
  have e := (Below.refl 0 w').setCell (p := ⟨g, i, none⟩) (Nat.zero_le _) v
  exact ⟨e.os.trans h.os, e.tape.trans h.tape, e.output.trans h.output, Nat.le_trans h.size e.size, fun q h1 h2 => (Below.heap_setCell _ _ _ _ (by rintro rfl; omega)).trans (h.block q h1 h2)⟩
theorem Ex.grown {b : Nat} {w a w' : World} {o : Option Nat} (h : Ex b w a) (g : a.grownBy w' o) (ho : ∀ k, o = some k → w.heap.size ≤ k) : Ex b w w' := by
  have e := (Below.refl 0 a).grown g (Nat.zero_le _) (fun _ _ => Nat.zero_le _)
  exact ⟨e.os.trans h.os, e.tape.trans h.tape, e.output.trans h.output, Nat.le_trans h.size e.size, fun q h1 h2 => (g.block q (Nat.lt_of_lt_of_le h1 h.size) (fun e => by have := ho q e.symm; omega)).trans (h.block q h1 h2)⟩
theorem Blk.ex {b : Nat} {w w' : World} (h : Ex b w w') {g : Nat} {cs : Array Value} {t : TypeId} (hb : Blk w g cs t) (h2 : g ≠ b) : Blk w' g cs t := (h.block g hb.lt h2).trans hb
theorem HO.ex {b lo : Nat} {w w' : World} {t : Tree} {x : PC} (h : HO (fun g => lo ≤ g ∧ g < w.heap.size) w t x) (hB : Ex b w w') (hb : b < lo) : HO (fun g => lo ≤ g ∧ g < w'.heap.size) w' t x :=
  HO.same (fun _ hg => ⟨hg.1, Nat.lt_of_lt_of_le hg.2 hB.size⟩) (fun g hg => hB.block g hg.2 (by omega)) h

/-! ### Bytes of a text -/

theorem drop_lt {s : ByteArray} {i : Nat} {z : UInt8} {r : Bs} (h : s.data.toList.drop i = z :: r) : i < s.size := by
  have := congrArg List.length h
  simp at this
  have e : s.size = s.data.size := rfl
  omega
theorem drop_nil {s : ByteArray} {i : Nat} (hi : i ≤ s.size) (h : s.data.toList.drop i = []) : i = s.size := by
  have := congrArg List.length h
  simp at this
  have e : s.size = s.data.size := rfl
  omega
theorem drop_step {s : ByteArray} {i : Nat} {z : UInt8} {r : Bs} (h : s.data.toList.drop i = z :: r) : s.data.toList.drop (i + 1) = r := by
  rw [← List.drop_drop, h]; rfl
theorem drop_len {s : ByteArray} (i : Nat) : (s.data.toList.drop i).length = s.size - i := by
  rw [List.length_drop, Array.length_toList]; rfl
theorem str_at {s : ByteArray} {i : Nat} {z : UInt8} {r : Bs} (h : s.data.toList.drop i = z :: r) (W : World) : (Instr.index 9 (.string s) (.int .i64 i)).run Tryz.prog W = .ok (.int .u8 z.toNat) W := by
  have hlt := drop_lt h
  rw [run_index_string W 9 s .i64 i Tryz.underlying9, dif_pos ⟨by omega, by omega⟩]
  have e : s[(i : Int).toNat]'(by omega) = z := by
    have h1 : s.data.toList[i]? = some z := by
      have := congrArg (fun l => l[0]?) h
      simpa using this
    have h2 : i < s.data.size := hlt
    rw [Array.getElem?_toList, Array.getElem?_eq_getElem h2] at h1
    injection h1
  rw [e]

theorem u8_eq {z c : UInt8} : ((z.toNat : Int) == (c.toNat : Int)) = decide (z = c) := by
  by_cases h : z = c
  · subst h; simp
  · have : z.toNat ≠ c.toNat := fun e => h (UInt8.toNat_inj.1 e)
    simp [h]
    omega

theorem headIs_cons (c z : UInt8) (r : Bs) : headIs c (z :: r) = decide (z = c) := by simp [headIs]
theorem headIs_nil (c : UInt8) : headIs c [] = false := by simp [headIs]

set_option maxRecDepth 100000 in
set_option maxHeartbeats 1000000 in
theorem took_no {s : ByteArray} {b i : Nat} {wr ou fu : Bool} {c : UInt8} {w : World} (hi : i ≤ s.size) (hb : BlkR w b s i wr ou fu) (h : headIs c (s.data.toList.drop i) = false) :
    Calls Tryz.prog 28 #[.pointer (some ⟨b, 0, none⟩), .int .u8 c.toNat] w fun e w' => e = .returned (.bool false) ∧ Gr w w' := by
  have hmx : Tryz.prog.follows .mixedOrders = true := by kernel_rfl
  have c0 := fun n os => (hb.grow n os).c 0
  have c1 := fun n os => (hb.grow n os).c 1
  simp at c0 c1
  have bl := hb.lt
  cases e : s.data.toList.drop i with
  | nil =>
    have hi2 := drop_nil hi e
    have e1 : ((i : Int) == (s.size : Int)) = true := by simp; omega
    clear e h hi
    go_enter Tryz.func28, Tryz.ntmps28
    go_wp2_with fail
    refine wp_region_quiet_grownB (by assumption) (by kernel_rfl) ?_
    repeat (refine wpQuiet_stepB (fun K hK => ?_); go_simp; first | (refine hK _ ?_; clear hK K) | (apply Exists.intro; refine ⟨fun _ => ?_, hK _ ?_⟩; fail; clear hK K))
    refine wpQuiet_nilB ?_
    intro _ hw'
    obtain ⟨⟨nq, osq⟩, hw''⟩ := hw'
    subst hw''
    go_wp2_with fail
    go_ret
    exact ⟨rfl, nq, osq, rfl⟩
  | cons z r =>
    have hi2 := drop_lt e
    have e1 : ((i : Int) == (s.size : Int)) = false := by simp; omega
    have e2 : ((z.toNat : Int) == (c.toNat : Int)) = false := by rw [u8_eq]; rw [e, headIs_cons] at h; exact h
    have e3 : ((z.toNat : Int) != (c.toNat : Int)) = true := by simp [bne, e2]
    have hidx := str_at e
    clear e h hi
    go_enter Tryz.func28, Tryz.ntmps28
    go_wp2_with fail
    refine wp_region_quiet_grownB (by assumption) (by kernel_rfl) ?_
    repeat (refine wpQuiet_stepB (fun K hK => ?_); go_simp; first | (refine hK _ ?_; clear hK K) | (apply Exists.intro; refine ⟨fun _ => ?_, hK _ ?_⟩; fail; clear hK K))
    refine wpQuiet_nilB ?_
    intro _ hw'
    obtain ⟨⟨nq, osq⟩, hw''⟩ := hw'
    subst hw''
    go_wp2_with fail
    go_ret
    exact ⟨rfl, nq, osq, rfl⟩

set_option maxRecDepth 100000 in
set_option maxHeartbeats 1000000 in
theorem took_yes {s : ByteArray} {b i : Nat} {wr ou fu : Bool} {c : UInt8} {w : World} (_hs : s.size ≤ 3000) (hb : BlkR w b s i wr ou fu) (h : headIs c (s.data.toList.drop i) = true) :
    Calls Tryz.prog 28 #[.pointer (some ⟨b, 0, none⟩), .int .u8 c.toNat] w fun e w' => e = .returned (.bool true) ∧ Ex b w w' ∧ BlkR w' b s (i + 1) wr ou fu := by
  have hmx : Tryz.prog.follows .mixedOrders = true := by kernel_rfl
  have c0 := fun n os => (hb.grow n os).c 0
  have c1 := fun n os => (hb.grow n os).c 1
  simp at c0 c1
  have bl := hb.lt
  have HB : Hid (BlkR w b s i wr ou fu) := hb
  cases e : s.data.toList.drop i with
  | nil => rw [e, headIs_nil] at h; cases h
  | cons z r =>
    have hi2 := drop_lt e
    have e1 : ((i : Int) == (s.size : Int)) = false := by simp; omega
    have e2 : ((z.toNat : Int) == (c.toNat : Int)) = true := by rw [u8_eq]; rw [e, headIs_cons] at h; exact h
    have e3 : ((z.toNat : Int) != (c.toNat : Int)) = false := by simp [bne, e2]
    have hidx := str_at e
    clear e h hb
    go_enter Tryz.func28, Tryz.ntmps28
    go_wp2_with fail
    refine wp_region_quiet_grownB (by assumption) (by kernel_rfl) ?_
    repeat (refine wpQuiet_stepB (fun K hK => ?_); go_simp; first | (refine hK _ ?_; clear hK K) | (apply Exists.intro; refine ⟨fun _ => ?_, hK _ ?_⟩; fail; clear hK K))
    refine wpQuiet_nilB ?_
    intro _ hw'
    obtain ⟨⟨nq, osq⟩, hw''⟩ := hw'
    subst hw''
    clear c0 c1
    have HV : Hid (Gr w (Sort.grow (w.drewN nq) osq)) := ⟨nq, osq, rfl⟩
    generalize Sort.grow (w.drewN nq) osq = V at *
    have d1 := (HB.out.gr HV.out).c 1
    simp at d1
    have df := (HB.out.gr HV.out).frozen 1
    go_wp2_with fail
    go_ret
    refine ⟨rfl, (Ex.of_gr HV.out).setB 1 _, ?_⟩
    exact (HB.out.gr HV.out).set 1 (.int .i64 ((i + 1 : Nat) : Int))

end Go.Proofs.YtihnmamejfoeeaaGreatDoor

namespace Go.Proofs.YtihnmamejfoeeaaGreatDoor
open Go.RowKit

set_option maxRecDepth 100000 in
set_option maxHeartbeats 1000000 in
theorem refuse_any {s : ByteArray} {b i : Nat} {wr ou fu : Bool} {w : World} (hb : BlkR w b s i wr ou fu) :
    Calls Tryz.prog 30 #[.pointer (some ⟨b, 0, none⟩)] w fun e w' => (∃ v, e = .returned v) ∧ Ex b w w' ∧ BlkR w' b s s.size true ou fu := by
  have c0 := hb.c 0
  have c1 := hb.c 1
  have c2 := hb.c 2
  simp at c0 c1 c2
  have f1 := hb.frozen 1
  have f2 := hb.frozen 2
  have HB : Hid (BlkR w b s i wr ou fu) := hb
  clear hb
  go_enter Tryz.func30, Tryz.ntmps30
  go_wp2_with fail
  refine bodyPost_end (results_none rfl _ _ _) rfl ⟨⟨_, rfl⟩, ((Ex.refl b w).setB 2 _).setB 1 _, ?_⟩
  exact (HB.out.set 2 (.bool true)).set 1 (.int .i64 (s.size : Int))

set_option maxRecDepth 100000 in
set_option maxHeartbeats 1000000 in
theorem ended_any {s : ByteArray} {b i : Nat} {wr ou fu : Bool} {w : World} {q : Bool} (hi : i ≤ s.size) (hb : BlkR w b s i wr ou fu) (h : endsM (s.data.toList.drop i) = q) :
    Calls Tryz.prog 56 #[.pointer (some ⟨b, 0, none⟩)] w fun e w' => e = .returned (.bool q) ∧ Gr w w' := by
  have hmx : Tryz.prog.follows .mixedOrders = true := by kernel_rfl
  have c0 := fun n os => (hb.grow n os).c 0
  have c1 := fun n os => (hb.grow n os).c 1
  simp at c0 c1
  have bl := hb.lt
  have HB : Hid (BlkR w b s i wr ou fu) := hb
  cases e : s.data.toList.drop i with
  | nil =>
    have hi2 := drop_nil hi e
    rw [e] at h
    have hq : q = true := h.symm
    subst hq
    have e1 : ((i : Int) == (s.size : Int)) = true := by simp; omega
    clear e h hi hb
    go_enter Tryz.func56, Tryz.ntmps56
    go_wp2_with fail
    refine wp_region_quiet_grownB (by assumption) (by kernel_rfl) ?_
    repeat (refine wpQuiet_stepB (fun K hK => ?_); go_simp; first | (refine hK _ ?_; clear hK K) | (apply Exists.intro; refine ⟨fun _ => ?_, hK _ ?_⟩; fail; clear hK K))
    refine wpQuiet_nilB ?_
    intro _ hw'
    obtain ⟨⟨nq, osq⟩, hw''⟩ := hw'
    subst hw''
    go_wp2_with fail
    go_ret
    exact ⟨rfl, nq, osq, rfl⟩
  | cons z r =>
    have hi2 := drop_lt e
    have e1 : ((i : Int) == (s.size : Int)) = false := by simp; omega
    have hidx := str_at e
    rw [e] at h
    have hq : q = (decide (z = 124) || decide (z = 41) || decide (z = 36)) := h.symm
    have k1 : ((z.toNat : Int) == 124) = decide (z = 124) := u8_eq (c := 124)
    have k2 : ((z.toNat : Int) == 41) = decide (z = 41) := u8_eq (c := 41)
    have k3 : ((z.toNat : Int) == 36) = decide (z = 36) := u8_eq (c := 36)
    have HQ : Hid (q = (decide (z = 124) || decide (z = 41) || decide (z = 36))) := hq
    generalize decide (z = 124) = p1 at *
    generalize decide (z = 41) = p2 at *
    generalize decide (z = 36) = p3 at *
    clear e h hi hb hq
    go_enter Tryz.func56, Tryz.ntmps56
    go_wp2_with fail
    refine wp_region_quiet_grownB (by assumption) (by kernel_rfl) ?_
    repeat (refine wpQuiet_stepB (fun K hK => ?_); go_simp; first | (refine hK _ ?_; clear hK K) | (apply Exists.intro; refine ⟨fun _ => ?_, hK _ ?_⟩; fail; clear hK K))
    refine wpQuiet_nilB ?_
    intro _ hw'
    obtain ⟨⟨nq, osq⟩, hw''⟩ := hw'
    subst hw''
    clear c0 c1
    have HV : Hid (Gr w (Sort.grow (w.drewN nq) osq)) := ⟨nq, osq, rfl⟩
    generalize Sort.grow (w.drewN nq) osq = V at *
    have c0 := fun n os => ((HB.out.gr HV.out).grow n os).c 0
    have c1 := fun n os => ((HB.out.gr HV.out).grow n os).c 1
    simp at c0 c1
    have blv := (HB.out.gr HV.out).lt
    go_wp2_with fail
    refine wp_region_quiet_grownB (by assumption) (by kernel_rfl) ?_
    repeat (refine wpQuiet_stepB (fun K hK => ?_); go_simp; first | (refine hK _ ?_; clear hK K) | (apply Exists.intro; refine ⟨fun _ => ?_, hK _ ?_⟩; fail; clear hK K))
    refine wpQuiet_nilB ?_
    intro _ hw'
    obtain ⟨⟨nq2, osq2⟩, hw''⟩ := hw'
    subst hw''
    have HV2 : Hid (Gr w (Sort.grow (V.drewN nq2) osq2)) := HV.out.trans ⟨nq2, osq2, rfl⟩
    generalize Sort.grow (V.drewN nq2) osq2 = V2 at *
    clear c0 c1 hidx
    cases p1 <;> cases p2 <;> cases p3 <;> (
      have hqq : q = _ := HQ.out
      simp at hqq
      subst hqq
      go_wp2_with fail
      go_ret
      exact ⟨rfl, HV2.out⟩)

set_option maxRecDepth 100000 in
set_option maxHeartbeats 1000000 in
theorem tooFull_any {s : ByteArray} {b i : Nat} {wr ou fu : Bool} {w : World} (hb : BlkR w b s i wr ou fu) :
    Calls Tryz.prog 46 #[.pointer (some ⟨b, 0, none⟩)] w fun e w' => e = .returned (PC.v ⟨2, ⟨none, 0, 0⟩, ⟨none, 0, 0⟩⟩) ∧ Ex b w w' ∧ BlkR w' b s i wr ou true := by
  have hlt := hb.lt
  have hb2 : BlkR (w.alloc (.cells #[.int .i64 0, .slice none 0 0, .slice none 0 0] 26)) b s i wr ou fu := hb.alloc _
  have c4 := hb2.c 4
  simp at c4
  have f4 := hb2.frozen 4
  have HB : Hid (BlkR w b s i wr ou fu) := hb
  have n1 : b ≠ w.heap.size := by omega
  have n2 : w.heap.size ≠ b := by omega
  clear hb hb2
  go_enter Tryz.func46, Tryz.ntmps46
  go_wp2_with fail
  refine bodyPost_ret (v := PC.v ⟨2, ⟨none, 0, 0⟩, ⟨none, 0, 0⟩⟩) ?_ rfl ⟨rfl, ((Ex.refl b w).setB 4 _).alloc _, ?_⟩
  · simp [results, Tryz.results46]
    exact run_ptv (x := ⟨2, ⟨none, 0, 0⟩, ⟨none, 0, 0⟩⟩) (Blk.new' _ _ _ _ (by simp))
  · exact (HB.out.set 4 (.bool true)).alloc _

set_option maxRecDepth 100000 in
set_option maxHeartbeats 1000000 in
theorem star_any {lo : Nat} {t : Tree} {x : PC} {w : World} (hx : HO (fun g => lo ≤ g ∧ g < w.heap.size) w t x) (hlo : lo ≤ w.heap.size) :
    Calls Tryz.prog 31 #[x.v] w fun e w' => ∃ r : PC, e = .returned r.v ∧ HO (fun g => lo ≤ g ∧ g < w'.heap.size) w' (stT t) r ∧ Below w.heap.size w w' := by
  have HX : Hid (HO (fun g => lo ≤ g ∧ g < w.heap.size) w t x) := hx
  obtain ⟨xk, ⟨x1, x2, x3⟩, x4, x5, x6⟩ := x
  clear hx
  go_enter Tryz.func31, Tryz.ntmps31
  go_wp2_with fail
  refine bodyPost_ret (v := PC.v ⟨4, ⟨none, 0, 0⟩, ⟨some ⟨w.heap.size + 1 + 1, 0, none⟩, 1, 1⟩⟩) ?_ rfl ⟨_, rfl, ?_, bstep (bstep (bel_alloc _ _) (bel_alloc _ _)) (bel_alloc _ _)⟩
  · simp [results, Tryz.results31]
    exact run_ptv (x := ⟨4, ⟨none, 0, 0⟩, ⟨some ⟨w.heap.size + 1 + 1, 0, none⟩, 1, 1⟩⟩) ((Blk.new' _ _ _ _ (by simp)).alloc _)
  · exact HO_sub1 (((HX.out.bel (bel_alloc _ _)).bel (bel_alloc _ _)).bel (bel_alloc _ _)) (Blk.new' _ _ _ _ (by simp)) rfl ⟨by omega, by simp⟩

set_option maxRecDepth 100000 in
set_option maxHeartbeats 1000000 in
theorem must_yes {s : ByteArray} {b i : Nat} {wr ou fu : Bool} {c : UInt8} {w : World} (hs : s.size ≤ 3000) (hb : BlkR w b s i wr ou fu) (h : headIs c (s.data.toList.drop i) = true) :
    Calls Tryz.prog 83 #[.pointer (some ⟨b, 0, none⟩), .int .u8 c.toNat] w fun e w' => (∃ v, e = .returned v) ∧ Ex b w w' ∧ BlkR w' b s (i + 1) wr ou fu := by
  have kt := took_yes hs hb h
  clear hb
  go_enter Tryz.func83, Tryz.ntmps83
  go_wp2_with (go_at_call 28; refine kt.mono ?_; rintro _ w2 ⟨rfl, ex2, b2⟩; have E2 : Hid (Ex b w w2) := ex2; have B2 : Hid (BlkR w2 b s (i + 1) wr ou fu) := b2; clear ex2 b2)
  exact bodyPost_end (results_none rfl _ _ _) rfl ⟨⟨_, rfl⟩, E2.out, B2.out⟩

set_option maxRecDepth 100000 in
set_option maxHeartbeats 1000000 in
theorem must_no {s : ByteArray} {b i : Nat} {wr ou fu : Bool} {c : UInt8} {w : World} (hi : i ≤ s.size) (hb : BlkR w b s i wr ou fu) (h : headIs c (s.data.toList.drop i) = false) :
    Calls Tryz.prog 83 #[.pointer (some ⟨b, 0, none⟩), .int .u8 c.toNat] w fun e w' => (∃ v, e = .returned v) ∧ Ex b w w' ∧ BlkR w' b s s.size true ou fu := by
  have kt := took_no hi hb h
  have HB : Hid (BlkR w b s i wr ou fu) := hb
  have kr : ∀ W, BlkR W b s i wr ou fu → Calls Tryz.prog 30 #[.pointer (some ⟨b, 0, none⟩)] W fun e w' => (∃ v, e = .returned v) ∧ Ex b W w' ∧ BlkR w' b s s.size true ou fu := fun W h => refuse_any h
  clear hb
  go_enter Tryz.func83, Tryz.ntmps83
  go_wp2_with (first
    | (go_at_call 28; refine kt.mono ?_; rintro _ w2 ⟨rfl, g2⟩; have G2 : Hid (Gr w w2) := g2; clear g2)
    | (go_at_call 30; refine (kr _ (HB.out.gr G2.out)).mono ?_; rintro _ w3 ⟨⟨v3, rfl⟩, ex3, b3⟩; have E3 : Hid (Ex b w2 w3) := ex3; have B3 : Hid (BlkR w3 b s s.size true ou fu) := b3; clear ex3 b3))
  exact bodyPost_end (results_none rfl _ _ _) rfl ⟨⟨_, rfl⟩, (Ex.of_gr G2.out).trans E3.out, B3.out⟩

end Go.Proofs.YtihnmamejfoeeaaGreatDoor
