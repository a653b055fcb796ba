/-
  The reader in memory: what turns and what stays; walks of its methods: Next, Took, refuse, Must, Rise, tooFull.
-/
import Derived.Test.YtjjlkjfhhpogaaaGreatDoorTm
import Derived.Test.YtjjlkjfhhpogaaaGreatDoorPm
namespace Go.Proofs.YtjjlkjfhhpogaaaGreatDoor
open Go.RowKit

/-- The reader's cells. -/
abbrev rc (s : ByteArray) (i : Nat) (wr ou fu : Bool) : Array Value := #[.string s, .int .i64 i, .bool wr, .bool ou, .bool fu]
/-- A reader lies in block b, by itself or in another one's front. -/
def BlkR (w : World) (b : Nat) (s : ByteArray) (i : Nat) (wr ou fu : Bool) : Prop := ∃ T : TypeId, Blk w b (rc s i wr ou fu) T

/-- Nothing old turns but block b. -/
structure Ex (b : Nat) (w w' : World) : Prop where
  os : w'.os = w.os
  tape : w'.tape = w.tape
  output : w'.output = w.output
  size : w.heap.size ≤ w'.heap.size
  block : ∀ g, g < w.heap.size → g ≠ b → w'.heap[g]? = w.heap[g]?
theorem Ex.refl (b : Nat) (w : World) : Ex b w w := ⟨rfl, rfl, rfl, Nat.le_refl _, fun _ _ _ => rfl⟩
theorem Ex.trans {b : Nat} {w w' w'' : World} (h : Ex b w w') (k : Ex b w' w'') : Ex b w w'' :=
  ⟨k.os.trans h.os, k.tape.trans h.tape, k.output.trans h.output, Nat.le_trans h.size k.size, fun g h1 h2 => (k.block g (Nat.lt_of_lt_of_le h1 h.size) h2).trans (h.block g h1 h2)⟩
theorem Ex.of_bel {b : Nat} {w w' : World} (h : Below w.heap.size w w') : Ex b w w' := ⟨h.os, h.tape, h.output, h.size, fun g h1 _ => h.block g h1⟩
theorem Ex.of_gr {b : Nat} {w w' : World} (h : Gr w w') : Ex b w w' := .of_bel h.below
theorem Ex.alloc {b : Nat} {w w' : World} (h : Ex b w w') (o : Obj) : Ex b w (w'.alloc o) := h.trans (.of_bel (bel_alloc _ _))
theorem Ex.drewN {b : Nat} {w w' : World} (h : Ex b w w') (n : Nat) : Ex b w (w'.drewN n) := h.trans (.of_bel (below_drewN (Below.refl _ _) n))
theorem Ex.setB {b : Nat} {w w' : World} (h : Ex b w w') (i : Nat) (v : Value) : Ex b w (w'.setCell ⟨b, i, none⟩ v) := by
  have e := (Below.refl 0 w').setCell (p := ⟨b, i, none⟩) (Nat.zero_le _) v
  exact ⟨e.os.trans h.os, e.tape.trans h.tape, e.output.trans h.output, Nat.le_trans h.size e.size, fun g h1 h2 => (Below.heap_setCell _ _ _ _ h2).trans (h.block g h1 h2)⟩
theorem Ex.setNew {b : Nat} {w w' : World} (h : Ex b w w') {g : Nat} (hg : w.heap.size ≤ g) (i : Nat) (v : Value) : Ex b w (w'.setCell ⟨g, i, none⟩ v) := by
  have e := (Below.refl 0 w').setCell (p := ⟨g, i, none⟩) (Nat.zero_le _) v
  exact ⟨e.os.trans h.os, e.tape.trans h.tape, e.output.trans h.output, Nat.le_trans h.size e.size, fun q h1 h2 => (Below.heap_setCell _ _ _ _ (by rintro rfl; omega)).trans (h.block q h1 h2)⟩
theorem Ex.grown {b : Nat} {w a w' : World} {o : Option Nat} (h : Ex b w a) (g : a.grownBy w' o) (ho : ∀ k, o = some k → w.heap.size ≤ k) : Ex b w w' := by
  have e := (Below.refl 0 a).grown g (Nat.zero_le _) (fun _ _ => Nat.zero_le _)
  exact ⟨e.os.trans h.os, e.tape.trans h.tape, e.output.trans h.output, Nat.le_trans h.size e.size, fun q h1 h2 => (g.block q (Nat.lt_of_lt_of_le h1 h.size) (fun e => by have := ho q e.symm; omega)).trans (h.block q h1 h2)⟩
theorem Blk.ex {b : Nat} {w w' : World} (h : Ex b w w') {g : Nat} {cs : Array Value} {t : TypeId} (hb : Blk w g cs t) (h2 : g ≠ b) : Blk w' g cs t := (h.block g hb.lt h2).trans hb
theorem HO.ex {b lo : Nat} {w w' : World} {t : Tree} {x : PC} (h : HO (fun g => lo ≤ g ∧ g < w.heap.size) w t x) (hB : Ex b w w') (hb : b < lo) : HO (fun g => lo ≤ g ∧ g < w'.heap.size) w' t x :=
  HO.same (fun _ hg => ⟨hg.1, Nat.lt_of_lt_of_le hg.2 hB.size⟩) (fun g hg => hB.block g hg.2 (by omega)) h


section
variable {w w' : World} {b : Nat} {s : ByteArray} {i : Nat} {wr ou fu : Bool}
theorem BlkR.lt (h : BlkR w b s i wr ou fu) : b < w.heap.size := by obtain ⟨_, h⟩ := h; exact h.lt
theorem BlkR.c (h : BlkR w b s i wr ou fu) (k : Nat) : w.cell? ⟨b, k, none⟩ = (rc s i wr ou fu)[k]? := by obtain ⟨_, h⟩ := h; exact h.c k
theorem BlkR.frozen (h : BlkR w b s i wr ou fu) (k : Nat) : w.frozen? ⟨b, k, none⟩ = false := by obtain ⟨_, h⟩ := h; exact h.frozen k
theorem BlkR.bel (h : BlkR w b s i wr ou fu) (k : Below w.heap.size w w') : BlkR w' b s i wr ou fu := by obtain ⟨T, h⟩ := h; exact ⟨T, h.bel k⟩
theorem BlkR.gr (h : BlkR w b s i wr ou fu) (k : Gr w w') : BlkR w' b s i wr ou fu := h.bel k.below
theorem BlkR.grow (h : BlkR w b s i wr ou fu) (n : Nat) (os : Array Obj) : BlkR (Sort.grow (w.drewN n) os) b s i wr ou fu := h.gr ⟨n, os, rfl⟩
theorem BlkR.drewN (h : BlkR w b s i wr ou fu) (n : Nat) : BlkR (w.drewN n) b s i wr ou fu := by obtain ⟨T, h⟩ := h; exact ⟨T, h.drewN n⟩
theorem BlkR.alloc (h : BlkR w b s i wr ou fu) (o : Obj) : BlkR (w.alloc o) b s i wr ou fu := by obtain ⟨T, h⟩ := h; exact ⟨T, h.alloc o⟩
theorem BlkR.other (h : BlkR w b s i wr ou fu) {p : Addr} (hp : b ≠ p.block) (z : Value) : BlkR (w.setCell p z) b s i wr ou fu := by obtain ⟨T, h⟩ := h; exact ⟨T, h.other hp z⟩
theorem BlkR.grown (h : BlkR w b s i wr ou fu) {o : Option Nat} (hB : w.grownBy w' o) (ho : o ≠ some b) : BlkR w' b s i wr ou fu := by obtain ⟨T, h⟩ := h; exact ⟨T, h.grown hB ho⟩
theorem BlkR.set1 (h : BlkR w b s i wr ou fu) (j : Nat) : BlkR (w.setCell ⟨b, 1, none⟩ (.int .i64 (j : Nat))) b s j wr ou fu := by obtain ⟨T, h⟩ := h; exact ⟨T, h.set 1 (.int .i64 (j : Nat))⟩
theorem BlkR.set2 (h : BlkR w b s i wr ou fu) (q : Bool) : BlkR (w.setCell ⟨b, 2, none⟩ (.bool q)) b s i q ou fu := by obtain ⟨T, h⟩ := h; exact ⟨T, h.set 2 (.bool q)⟩
theorem BlkR.set3o (h : BlkR w b s i wr ou fu) (q : Bool) : BlkR (w.setCell ⟨b, 3, none⟩ (.bool q)) b s i wr q fu := by obtain ⟨T, h⟩ := h; exact ⟨T, h.set 3 (.bool q)⟩
theorem BlkR.set4 (h : BlkR w b s i wr ou fu) (q : Bool) : BlkR (w.setCell ⟨b, 4, none⟩ (.bool q)) b s i wr ou q := by obtain ⟨T, h⟩ := h; exact ⟨T, h.set 4 (.bool q)⟩
end
theorem BlkR.set3 {W : World} {g q : Nat} {s : ByteArray} {i : Nat} {wr ou fu : Bool} (h : BlkR W g s i wr ou fu) (hg : g ≠ q) (v0 v1 v2 : Value) : BlkR (((W.setCell ⟨q, 0, none⟩ v0).setCell ⟨q, 1, none⟩ v1).setCell ⟨q, 2, none⟩ v2) g s i wr ou fu :=
  ((h.other (p := ⟨q, 0, none⟩) hg _).other (p := ⟨q, 1, none⟩) hg _).other (p := ⟨q, 2, none⟩) hg _

/-! ### Bytes of a text -/

theorem drop_lt {s : ByteArray} {i : Nat} {z : UInt8} {r : Bs} (h : s.data.toList.drop i = z :: r) : i < s.size := by
  have := congrArg List.length h
  simp at this
  have e : s.size = s.data.size := rfl
  omega
theorem drop_nil {s : ByteArray} {i : Nat} (hi : i ≤ s.size) (h : s.data.toList.drop i = []) : i = s.size := by
  have := congrArg List.length h
  simp at this
  have e : s.size = s.data.size := rfl
  omega
theorem drop_step {s : ByteArray} {i : Nat} {z : UInt8} {r : Bs} (h : s.data.toList.drop i = z :: r) : s.data.toList.drop (i + 1) = r := by
  rw [← List.drop_drop, h]; rfl
theorem drop_len {s : ByteArray} (i : Nat) : (s.data.toList.drop i).length = s.size - i := by
  rw [List.length_drop, Array.length_toList]; rfl
theorem str_at {s : ByteArray} {i : Nat} {z : UInt8} {r : Bs} (h : s.data.toList.drop i = z :: r) (W : World) : (Instr.index 9 (.string s) (.int .i64 i)).run Tryz.prog W = .ok (.int .u8 z.toNat) W := by
  have hlt := drop_lt h
  rw [run_index_string W 9 s .i64 i Tryz.underlying9, dif_pos ⟨by omega, by omega⟩]
  have e : s[(i : Int).toNat]'(by omega) = z := by
    have h1 : s.data.toList[i]? = some z := by
      have := congrArg (fun l => l[0]?) h
      simpa using this
    have h2 : i < s.data.size := hlt
    rw [Array.getElem?_toList, Array.getElem?_eq_getElem h2] at h1
    injection h1
  rw [e]

theorem u8_eq {z c : UInt8} : ((z.toNat : Int) == (c.toNat : Int)) = decide (z = c) := by
  by_cases h : z = c
  · subst h; simp
  · have : z.toNat ≠ c.toNat := fun e => h (UInt8.toNat_inj.1 e)
    simp [h]
    omega

theorem headIs_cons (c z : UInt8) (r : Bs) : headIs c (z :: r) = decide (z = c) := by simp [headIs]
theorem headIs_nil (c : UInt8) : headIs c [] = false := by simp [headIs]

/-- The byte that stands next, 0 at the end. -/
def nx (s : ByteArray) (i : Nat) : Nat := match s.data.toList.drop i with | [] => 0 | z :: _ => z.toNat

set_option maxRecDepth 100000 in
set_option maxHeartbeats 1000000 in
theorem next_any {s : ByteArray} {b i : Nat} {wr ou fu : Bool} {w : World} (hi : i ≤ s.size) (hb : BlkR w b s i wr ou fu) :
    Calls Tryz.prog 65 #[.pointer (some ⟨b, 0, none⟩)] w fun e w' => e = .returned (.tuple #[.int .u8 (nx s i), .bool (decide (i < s.size))]) ∧ Gr w w' := by
  have hmx : Tryz.prog.follows .mixedOrders = true := by kernel_rfl
  have c0 := fun n os => (hb.grow n os).c 0
  have c1 := fun n os => (hb.grow n os).c 1
  simp at c0 c1
  have bl := hb.lt
  have HB : Hid (BlkR w b s i wr ou fu) := hb
  have HN : Hid (nx s i = match s.data.toList.drop i with | [] => 0 | z :: _ => z.toNat) := rfl
  rw [HN.out]
  cases e : s.data.toList.drop i with
  | nil =>
    have hi2 := drop_nil hi e
    have e1 : ((i : Int) == (s.size : Int)) = true := by simp; omega
    have e2 : decide (i < s.size) = false := by simp; omega
    rw [e2]
    clear e hi hb HN e2 hi2
    go_enter Tryz.func65, Tryz.ntmps65
    go_wp2_with fail
    refine wp_region_quiet_grownB (by assumption) (by kernel_rfl) ?_
    repeat (refine wpQuiet_stepB (fun K hK => ?_); go_simp; first | (refine hK _ ?_; clear hK K) | (apply Exists.intro; refine ⟨fun _ => ?_, hK _ ?_⟩; fail; clear hK K))
    refine wpQuiet_nilB ?_
    intro _ hw'
    obtain ⟨⟨nq, osq⟩, hw''⟩ := hw'
    subst hw''
    go_wp2_with fail
    refine bodyPost_ret (v := .tuple #[.int .u8 0, .bool false]) (by simp [results, Tryz.results65, go_sem]) rfl ⟨rfl, nq, osq, rfl⟩
  | cons z r =>
    have hi2 := drop_lt e
    have e1 : ((i : Int) == (s.size : Int)) = false := by simp; omega
    have hidx := str_at e
    have e2 : decide (i < s.size) = true := by simp; omega
    rw [e2]
    clear e hi hb HN e2
    go_enter Tryz.func65, Tryz.ntmps65
    go_wp2_with fail
    refine wp_region_quiet_grownB (by assumption) (by kernel_rfl) ?_
    repeat (refine wpQuiet_stepB (fun K hK => ?_); go_simp; first | (refine hK _ ?_; clear hK K) | (apply Exists.intro; refine ⟨fun _ => ?_, hK _ ?_⟩; fail; clear hK K))
    refine wpQuiet_nilB ?_
    intro _ hw'
    obtain ⟨⟨nq, osq⟩, hw''⟩ := hw'
    subst hw''
    clear c0 c1
    have HV : Hid (Gr w (Sort.grow (w.drewN nq) osq)) := ⟨nq, osq, rfl⟩
    generalize Sort.grow (w.drewN nq) osq = V at *
    have c0 := fun n os => ((HB.out.gr HV.out).grow n os).c 0
    have c1 := fun n os => ((HB.out.gr HV.out).grow n os).c 1
    simp at c0 c1
    have blv := (HB.out.gr HV.out).lt
    go_wp2_with fail
    refine wp_region_quiet_grownB (by assumption) (by kernel_rfl) ?_
    repeat (refine wpQuiet_stepB (fun K hK => ?_); go_simp; first | (refine hK _ ?_; clear hK K) | (apply Exists.intro; refine ⟨fun _ => ?_, hK _ ?_⟩; fail; clear hK K))
    refine wpQuiet_nilB ?_
    intro _ hw'
    obtain ⟨⟨nq2, osq2⟩, hw''⟩ := hw'
    subst hw''
    go_wp2_with fail
    refine bodyPost_ret (v := .tuple #[.int .u8 z.toNat, .bool true]) (by simp [results, Tryz.results65, go_sem]) rfl ⟨rfl, HV.out.trans ⟨nq2, osq2, rfl⟩⟩

theorem nx_head {s : ByteArray} {i : Nat} {c : UInt8} : (decide (i < s.size) && ((nx s i : Int) == (c.toNat : Int))) = headIs c (s.data.toList.drop i) := by
  have hl := drop_len (s := s) i
  unfold nx
  cases e : s.data.toList.drop i with
  | nil =>
    rw [e] at hl
    simp at hl
    rw [headIs_nil]
    have : decide (i < s.size) = false := by simp; omega
    rw [this]; rfl
  | cons z r =>
    have := drop_lt e
    rw [headIs_cons]
    have h2 : decide (i < s.size) = true := by simp; omega
    rw [h2, Bool.true_and]
    exact u8_eq

set_option maxRecDepth 100000 in
set_option maxHeartbeats 1000000 in
theorem took_no {s : ByteArray} {b i : Nat} {wr ou fu : Bool} {c : UInt8} {w : World} (hi : i ≤ s.size) (hb : BlkR w b s i wr ou fu) (h : headIs c (s.data.toList.drop i) = false) :
    Calls Tryz.prog 46 #[.pointer (some ⟨b, 0, none⟩), .int .u8 c.toNat] w fun e w' => e = .returned (.bool false) ∧ Gr w w' := by
  have kn := next_any hi hb
  rw [← nx_head] at h
  generalize decide (i < s.size) = q at kn h
  generalize nx s i = x at kn h
  clear hb hi
  cases q with
  | false =>
    clear h
    go_enter Tryz.func46, Tryz.ntmps46
    go_wp2_with (go_at_call 65; refine kn.mono ?_; rintro _ w2 ⟨rfl, g2⟩; have G2 : Hid (Gr w w2) := g2; clear g2)
    go_ret
    exact ⟨rfl, G2.out⟩
  | true =>
    rw [Bool.true_and] at h
    have e3 : ((x : Int) != (c.toNat : Int)) = true := by simp only [bne, h, Bool.not_false]
    go_enter Tryz.func46, Tryz.ntmps46
    go_wp2_with (go_at_call 65; refine kn.mono ?_; rintro _ w2 ⟨rfl, g2⟩; have G2 : Hid (Gr w w2) := g2; clear g2)
    go_ret
    exact ⟨rfl, G2.out⟩

set_option maxRecDepth 100000 in
set_option maxHeartbeats 1000000 in
theorem took_yes {s : ByteArray} {b i : Nat} {wr ou fu : Bool} {c : UInt8} {w : World} (hs : s.size ≤ 3000) (hb : BlkR w b s i wr ou fu) (h : headIs c (s.data.toList.drop i) = true) :
    Calls Tryz.prog 46 #[.pointer (some ⟨b, 0, none⟩), .int .u8 c.toNat] w fun e w' => e = .returned (.bool true) ∧ Ex b w w' ∧ BlkR w' b s (i + 1) wr ou fu := by
  have hlt : i < s.size := by
    cases e : s.data.toList.drop i with
    | nil => rw [e, headIs_nil] at h; cases h
    | cons z r => exact drop_lt e
  have kn := next_any (by omega) hb
  rw [← nx_head] at h
  have eq : decide (i < s.size) = true := by simpa using hlt
  rw [eq] at kn h
  rw [Bool.true_and] at h
  generalize nx s i = x at kn h
  have e3 : ((x : Int) != (c.toNat : Int)) = false := by simp only [bne, h, Bool.not_true]
  have HB : Hid (BlkR w b s i wr ou fu) := hb
  clear hb eq
  go_enter Tryz.func46, Tryz.ntmps46
  go_wp2_with (go_at_call 65; refine kn.mono ?_; rintro _ w2 ⟨rfl, g2⟩; have G2 : Hid (Gr w w2) := g2; have d1 := (HB.out.gr g2).c 1; simp at d1; have df := (HB.out.gr g2).frozen 1; clear g2)
  go_ret
  refine ⟨rfl, (Ex.of_gr G2.out).setB 1 _, ?_⟩
  exact (HB.out.gr G2.out).set1 (i + 1)

set_option maxRecDepth 100000 in
set_option maxHeartbeats 1000000 in
theorem refuse_any {s : ByteArray} {b i : Nat} {wr ou fu : Bool} {w : World} (hb : BlkR w b s i wr ou fu) :
    Calls Tryz.prog 132 #[.pointer (some ⟨b, 0, none⟩)] w fun e w' => (∃ v, e = .returned v) ∧ Ex b w w' ∧ BlkR w' b s s.size true ou fu := by
  have c0 := hb.c 0
  have c1 := hb.c 1
  have c2 := hb.c 2
  simp at c0 c1 c2
  have f1 := hb.frozen 1
  have f2 := hb.frozen 2
  have HB : Hid (BlkR w b s i wr ou fu) := hb
  clear hb
  go_enter Tryz.func132, Tryz.ntmps132
  go_wp2_with fail
  refine bodyPost_end (results_none rfl _ _ _) rfl ⟨⟨_, rfl⟩, ((Ex.refl b w).setB 2 _).setB 1 _, ?_⟩
  exact (HB.out.set2 true).set1 s.size

set_option maxRecDepth 100000 in
set_option maxHeartbeats 1000000 in
theorem tooFull_any {s : ByteArray} {b i : Nat} {wr ou fu : Bool} {w : World} (hb : BlkR w b s i wr ou fu) :
    Calls Tryz.prog 81 #[.pointer (some ⟨b, 0, none⟩)] w fun e w' => e = .returned (PC.v ⟨2, ⟨none, 0, 0⟩, ⟨none, 0, 0⟩⟩) ∧ Ex b w w' ∧ BlkR w' b s i wr ou true := by
  have hlt := hb.lt
  have hb2 : BlkR (w.alloc (.cells #[.int .i64 0, .slice none 0 0, .slice none 0 0] 26)) b s i wr ou fu := hb.alloc _
  have c4 := hb2.c 4
  simp at c4
  have f4 := hb2.frozen 4
  have HB : Hid (BlkR w b s i wr ou fu) := hb
  have n1 : b ≠ w.heap.size := by omega
  have n2 : w.heap.size ≠ b := by omega
  clear hb hb2
  go_enter Tryz.func81, Tryz.ntmps81
  go_wp2_with fail
  refine bodyPost_ret (v := PC.v ⟨2, ⟨none, 0, 0⟩, ⟨none, 0, 0⟩⟩) ?_ rfl ⟨rfl, ((Ex.refl b w).setB 4 _).alloc _, ?_⟩
  · simp [results, Tryz.results81]
    exact run_ptv (x := ⟨2, ⟨none, 0, 0⟩, ⟨none, 0, 0⟩⟩) (Blk.new' _ _ _ _ (by simp))
  · exact (HB.out.set4 true).alloc _

set_option maxRecDepth 100000 in
set_option maxHeartbeats 1000000 in
theorem must_yes {s : ByteArray} {b i : Nat} {wr ou fu : Bool} {c : UInt8} {w : World} (hs : s.size ≤ 3000) (hb : BlkR w b s i wr ou fu) (h : headIs c (s.data.toList.drop i) = true) :
    Calls Tryz.prog 119 #[.pointer (some ⟨b, 0, none⟩), .int .u8 c.toNat] w fun e w' => (∃ v, e = .returned v) ∧ Ex b w w' ∧ BlkR w' b s (i + 1) wr ou fu := by
  have kt := took_yes hs hb h
  clear hb
  go_enter Tryz.func119, Tryz.ntmps119
  go_wp2_with (go_at_call 46; refine kt.mono ?_; rintro _ w2 ⟨rfl, ex2, b2⟩; have E2 : Hid (Ex b w w2) := ex2; have B2 : Hid (BlkR w2 b s (i + 1) wr ou fu) := b2; clear ex2 b2)
  exact bodyPost_end (results_none rfl _ _ _) rfl ⟨⟨_, rfl⟩, E2.out, B2.out⟩

set_option maxRecDepth 100000 in
set_option maxHeartbeats 1000000 in
theorem must_no {s : ByteArray} {b i : Nat} {wr ou fu : Bool} {c : UInt8} {w : World} (hi : i ≤ s.size) (hb : BlkR w b s i wr ou fu) (h : headIs c (s.data.toList.drop i) = false) :
    Calls Tryz.prog 119 #[.pointer (some ⟨b, 0, none⟩), .int .u8 c.toNat] w fun e w' => (∃ v, e = .returned v) ∧ Ex b w w' ∧ BlkR w' b s s.size true ou fu := by
  have kt := took_no hi hb h
  have HB : Hid (BlkR w b s i wr ou fu) := hb
  have kr : ∀ W, BlkR W b s i wr ou fu → Calls Tryz.prog 132 #[.pointer (some ⟨b, 0, none⟩)] W fun e w' => (∃ v, e = .returned v) ∧ Ex b W w' ∧ BlkR w' b s s.size true ou fu := fun W h => refuse_any h
  clear hb
  go_enter Tryz.func119, Tryz.ntmps119
  go_wp2_with (first
    | (go_at_call 46; refine kt.mono ?_; rintro _ w2 ⟨rfl, g2⟩; have G2 : Hid (Gr w w2) := g2; clear g2)
    | (go_at_call 132; refine (kr _ (HB.out.gr G2.out)).mono ?_; rintro _ w3 ⟨⟨v3, rfl⟩, ex3, b3⟩; have E3 : Hid (Ex b w2 w3) := ex3; have B3 : Hid (BlkR w3 b s s.size true ou fu) := b3; clear ex3 b3))
  exact bodyPost_end (results_none rfl _ _ _) rfl ⟨⟨_, rfl⟩, (Ex.of_gr G2.out).trans E3.out, B3.out⟩

set_option maxRecDepth 100000 in
set_option maxHeartbeats 1000000 in
theorem rise_any {s : ByteArray} {b i : Nat} {wr ou fu : Bool} {l h : Int} {w : World} (hb : BlkR w b s i wr ou fu) :
    Calls Tryz.prog 118 #[.pointer (some ⟨b, 0, none⟩), .int .u32 l, .int .u32 h] w fun e w' => (∃ v, e = .returned v) ∧ Ex b w w' ∧ BlkR w' b s i wr (ou || decide (h < l)) fu := by
  have c3 := hb.c 3
  simp at c3
  have f3 := hb.frozen 3
  have HB : Hid (BlkR w b s i wr ou fu) := hb
  clear hb
  cases ou with
  | true =>
    rw [Bool.true_or]
    go_enter Tryz.func118, Tryz.ntmps118
    go_wp2_with fail
    exact bodyPost_end (results_none rfl _ _ _) rfl ⟨⟨_, rfl⟩, (Ex.refl b w).setB 3 _, HB.out.set3o true⟩
  | false =>
    rw [Bool.false_or]
    obtain ⟨q, hq⟩ : ∃ q, decide (h < l) = q := ⟨_, rfl⟩
    rw [hq]
    go_enter Tryz.func118, Tryz.ntmps118
    go_wp2_with fail
    exact bodyPost_end (results_none rfl _ _ _) rfl ⟨⟨_, rfl⟩, (Ex.refl b w).setB 3 _, HB.out.set3o q⟩

end Go.Proofs.YtjjlkjfhhpogaaaGreatDoor
