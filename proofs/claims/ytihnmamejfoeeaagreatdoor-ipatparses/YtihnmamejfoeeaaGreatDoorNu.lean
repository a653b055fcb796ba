/-
  The walk of number: the digits that stand next.
-/
import Derived.Test.YtihnmamejfoeeaaGreatDoorRa2
import Derived.Test.YtihnmamejfoeeaaGreatDoorTx
import Derived.WalkMore
import Derived.ScopeJumps
namespace Go.Proofs.YtihnmamejfoeeaaGreatDoor
open Go.RowKit

/-- Between the rounds: the digits ds stand from i to j, n is what they come to. -/
def NumI (s : ByteArray) (i j : Nat) (ds : Bs) (n : Nat) : Prop :=
  i ≤ j ∧ j ≤ s.size ∧ ds.length = j - i ∧ s.data.toList.drop i = ds ++ s.data.toList.drop j ∧ (∀ c ∈ ds, isDig c = true) ∧ n = min (val ds) 4294967296

theorem NumI.start {s : ByteArray} {i : Nat} (hi : i ≤ s.size) : NumI s i i [] 0 := ⟨Nat.le_refl _, hi, by simp, by simp, by simp, by simp [val]⟩
theorem NumI.step {s : ByteArray} {i j : Nat} {ds : Bs} {n : Nat} {z : UInt8} {r : Bs} (h : NumI s i j ds n) (hz : s.data.toList.drop j = z :: r) (hd : isDig z = true) : NumI s i (j + 1) (ds ++ [z]) (min (10 * n + (z.toNat - 48)) 4294967296) := by
  obtain ⟨h1, h2, h3, h4, h5, h6⟩ := h
  have := drop_lt hz
  refine ⟨by omega, by omega, by simp <;> omega, by rw [h4, hz, drop_step hz]; simp, ?_, ?_⟩
  · intro c hc
    rcases List.mem_append.1 hc with hc | hc
    · exact h5 c hc
    · simp at hc; subst hc; exact hd
  · rw [val_snoc, h6]
    omega
theorem num_end {s : ByteArray} {i j : Nat} {ds : Bs} {n : Nat} (h : NumI s i j ds n) (hn : nd (s.data.toList.drop j)) : numM (s.data.toList.drop i) = if ds = [] ∨ (ds.head? = some 48 ∧ 1 < ds.length) then none else some (val ds, s.data.toList.drop j) := by
  obtain ⟨h1, h2, h3, h4, h5, h6⟩ := h
  obtain ⟨a, b⟩ := takeWhile_append_all h5 hn
  unfold numM
  rw [h4, a, b]
theorem head_ds {s : ByteArray} {i j : Nat} {ds : Bs} {n : Nat} {z : UInt8} {r : Bs} (h : NumI s i j ds n) (hz : s.data.toList.drop i = z :: r) (hj : j ≠ i) : ds.head? = some z := by
  obtain ⟨h1, h2, h3, h4, h5, h6⟩ := h
  cases ds with
  | nil => simp at h3; omega
  | cons a l => rw [hz] at h4; simp at h4; simp [h4.1]

/-- Where the reader stands. -/
def posOf (b : Nat) (w : World) : Nat := match w.cell? ⟨b, 1, none⟩ with | some (.int _ k) => k.toNat | _ => 0
theorem posOf_blk {b i : Nat} {s : ByteArray} {wr ou fu : Bool} {w : World} (h : BlkR w b s i wr ou fu) : posOf b w = i := by
  have := h.c 1
  simp at this
  unfold posOf
  rw [this]
  simp

/-- What number comes to. -/
def NumP (s : ByteArray) (b i : Nat) (wr ou fu : Bool) (w : World) (e : Ending) (w' : World) : Prop :=
  ∃ (n at' : Nat) (wr' : Bool), e = .returned (.int .u64 (min n 4294967296 : Nat)) ∧ Ex b w w' ∧ BlkR w' b s at' wr' ou fu ∧ at' ≤ s.size ∧ i ≤ at' ∧
    ((numM (s.data.toList.drop i) = none ∧ wr' = true) ∨ ∃ r, numM (s.data.toList.drop i) = some (n, r) ∧ wr' = wr ∧ s.data.toList.drop at' = r)

set_option maxRecDepth 100000 in
set_option maxHeartbeats 8000000 in
theorem number_any {s : ByteArray} {b i : Nat} {wr ou fu : Bool} {w : World} (hi : i ≤ s.size) (hs : s.size ≤ 3000) (hb : BlkR w b s i wr ou fu) :
    Calls Tryz.prog 84 #[.pointer (some ⟨b, 0, none⟩)] w fun e w' => NumP s b i wr ou fu w e w' := by
  have hmx : Tryz.prog.follows .mixedOrders = true := by kernel_rfl
  have g1 := hb.c 1
  simp at g1
  have BB : Hid (BlkR w b s i wr ou fu) := hb
  have EX : Hid (Ex b w w) := Ex.refl b w
  clear hb
  go_enter Tryz.func84, Tryz.ntmps84
  go_wp2_with fail
  refine wp_scope_jumps 0 (fun a' w' => ∃ (j n : Nat) (ds : Bs) (u5 u6 u7 u8 u9 u10 u11 u12 u13 u14 u15 u16 u17 u18 u19 u20 u21 u22 u23 u24 u25 u26 u27 u28 u29 u30 u31 u32 u33 u34 u35 u36 u37 u38 u39 u40 u41 u42 u43 u44 u45 u46 u47 u48 u49 u50 u51 u52 u53 u54 u55 u56 u57 u58 u59 u60 u61 u62 u63 u64 : Value), a' = { tmps := #[.pointer (some ⟨b, 0, none⟩), undef, .int .u64 0, .int .i64 i, .int .u64 (n : Nat), u5, u6, u7, u8, u9, u10, u11, u12, u13, u14, u15, u16, u17, u18, u19, u20, u21, u22, u23, u24, u25, u26, u27, u28, u29, u30, u31, u32, u33, u34, u35, u36, u37, u38, u39, u40, u41, u42, u43, u44, u45, u46, u47, u48, u49, u50, u51, u52, u53, u54, u55, u56, u57, u58, u59, u60, u61, u62, u63, u64, undef, undef, undef, undef, undef, undef, undef, undef, undef, undef, undef, undef, undef, undef, undef, undef, undef, undef, undef, undef, undef, undef, undef, undef, undef, undef, undef], defers := [] } ∧ Hid (NumI s i j ds n) ∧ Hid (Ex b w w') ∧ Hid (BlkR w' b s j wr ou fu)) (fun _ w' => s.size - posOf b w') rfl ?first ?pass
  case first =>
    go_wp2_with fail
    go_step3
    go_wp2_with fail
    have ID : Hid (NumI s i i [] 0) := NumI.start hi
    generalize hds : ([] : Bs) = ds at ID
    clear hds
    have c0 := fun n os => (BB.out.grow n os).c 0
    have c1 := fun n os => (BB.out.grow n os).c 1
    simp at c0 c1
    have bl := BB.out.lt
    cases hz : s.data.toList.drop i with
    | nil =>
      have hi2 := drop_nil ID.out.2.1 hz
      have e1 : decide ((i : Int) < (s.size : Int)) = false := by simp <;> omega
      have e1n : decide (i < s.size) = false := by simp <;> omega
      have NDJ : nd (s.data.toList.drop i) := by rw [hz]; intro c hc; simp at hc
      clear hi2
      refine wp_region_quiet_grownB (by assumption) (by kernel_rfl) ?_
      repeat (refine wpQuiet_stepB (fun K hK => ?_); go_simp; first | (refine hK _ ?_; clear hK K) | (apply Exists.intro; refine ⟨fun _ => ?_, hK _ ?_⟩; fail; clear hK K))
      refine wpQuiet_nilB ?_
      intro _ hw'
      obtain ⟨⟨nq, osq⟩, hw''⟩ := hw'
      subst hw''
      clear c0 c1
      have EX2 : Hid (Ex b w (Sort.grow (w.drewN nq) osq)) := EX.out.trans (Ex.of_gr ⟨nq, osq, rfl⟩)
      have BB2 : Hid (BlkR (Sort.grow (w.drewN nq) osq) b s i wr ou fu) := BB.out.gr ⟨nq, osq, rfl⟩
      generalize Sort.grow (w.drewN nq) osq = V at *
      clear EX BB hz
      have HE : Hid (numM (s.data.toList.drop i) = if ds = [] ∨ (ds.head? = some 48 ∧ 1 < ds.length) then none else some (val ds, s.data.toList.drop i)) := num_end ID.out NDJ
      have kr : ∀ W, BlkR W b s i wr ou fu → Calls Tryz.prog 30 #[.pointer (some ⟨b, 0, none⟩)] W fun e w' => (∃ v, e = .returned v) ∧ Ex b W w' ∧ BlkR w' b s s.size true ou fu := fun W h => refuse_any h
      have g0 := BB2.out.c 0
      have g1 := BB2.out.c 1
      simp at g0 g1
      have bl2 := BB2.out.lt
      by_cases hji : i = i
      case pos =>
        have e5 : ((i : Int) == (i : Int)) = true := by simp <;> omega
        have HN : Hid (numM (s.data.toList.drop i) = none) := by show _ = _; rw [HE.out, if_pos (Or.inl (List.length_eq_zero_iff.1 (by have := ID.out.2.2.1; omega)))]
        go_wp2_with (go_at_call 30; refine (kr _ BB2.out).mono ?_; rintro _ w9 ⟨⟨v9, rfl⟩, ex9, b9⟩; have E9 : Hid (Ex b w w9) := EX2.out.trans ex9; have B9 : Hid (BlkR w9 b s s.size true ou fu) := b9; clear ex9 b9)
        try simp only [Exit.jump]
        go_ret
        exact ⟨val ds, _, true, by rw [← ID.out.2.2.2.2.2]; rfl, E9.out, B9.out, Nat.le_refl _, by have := ID.out.1; have := ID.out.2.1; omega, Or.inl ⟨HN.out, rfl⟩⟩
      case neg =>
        exact absurd rfl hji
    | cons z r =>
      have hi2 := drop_lt hz
      have e1 : decide ((i : Int) < (s.size : Int)) = true := by simp <;> omega
      have hidx := str_at hz
      by_cases hd : isDig z = true
      case neg =>
        have NDJ : nd (s.data.toList.drop i) := by rw [hz]; intro c hc; simp at hc; subst hc; simpa using hd
        have hd2 : ¬ (48 ≤ z.toNat ∧ z.toNat ≤ 57) := by intro h; exact hd (by simp [isDig, h.1, h.2])
        clear hd
        by_cases h48 : 48 ≤ z.toNat
        case pos =>
          have e2 : decide ((48 : Int) ≤ (z.toNat : Int)) = true := by simp <;> omega
          have e3 : decide ((z.toNat : Int) ≤ 57) = false := by simp <;> omega
          refine wp_region_quiet_grownB (by assumption) (by kernel_rfl) ?_
          repeat (refine wpQuiet_stepB (fun K hK => ?_); go_simp; first | (refine hK _ ?_; clear hK K) | (apply Exists.intro; refine ⟨fun _ => ?_, hK _ ?_⟩; fail; clear hK K))
          refine wpQuiet_nilB ?_
          intro _ hw'
          obtain ⟨⟨nq, osq⟩, hw''⟩ := hw'
          subst hw''
          clear c0 c1
          have EX2 : Hid (Ex b w (Sort.grow (w.drewN nq) osq)) := EX.out.trans (Ex.of_gr ⟨nq, osq, rfl⟩)
          have BB2 : Hid (BlkR (Sort.grow (w.drewN nq) osq) b s i wr ou fu) := BB.out.gr ⟨nq, osq, rfl⟩
          generalize Sort.grow (w.drewN nq) osq = V at *
          clear EX BB hz hd2 hidx
          have HE : Hid (numM (s.data.toList.drop i) = if ds = [] ∨ (ds.head? = some 48 ∧ 1 < ds.length) then none else some (val ds, s.data.toList.drop i)) := num_end ID.out NDJ
          have kr : ∀ W, BlkR W b s i wr ou fu → Calls Tryz.prog 30 #[.pointer (some ⟨b, 0, none⟩)] W fun e w' => (∃ v, e = .returned v) ∧ Ex b W w' ∧ BlkR w' b s s.size true ou fu := fun W h => refuse_any h
          have g0 := BB2.out.c 0
          have g1 := BB2.out.c 1
          simp at g0 g1
          have bl2 := BB2.out.lt
          by_cases hji : i = i
          case pos =>
            have e5 : ((i : Int) == (i : Int)) = true := by simp <;> omega
            have HN : Hid (numM (s.data.toList.drop i) = none) := by show _ = _; rw [HE.out, if_pos (Or.inl (List.length_eq_zero_iff.1 (by have := ID.out.2.2.1; omega)))]
            go_wp2_with (go_at_call 30; refine (kr _ BB2.out).mono ?_; rintro _ w9 ⟨⟨v9, rfl⟩, ex9, b9⟩; have E9 : Hid (Ex b w w9) := EX2.out.trans ex9; have B9 : Hid (BlkR w9 b s s.size true ou fu) := b9; clear ex9 b9)
            try simp only [Exit.jump]
            go_ret
            exact ⟨val ds, _, true, by rw [← ID.out.2.2.2.2.2]; rfl, E9.out, B9.out, Nat.le_refl _, by have := ID.out.1; have := ID.out.2.1; omega, Or.inl ⟨HN.out, rfl⟩⟩
          case neg =>
            exact absurd rfl hji
        case neg =>
          have e2 : decide ((48 : Int) ≤ (z.toNat : Int)) = false := by simp <;> omega
          refine wp_region_quiet_grownB (by assumption) (by kernel_rfl) ?_
          repeat (refine wpQuiet_stepB (fun K hK => ?_); go_simp; first | (refine hK _ ?_; clear hK K) | (apply Exists.intro; refine ⟨fun _ => ?_, hK _ ?_⟩; fail; clear hK K))
          refine wpQuiet_nilB ?_
          intro _ hw'
          obtain ⟨⟨nq, osq⟩, hw''⟩ := hw'
          subst hw''
          clear c0 c1
          have EX2 : Hid (Ex b w (Sort.grow (w.drewN nq) osq)) := EX.out.trans (Ex.of_gr ⟨nq, osq, rfl⟩)
          have BB2 : Hid (BlkR (Sort.grow (w.drewN nq) osq) b s i wr ou fu) := BB.out.gr ⟨nq, osq, rfl⟩
          generalize Sort.grow (w.drewN nq) osq = V at *
          clear EX BB hz hd2 hidx
          have HE : Hid (numM (s.data.toList.drop i) = if ds = [] ∨ (ds.head? = some 48 ∧ 1 < ds.length) then none else some (val ds, s.data.toList.drop i)) := num_end ID.out NDJ
          have kr : ∀ W, BlkR W b s i wr ou fu → Calls Tryz.prog 30 #[.pointer (some ⟨b, 0, none⟩)] W fun e w' => (∃ v, e = .returned v) ∧ Ex b W w' ∧ BlkR w' b s s.size true ou fu := fun W h => refuse_any h
          have g0 := BB2.out.c 0
          have g1 := BB2.out.c 1
          simp at g0 g1
          have bl2 := BB2.out.lt
          by_cases hji : i = i
          case pos =>
            have e5 : ((i : Int) == (i : Int)) = true := by simp <;> omega
            have HN : Hid (numM (s.data.toList.drop i) = none) := by show _ = _; rw [HE.out, if_pos (Or.inl (List.length_eq_zero_iff.1 (by have := ID.out.2.2.1; omega)))]
            go_wp2_with (go_at_call 30; refine (kr _ BB2.out).mono ?_; rintro _ w9 ⟨⟨v9, rfl⟩, ex9, b9⟩; have E9 : Hid (Ex b w w9) := EX2.out.trans ex9; have B9 : Hid (BlkR w9 b s s.size true ou fu) := b9; clear ex9 b9)
            try simp only [Exit.jump]
            go_ret
            exact ⟨val ds, _, true, by rw [← ID.out.2.2.2.2.2]; rfl, E9.out, B9.out, Nat.le_refl _, by have := ID.out.1; have := ID.out.2.1; omega, Or.inl ⟨HN.out, rfl⟩⟩
          case neg =>
            exact absurd rfl hji
      case pos =>
        have hd2 : 48 ≤ z.toNat ∧ z.toNat ≤ 57 := by simpa [isDig] using hd
        have e2 : decide ((48 : Int) ≤ (z.toNat : Int)) = true := by simp <;> omega
        have e3 : decide ((z.toNat : Int) ≤ 57) = true := by simp <;> omega
        have ID2 : Hid (NumI s i (i + 1) (ds ++ [z]) (min (10 * 0 + (z.toNat - 48)) 4294967296)) := NumI.step ID.out hz hd
        have v1 : IntKind.u8.wrap ((z.toNat : Int) - 48) = ((z.toNat - 48 : Nat) : Int) := by rw [IntKind.wrap_u8]; omega
        have v2 : IntKind.u64.wrap ((z.toNat - 48 : Nat) : Int) = ((z.toNat - 48 : Nat) : Int) := by rw [IntKind.wrap_u64]; omega
        have v3 : IntKind.u64.wrap 0 = 0 := by rw [IntKind.wrap_u64]; rfl
        have v4 : IntKind.u64.wrap (10 * (0 : Int) + ((z.toNat - 48 : Nat) : Int)) = 10 * (0 : Int) + ((z.toNat - 48 : Nat) : Int) := by rw [IntKind.wrap_u64]; have := ID.out.2.2.2.2.2; omega
        clear hd
        refine wp_region_quiet_grownB (by assumption) (by kernel_rfl) ?_
        repeat (refine wpQuiet_stepB (fun K hK => ?_); go_simp; first | (refine hK _ ?_; clear hK K) | (apply Exists.intro; refine ⟨fun _ => ?_, hK _ ?_⟩; fail; clear hK K))
        refine wpQuiet_nilB ?_
        intro _ hw'
        obtain ⟨⟨nq, osq⟩, hw''⟩ := hw'
        subst hw''
        clear c0 c1
        have EX2 : Hid (Ex b w (Sort.grow (w.drewN nq) osq)) := EX.out.trans (Ex.of_gr ⟨nq, osq, rfl⟩)
        have BB2 : Hid (BlkR (Sort.grow (w.drewN nq) osq) b s i wr ou fu) := BB.out.gr ⟨nq, osq, rfl⟩
        generalize Sort.grow (w.drewN nq) osq = V at *
        clear EX BB hz
        go_wp2_with fail
        have c0 := fun n os => (BB2.out.grow n os).c 0
        have c1 := fun n os => (BB2.out.grow n os).c 1
        simp at c0 c1
        have bl := BB2.out.lt
        refine wp_region_quiet_grownB (by assumption) (by kernel_rfl) ?_
        repeat (refine wpQuiet_stepB (fun K hK => ?_); go_simp; first | (refine hK _ ?_; clear hK K) | (apply Exists.intro; refine ⟨fun _ => ?_, hK _ ?_⟩; fail; clear hK K))
        refine wpQuiet_nilB ?_
        intro _ hw'
        obtain ⟨⟨nq, osq⟩, hw''⟩ := hw'
        subst hw''
        clear c0 c1
        have EX3 : Hid (Ex b w (Sort.grow (V.drewN nq) osq)) := EX2.out.trans (Ex.of_gr ⟨nq, osq, rfl⟩)
        have BB3 : Hid (BlkR (Sort.grow (V.drewN nq) osq) b s i wr ou fu) := BB2.out.gr ⟨nq, osq, rfl⟩
        generalize Sort.grow (V.drewN nq) osq = V3 at *
        clear EX2 BB2 hidx
        have g1 := BB3.out.c 1
        simp at g1
        have gf := BB3.out.frozen 1
        go_wp2_with fail
        all_goals go_step3
        all_goals refine ⟨rfl, ?_⟩
        all_goals first
          | (have e9 : min (10 * 0 + (z.toNat - 48)) 4294967296 = 4294967296 := (by omega); rw [e9] at ID2; exact ⟨i + 1, _, _, _, _, _, _, _, _, _, _, _, _, _, _, _, _, _, _, _, _, _, _, _, _, _, _, _, _, _, _, _, _, _, _, _, _, _, _, _, _, _, _, _, _, _, _, _, _, _, _, _, _, _, _, _, _, _, _, _, _, _, _, rfl, ID2, EX3.out.setB 1 _, BB3.out.set 1 (.int .i64 ((i + 1 : Nat) : Int))⟩)
          | (have e9 : min (10 * 0 + (z.toNat - 48)) 4294967296 = (z.toNat - 48) := (by omega); rw [e9] at ID2; exact ⟨i + 1, _, _, _, _, _, _, _, _, _, _, _, _, _, _, _, _, _, _, _, _, _, _, _, _, _, _, _, _, _, _, _, _, _, _, _, _, _, _, _, _, _, _, _, _, _, _, _, _, _, _, _, _, _, _, _, _, _, _, _, _, _, _, rfl, ID2, EX3.out.setB 1 _, BB3.out.set 1 (.int .i64 ((i + 1 : Nat) : Int))⟩)
  case pass =>
    rintro a' wr0 ⟨j, n, ds, u5, u6, u7, u8, u9, u10, u11, u12, u13, u14, u15, u16, u17, u18, u19, u20, u21, u22, u23, u24, u25, u26, u27, u28, u29, u30, u31, u32, u33, u34, u35, u36, u37, u38, u39, u40, u41, u42, u43, u44, u45, u46, u47, u48, u49, u50, u51, u52, u53, u54, u55, u56, u57, u58, u59, u60, u61, u62, u63, u64, rfl, ID, EX, BB⟩
    have HP : Hid (posOf b wr0 = j) := posOf_blk BB.out
    clear g1
    go_wp2_with fail
    have c0 := fun n os => (BB.out.grow n os).c 0
    have c1 := fun n os => (BB.out.grow n os).c 1
    simp at c0 c1
    have bl := BB.out.lt
    cases hz : s.data.toList.drop j with
    | nil =>
      have hi2 := drop_nil ID.out.2.1 hz
      have e1 : decide ((j : Int) < (s.size : Int)) = false := by simp <;> omega
      have e1n : decide (j < s.size) = false := by simp <;> omega
      have NDJ : nd (s.data.toList.drop j) := by rw [hz]; intro c hc; simp at hc
      clear hi2
      refine wp_region_quiet_grownB (by assumption) (by kernel_rfl) ?_
      repeat (refine wpQuiet_stepB (fun K hK => ?_); go_simp; first | (refine hK _ ?_; clear hK K) | (apply Exists.intro; refine ⟨fun _ => ?_, hK _ ?_⟩; fail; clear hK K))
      refine wpQuiet_nilB ?_
      intro _ hw'
      obtain ⟨⟨nq, osq⟩, hw''⟩ := hw'
      subst hw''
      clear c0 c1
      have EX2 : Hid (Ex b w (Sort.grow (wr0.drewN nq) osq)) := EX.out.trans (Ex.of_gr ⟨nq, osq, rfl⟩)
      have BB2 : Hid (BlkR (Sort.grow (wr0.drewN nq) osq) b s j wr ou fu) := BB.out.gr ⟨nq, osq, rfl⟩
      generalize Sort.grow (wr0.drewN nq) osq = V at *
      clear EX BB hz
      have HE : Hid (numM (s.data.toList.drop i) = if ds = [] ∨ (ds.head? = some 48 ∧ 1 < ds.length) then none else some (val ds, s.data.toList.drop j)) := num_end ID.out NDJ
      have kr : ∀ W, BlkR W b s j wr ou fu → Calls Tryz.prog 30 #[.pointer (some ⟨b, 0, none⟩)] W fun e w' => (∃ v, e = .returned v) ∧ Ex b W w' ∧ BlkR w' b s s.size true ou fu := fun W h => refuse_any h
      have g0 := BB2.out.c 0
      have g1 := BB2.out.c 1
      simp at g0 g1
      have bl2 := BB2.out.lt
      by_cases hji : j = i
      case pos =>
        have e5 : ((j : Int) == (i : Int)) = true := by simp <;> omega
        have HN : Hid (numM (s.data.toList.drop i) = none) := by show _ = _; rw [HE.out, if_pos (Or.inl (List.length_eq_zero_iff.1 (by have := ID.out.2.2.1; omega)))]
        go_wp2_with (go_at_call 30; refine (kr _ BB2.out).mono ?_; rintro _ w9 ⟨⟨v9, rfl⟩, ex9, b9⟩; have E9 : Hid (Ex b w w9) := EX2.out.trans ex9; have B9 : Hid (BlkR w9 b s s.size true ou fu) := b9; clear ex9 b9)
        try simp only [Exit.jump]
        go_ret
        exact ⟨val ds, _, true, by rw [← ID.out.2.2.2.2.2]; rfl, E9.out, B9.out, Nat.le_refl _, by have := ID.out.1; have := ID.out.2.1; omega, Or.inl ⟨HN.out, rfl⟩⟩
      case neg =>
        have e5 : ((j : Int) == (i : Int)) = false := by have := hji; simp <;> omega
        obtain ⟨z0, r0, hz0⟩ : ∃ z0 r0, s.data.toList.drop i = z0 :: r0 := by
          cases h : s.data.toList.drop i with
          | nil => exact absurd (drop_nil (by have := ID.out.1; have := ID.out.2.1; omega) h) (by have := ID.out.1; have := ID.out.2.1; omega)
          | cons a l => exact ⟨a, l, rfl⟩
        have hidx0 := str_at hz0
        have hil := drop_lt hz0
        have HD : Hid (ds.head? = some z0) := head_ds ID.out hz0 hji
        have k48 : ((z0.toNat : Int) == 48) = decide (z0 = 48) := u8_eq (c := 48)
        by_cases hq : z0 = 48 ∧ i + 1 < j
        case pos =>
          have e6 : ((z0.toNat : Int) == 48) = true := by rw [k48]; simp [hq.1]
          have e7 : decide ((i : Int) + 1 < (j : Int)) = true := by simp <;> omega
          have HN : Hid (numM (s.data.toList.drop i) = none) := by show _ = _; rw [HE.out, if_pos (Or.inr ⟨by rw [HD.out, hq.1], by have := ID.out.2.2.1; omega⟩)]
          clear k48
          go_wp2_with (go_at_call 30; refine (kr _ BB2.out).mono ?_; rintro _ w9 ⟨⟨v9, rfl⟩, ex9, b9⟩; have E9 : Hid (Ex b w w9) := EX2.out.trans ex9; have B9 : Hid (BlkR w9 b s s.size true ou fu) := b9; clear ex9 b9)
          try simp only [Exit.jump]
          go_ret
          exact ⟨val ds, _, true, by rw [← ID.out.2.2.2.2.2]; rfl, E9.out, B9.out, Nat.le_refl _, by have := ID.out.1; have := ID.out.2.1; omega, Or.inl ⟨HN.out, rfl⟩⟩
        case neg =>
          have HN : Hid (numM (s.data.toList.drop i) = some (val ds, s.data.toList.drop j)) := by
            show _ = _
            rw [HE.out, if_neg]
            rintro (h | ⟨h, h'⟩)
            · rw [h] at HD; cases HD.out
            · rw [HD.out] at h; simp at h; exact hq ⟨h, by have := ID.out.2.2.1; omega⟩
          by_cases hq1 : z0 = 48
          case pos =>
            have e6 : ((z0.toNat : Int) == 48) = true := by rw [k48]; simp [hq1]
            have hq2 : ¬ (i + 1 < j) := fun h => hq ⟨hq1, h⟩
            have e7 : decide ((i : Int) + 1 < (j : Int)) = false := by simp <;> omega
            clear k48 hq hq1
            go_wp2_with fail
            try simp only [Exit.jump]
            go_ret
            exact ⟨val ds, j, wr, by rw [← ID.out.2.2.2.2.2]; rfl, EX2.out, BB2.out, ID.out.2.1, ID.out.1, Or.inr ⟨_, HN.out, rfl, rfl⟩⟩
          case neg =>
            have e6 : ((z0.toNat : Int) == 48) = false := by rw [k48]; simp [hq1]
            clear k48 hq hq1
            go_wp2_with fail
            try simp only [Exit.jump]
            go_ret
            exact ⟨val ds, j, wr, by rw [← ID.out.2.2.2.2.2]; rfl, EX2.out, BB2.out, ID.out.2.1, ID.out.1, Or.inr ⟨_, HN.out, rfl, rfl⟩⟩
    | cons z r =>
      have hi2 := drop_lt hz
      have e1 : decide ((j : Int) < (s.size : Int)) = true := by simp <;> omega
      have hidx := str_at hz
      by_cases hd : isDig z = true
      case neg =>
        have NDJ : nd (s.data.toList.drop j) := by rw [hz]; intro c hc; simp at hc; subst hc; simpa using hd
        have hd2 : ¬ (48 ≤ z.toNat ∧ z.toNat ≤ 57) := by intro h; exact hd (by simp [isDig, h.1, h.2])
        clear hd
        by_cases h48 : 48 ≤ z.toNat
        case pos =>
          have e2 : decide ((48 : Int) ≤ (z.toNat : Int)) = true := by simp <;> omega
          have e3 : decide ((z.toNat : Int) ≤ 57) = false := by simp <;> omega
          refine wp_region_quiet_grownB (by assumption) (by kernel_rfl) ?_
          repeat (refine wpQuiet_stepB (fun K hK => ?_); go_simp; first | (refine hK _ ?_; clear hK K) | (apply Exists.intro; refine ⟨fun _ => ?_, hK _ ?_⟩; fail; clear hK K))
          refine wpQuiet_nilB ?_
          intro _ hw'
          obtain ⟨⟨nq, osq⟩, hw''⟩ := hw'
          subst hw''
          clear c0 c1
          have EX2 : Hid (Ex b w (Sort.grow (wr0.drewN nq) osq)) := EX.out.trans (Ex.of_gr ⟨nq, osq, rfl⟩)
          have BB2 : Hid (BlkR (Sort.grow (wr0.drewN nq) osq) b s j wr ou fu) := BB.out.gr ⟨nq, osq, rfl⟩
          generalize Sort.grow (wr0.drewN nq) osq = V at *
          clear EX BB hz hd2 hidx
          have HE : Hid (numM (s.data.toList.drop i) = if ds = [] ∨ (ds.head? = some 48 ∧ 1 < ds.length) then none else some (val ds, s.data.toList.drop j)) := num_end ID.out NDJ
          have kr : ∀ W, BlkR W b s j wr ou fu → Calls Tryz.prog 30 #[.pointer (some ⟨b, 0, none⟩)] W fun e w' => (∃ v, e = .returned v) ∧ Ex b W w' ∧ BlkR w' b s s.size true ou fu := fun W h => refuse_any h
          have g0 := BB2.out.c 0
          have g1 := BB2.out.c 1
          simp at g0 g1
          have bl2 := BB2.out.lt
          by_cases hji : j = i
          case pos =>
            have e5 : ((j : Int) == (i : Int)) = true := by simp <;> omega
            have HN : Hid (numM (s.data.toList.drop i) = none) := by show _ = _; rw [HE.out, if_pos (Or.inl (List.length_eq_zero_iff.1 (by have := ID.out.2.2.1; omega)))]
            go_wp2_with (go_at_call 30; refine (kr _ BB2.out).mono ?_; rintro _ w9 ⟨⟨v9, rfl⟩, ex9, b9⟩; have E9 : Hid (Ex b w w9) := EX2.out.trans ex9; have B9 : Hid (BlkR w9 b s s.size true ou fu) := b9; clear ex9 b9)
            try simp only [Exit.jump]
            go_ret
            exact ⟨val ds, _, true, by rw [← ID.out.2.2.2.2.2]; rfl, E9.out, B9.out, Nat.le_refl _, by have := ID.out.1; have := ID.out.2.1; omega, Or.inl ⟨HN.out, rfl⟩⟩
          case neg =>
            have e5 : ((j : Int) == (i : Int)) = false := by have := hji; simp <;> omega
            obtain ⟨z0, r0, hz0⟩ : ∃ z0 r0, s.data.toList.drop i = z0 :: r0 := by
              cases h : s.data.toList.drop i with
              | nil => exact absurd (drop_nil (by have := ID.out.1; have := ID.out.2.1; omega) h) (by have := ID.out.1; have := ID.out.2.1; omega)
              | cons a l => exact ⟨a, l, rfl⟩
            have hidx0 := str_at hz0
            have hil := drop_lt hz0
            have HD : Hid (ds.head? = some z0) := head_ds ID.out hz0 hji
            have k48 : ((z0.toNat : Int) == 48) = decide (z0 = 48) := u8_eq (c := 48)
            by_cases hq : z0 = 48 ∧ i + 1 < j
            case pos =>
              have e6 : ((z0.toNat : Int) == 48) = true := by rw [k48]; simp [hq.1]
              have e7 : decide ((i : Int) + 1 < (j : Int)) = true := by simp <;> omega
              have HN : Hid (numM (s.data.toList.drop i) = none) := by show _ = _; rw [HE.out, if_pos (Or.inr ⟨by rw [HD.out, hq.1], by have := ID.out.2.2.1; omega⟩)]
              clear k48
              go_wp2_with (go_at_call 30; refine (kr _ BB2.out).mono ?_; rintro _ w9 ⟨⟨v9, rfl⟩, ex9, b9⟩; have E9 : Hid (Ex b w w9) := EX2.out.trans ex9; have B9 : Hid (BlkR w9 b s s.size true ou fu) := b9; clear ex9 b9)
              try simp only [Exit.jump]
              go_ret
              exact ⟨val ds, _, true, by rw [← ID.out.2.2.2.2.2]; rfl, E9.out, B9.out, Nat.le_refl _, by have := ID.out.1; have := ID.out.2.1; omega, Or.inl ⟨HN.out, rfl⟩⟩
            case neg =>
              have HN : Hid (numM (s.data.toList.drop i) = some (val ds, s.data.toList.drop j)) := by
                show _ = _
                rw [HE.out, if_neg]
                rintro (h | ⟨h, h'⟩)
                · rw [h] at HD; cases HD.out
                · rw [HD.out] at h; simp at h; exact hq ⟨h, by have := ID.out.2.2.1; omega⟩
              by_cases hq1 : z0 = 48
              case pos =>
                have e6 : ((z0.toNat : Int) == 48) = true := by rw [k48]; simp [hq1]
                have hq2 : ¬ (i + 1 < j) := fun h => hq ⟨hq1, h⟩
                have e7 : decide ((i : Int) + 1 < (j : Int)) = false := by simp <;> omega
                clear k48 hq hq1
                go_wp2_with fail
                try simp only [Exit.jump]
                go_ret
                exact ⟨val ds, j, wr, by rw [← ID.out.2.2.2.2.2]; rfl, EX2.out, BB2.out, ID.out.2.1, ID.out.1, Or.inr ⟨_, HN.out, rfl, rfl⟩⟩
              case neg =>
                have e6 : ((z0.toNat : Int) == 48) = false := by rw [k48]; simp [hq1]
                clear k48 hq hq1
                go_wp2_with fail
                try simp only [Exit.jump]
                go_ret
                exact ⟨val ds, j, wr, by rw [← ID.out.2.2.2.2.2]; rfl, EX2.out, BB2.out, ID.out.2.1, ID.out.1, Or.inr ⟨_, HN.out, rfl, rfl⟩⟩
        case neg =>
          have e2 : decide ((48 : Int) ≤ (z.toNat : Int)) = false := by simp <;> omega
          refine wp_region_quiet_grownB (by assumption) (by kernel_rfl) ?_
          repeat (refine wpQuiet_stepB (fun K hK => ?_); go_simp; first | (refine hK _ ?_; clear hK K) | (apply Exists.intro; refine ⟨fun _ => ?_, hK _ ?_⟩; fail; clear hK K))
          refine wpQuiet_nilB ?_
          intro _ hw'
          obtain ⟨⟨nq, osq⟩, hw''⟩ := hw'
          subst hw''
          clear c0 c1
          have EX2 : Hid (Ex b w (Sort.grow (wr0.drewN nq) osq)) := EX.out.trans (Ex.of_gr ⟨nq, osq, rfl⟩)
          have BB2 : Hid (BlkR (Sort.grow (wr0.drewN nq) osq) b s j wr ou fu) := BB.out.gr ⟨nq, osq, rfl⟩
          generalize Sort.grow (wr0.drewN nq) osq = V at *
          clear EX BB hz hd2 hidx
          have HE : Hid (numM (s.data.toList.drop i) = if ds = [] ∨ (ds.head? = some 48 ∧ 1 < ds.length) then none else some (val ds, s.data.toList.drop j)) := num_end ID.out NDJ
          have kr : ∀ W, BlkR W b s j wr ou fu → Calls Tryz.prog 30 #[.pointer (some ⟨b, 0, none⟩)] W fun e w' => (∃ v, e = .returned v) ∧ Ex b W w' ∧ BlkR w' b s s.size true ou fu := fun W h => refuse_any h
          have g0 := BB2.out.c 0
          have g1 := BB2.out.c 1
          simp at g0 g1
          have bl2 := BB2.out.lt
          by_cases hji : j = i
          case pos =>
            have e5 : ((j : Int) == (i : Int)) = true := by simp <;> omega
            have HN : Hid (numM (s.data.toList.drop i) = none) := by show _ = _; rw [HE.out, if_pos (Or.inl (List.length_eq_zero_iff.1 (by have := ID.out.2.2.1; omega)))]
            go_wp2_with (go_at_call 30; refine (kr _ BB2.out).mono ?_; rintro _ w9 ⟨⟨v9, rfl⟩, ex9, b9⟩; have E9 : Hid (Ex b w w9) := EX2.out.trans ex9; have B9 : Hid (BlkR w9 b s s.size true ou fu) := b9; clear ex9 b9)
            try simp only [Exit.jump]
            go_ret
            exact ⟨val ds, _, true, by rw [← ID.out.2.2.2.2.2]; rfl, E9.out, B9.out, Nat.le_refl _, by have := ID.out.1; have := ID.out.2.1; omega, Or.inl ⟨HN.out, rfl⟩⟩
          case neg =>
            have e5 : ((j : Int) == (i : Int)) = false := by have := hji; simp <;> omega
            obtain ⟨z0, r0, hz0⟩ : ∃ z0 r0, s.data.toList.drop i = z0 :: r0 := by
              cases h : s.data.toList.drop i with
              | nil => exact absurd (drop_nil (by have := ID.out.1; have := ID.out.2.1; omega) h) (by have := ID.out.1; have := ID.out.2.1; omega)
              | cons a l => exact ⟨a, l, rfl⟩
            have hidx0 := str_at hz0
            have hil := drop_lt hz0
            have HD : Hid (ds.head? = some z0) := head_ds ID.out hz0 hji
            have k48 : ((z0.toNat : Int) == 48) = decide (z0 = 48) := u8_eq (c := 48)
            by_cases hq : z0 = 48 ∧ i + 1 < j
            case pos =>
              have e6 : ((z0.toNat : Int) == 48) = true := by rw [k48]; simp [hq.1]
              have e7 : decide ((i : Int) + 1 < (j : Int)) = true := by simp <;> omega
              have HN : Hid (numM (s.data.toList.drop i) = none) := by show _ = _; rw [HE.out, if_pos (Or.inr ⟨by rw [HD.out, hq.1], by have := ID.out.2.2.1; omega⟩)]
              clear k48
              go_wp2_with (go_at_call 30; refine (kr _ BB2.out).mono ?_; rintro _ w9 ⟨⟨v9, rfl⟩, ex9, b9⟩; have E9 : Hid (Ex b w w9) := EX2.out.trans ex9; have B9 : Hid (BlkR w9 b s s.size true ou fu) := b9; clear ex9 b9)
              try simp only [Exit.jump]
              go_ret
              exact ⟨val ds, _, true, by rw [← ID.out.2.2.2.2.2]; rfl, E9.out, B9.out, Nat.le_refl _, by have := ID.out.1; have := ID.out.2.1; omega, Or.inl ⟨HN.out, rfl⟩⟩
            case neg =>
              have HN : Hid (numM (s.data.toList.drop i) = some (val ds, s.data.toList.drop j)) := by
                show _ = _
                rw [HE.out, if_neg]
                rintro (h | ⟨h, h'⟩)
                · rw [h] at HD; cases HD.out
                · rw [HD.out] at h; simp at h; exact hq ⟨h, by have := ID.out.2.2.1; omega⟩
              by_cases hq1 : z0 = 48
              case pos =>
                have e6 : ((z0.toNat : Int) == 48) = true := by rw [k48]; simp [hq1]
                have hq2 : ¬ (i + 1 < j) := fun h => hq ⟨hq1, h⟩
                have e7 : decide ((i : Int) + 1 < (j : Int)) = false := by simp <;> omega
                clear k48 hq hq1
                go_wp2_with fail
                try simp only [Exit.jump]
                go_ret
                exact ⟨val ds, j, wr, by rw [← ID.out.2.2.2.2.2]; rfl, EX2.out, BB2.out, ID.out.2.1, ID.out.1, Or.inr ⟨_, HN.out, rfl, rfl⟩⟩
              case neg =>
                have e6 : ((z0.toNat : Int) == 48) = false := by rw [k48]; simp [hq1]
                clear k48 hq hq1
                go_wp2_with fail
                try simp only [Exit.jump]
                go_ret
                exact ⟨val ds, j, wr, by rw [← ID.out.2.2.2.2.2]; rfl, EX2.out, BB2.out, ID.out.2.1, ID.out.1, Or.inr ⟨_, HN.out, rfl, rfl⟩⟩
      case pos =>
        have hd2 : 48 ≤ z.toNat ∧ z.toNat ≤ 57 := by simpa [isDig] using hd
        have e2 : decide ((48 : Int) ≤ (z.toNat : Int)) = true := by simp <;> omega
        have e3 : decide ((z.toNat : Int) ≤ 57) = true := by simp <;> omega
        have ID2 : Hid (NumI s i (j + 1) (ds ++ [z]) (min (10 * n + (z.toNat - 48)) 4294967296)) := NumI.step ID.out hz hd
        have v1 : IntKind.u8.wrap ((z.toNat : Int) - 48) = ((z.toNat - 48 : Nat) : Int) := by rw [IntKind.wrap_u8]; omega
        have v2 : IntKind.u64.wrap ((z.toNat - 48 : Nat) : Int) = ((z.toNat - 48 : Nat) : Int) := by rw [IntKind.wrap_u64]; omega
        have v3 : IntKind.u64.wrap (10 * (n : Int)) = 10 * (n : Int) := by rw [IntKind.wrap_u64]; have := ID.out.2.2.2.2.2; omega
        have v4 : IntKind.u64.wrap (10 * (n : Int) + ((z.toNat - 48 : Nat) : Int)) = 10 * (n : Int) + ((z.toNat - 48 : Nat) : Int) := by rw [IntKind.wrap_u64]; have := ID.out.2.2.2.2.2; omega
        clear hd
        refine wp_region_quiet_grownB (by assumption) (by kernel_rfl) ?_
        repeat (refine wpQuiet_stepB (fun K hK => ?_); go_simp; first | (refine hK _ ?_; clear hK K) | (apply Exists.intro; refine ⟨fun _ => ?_, hK _ ?_⟩; fail; clear hK K))
        refine wpQuiet_nilB ?_
        intro _ hw'
        obtain ⟨⟨nq, osq⟩, hw''⟩ := hw'
        subst hw''
        clear c0 c1
        have EX2 : Hid (Ex b w (Sort.grow (wr0.drewN nq) osq)) := EX.out.trans (Ex.of_gr ⟨nq, osq, rfl⟩)
        have BB2 : Hid (BlkR (Sort.grow (wr0.drewN nq) osq) b s j wr ou fu) := BB.out.gr ⟨nq, osq, rfl⟩
        generalize Sort.grow (wr0.drewN nq) osq = V at *
        clear EX BB hz
        go_wp2_with fail
        have c0 := fun n os => (BB2.out.grow n os).c 0
        have c1 := fun n os => (BB2.out.grow n os).c 1
        simp at c0 c1
        have bl := BB2.out.lt
        refine wp_region_quiet_grownB (by assumption) (by kernel_rfl) ?_
        repeat (refine wpQuiet_stepB (fun K hK => ?_); go_simp; first | (refine hK _ ?_; clear hK K) | (apply Exists.intro; refine ⟨fun _ => ?_, hK _ ?_⟩; fail; clear hK K))
        refine wpQuiet_nilB ?_
        intro _ hw'
        obtain ⟨⟨nq, osq⟩, hw''⟩ := hw'
        subst hw''
        clear c0 c1
        have EX3 : Hid (Ex b w (Sort.grow (V.drewN nq) osq)) := EX2.out.trans (Ex.of_gr ⟨nq, osq, rfl⟩)
        have BB3 : Hid (BlkR (Sort.grow (V.drewN nq) osq) b s j wr ou fu) := BB2.out.gr ⟨nq, osq, rfl⟩
        generalize Sort.grow (V.drewN nq) osq = V3 at *
        clear EX2 BB2 hidx
        have g1 := BB3.out.c 1
        simp at g1
        have gf := BB3.out.frozen 1
        go_wp2_with fail
        all_goals go_step3
        all_goals refine ⟨rfl, ?_⟩
        all_goals first
          | (have e9 : min (10 * n + (z.toNat - 48)) 4294967296 = 4294967296 := (by omega); rw [e9] at ID2; exact ⟨⟨j + 1, _, _, _, _, _, _, _, _, _, _, _, _, _, _, _, _, _, _, _, _, _, _, _, _, _, _, _, _, _, _, _, _, _, _, _, _, _, _, _, _, _, _, _, _, _, _, _, _, _, _, _, _, _, _, _, _, _, _, _, _, _, _, rfl, ID2, EX3.out.setB 1 _, BB3.out.set 1 (.int .i64 ((j + 1 : Nat) : Int))⟩, by have h := posOf_blk (BB3.out.set 1 (.int .i64 ((j + 1 : Nat) : Int))); have h2 : posOf b (V3.setCell ⟨b, 1, none⟩ (.int .i64 ((j : Int) + 1))) = j + 1 := h; rw [h2, HP.out]; omega⟩)
          | (have e9 : min (10 * n + (z.toNat - 48)) 4294967296 = 10 * n + (z.toNat - 48) := (by omega); rw [e9] at ID2; exact ⟨⟨j + 1, _, _, _, _, _, _, _, _, _, _, _, _, _, _, _, _, _, _, _, _, _, _, _, _, _, _, _, _, _, _, _, _, _, _, _, _, _, _, _, _, _, _, _, _, _, _, _, _, _, _, _, _, _, _, _, _, _, _, _, _, _, _, rfl, ID2, EX3.out.setB 1 _, BB3.out.set 1 (.int .i64 ((j + 1 : Nat) : Int))⟩, by have h := posOf_blk (BB3.out.set 1 (.int .i64 ((j + 1 : Nat) : Int))); have h2 : posOf b (V3.setCell ⟨b, 1, none⟩ (.int .i64 ((j : Int) + 1))) = j + 1 := h; rw [h2, HP.out]; omega⟩)

end Go.Proofs.YtihnmamejfoeeaaGreatDoor
