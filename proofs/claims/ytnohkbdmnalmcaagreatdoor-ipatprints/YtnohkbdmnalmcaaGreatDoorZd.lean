/-
  Walks: the document's Digits.
-/
import Derived.Test.YtnohkbdmnalmcaaGreatDoorPr2
import Derived.Laws.BytesArg
namespace Go.Proofs.YtnohkbdmnalmcaaGreatDoor
open Go.RowKit

theorem byte_str {c : Int} {b n : Nat} {W : World} (h : W.cell? ⟨b, 0, none⟩ = some (.int .u8 c)) : (convert 104 9 (.slice (some ⟨b, 0, none⟩) 1 n)).run Tryz.prog W = .ok (.string ⟨#[UInt8.ofNat c.toNat]⟩) W := by
  rw [run_convert_bytes_string W 104 9 5 _ 1 n Tryz.underlying104 Tryz.underlying5 Tryz.underlying9, run_bytesToString W _ 1 n [c] (by simp [loadCells, go_sem, h])]
  rfl

theorem ofNat_48 (m : Nat) : UInt8.ofNat (48 + m) = 48 + UInt8.ofNat m := by
  simp [UInt8.ofNat_add]

set_option maxRecDepth 100000 in
set_option maxHeartbeats 2000000 in
theorem digits_any (n : Int) (h0 : 0 ≤ n) (h1 : n ≤ 4294967295) (w : World) :
    Calls Tryz.prog 75 #[.int .u32 n] w fun e w' => e = .returned (str (dec n)) ∧ Gr w w' := by
  obtain ⟨k, rfl⟩ : ∃ k : Nat, n = k := ⟨n.toNat, by omega⟩
  have hcv : ∀ (b n : Nat) (c : Int) (W : World), W.cell? ⟨b, 0, none⟩ = some (.int .u8 c) → Sem.run Tryz.prog (convert 104 9 (.slice (some ⟨b, 0, none⟩) 1 n)) W = .ok (.string ⟨#[UInt8.ofNat c.toNat]⟩) W := fun _ _ _ _ h => byte_str h
  go_enter Tryz.func75, Tryz.ntmps75
  go_wp2_with fail
  go_loopw [0, 3] (fun v0 v3 wr => ∃ (m : Nat) (l : Bs), m ≤ 4294967295 ∧ v0 = .int .u32 m ∧ v3 = str l ∧ Hid (Lib.decDigits k = Lib.decDigits m ++ l) ∧ Hid (Gr w wr)) (fun v0 _ _ => (intOf v0).toNat)
  case atStart => exact ⟨k, [], by omega, rfl, rfl, by simp [Hid], Gr.refl _⟩
  case round =>
    obtain ⟨m, l, hm, rfl, rfl, HD, HG⟩ := hrel
    have hlen : l.length ≤ 10 := by
      have h2 := dec_len (n := (k : Int)) h1
      have h3 := congrArg List.length HD.out
      simp [dec] at h2 h3
      omega
    by_cases hlt : 9 < m
    case neg =>
      have hle : ¬ (9 : Int) < (m : Int) := by omega
      go_wp2_with fail
      go_ret
      refine ⟨?_, HG.out.alloc _⟩
      have e : dec (k : Int) = UInt8.ofNat (48 + m) :: l := by
        unfold dec
        rw [Int.toNat_natCast, HD.out, dec_small (by omega)]
        rfl
      rw [str_lit #[48 + UInt8.ofNat m], str_app, e, ofNat_48]
      rfl
    have hle : (9 : Int) < (m : Int) := by omega
    go_wp2_with fail
    go_roundw
    case rel =>
      refine ⟨m / 10, UInt8.ofNat (48 + m % 10) :: l, by omega, by go_num, ?_, ?_, HG.out.alloc _⟩
      · rw [str_lit #[48 + UInt8.ofNat (m % 10)], str_app, ofNat_48]
        rfl
      · show _ = _
        rw [HD.out, dec_big (by omega)]
        simp
    case measure => simp [intOf]; omega

end Go.Proofs.YtnohkbdmnalmcaaGreatDoor
