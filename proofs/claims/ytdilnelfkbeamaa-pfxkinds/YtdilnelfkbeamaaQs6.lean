/-
  slices.Sort's parts at uint32: partition.
-/
import Derived.Test.YtdilnelfkbeamaaQs5
namespace Go.Proofs.Ytdilnelfkbeamaa
open Go.RowKit Go.Shelf
open Go.Sort (Holds putRow PermIn SortedIn Below ltInt swp size_swp swp_permIn permIn_refl permIn_trans permIn_all swo_ltInt swp_get)

theorem Part.fin {L H : Int → Prop} {w0 : World} {blk off : Nat} {d d0 : Array Int} {a b : Nat} {v : Int} {j : Nat} {dk : Array Int} {W : World}
    (h : Part L H w0 blk off d a b v (j + 1) j dk W) (R : RowU w0 blk off d0) (hb : b ≤ d.size) (hL : ∀ x, L x → x ≤ v) (hH : ∀ x, H x → v ≤ x) :
    PermIn a b d (swp dk j a) ∧ (∀ t, a ≤ t → t < j → (swp dk j a)[t]! ≤ (swp dk j a)[j]!) ∧ (∀ t, j < t → t < b → (swp dk j a)[j]! ≤ (swp dk j a)[t]!) ∧
      SWu w0 blk off (swp dk j a) ((W.setCell ⟨blk, off + j, none⟩ (.int .u32 dk[a]!)).setCell ⟨blk, off + a, none⟩ (.int .u32 dk[j]!)).drew := by
  have hs := h.size
  have ha := h.ai
  have hj := h.jb
  have g := swp_get dk (show j < dk.size by omega) (show a < dk.size by omega)
  have gj : (swp dk j a)[j]! = v := by
    rw [g]
    by_cases e : j = a
    · rw [if_pos e, e]; exact h.pv
    · rw [if_neg e, if_pos rfl]; exact h.pv
  refine ⟨permIn_trans _ _ _ _ _ h.perm (swp_permIn dk a b j a (by omega) hj (by omega) (by omega) (by omega)), fun t h1 h2 => ?_, fun t h1 h2 => ?_, h.sw.swapped R j a (by omega) (by omega)⟩
  · rw [gj, g]
    by_cases e : t = a
    · rw [if_pos e]; exact hL _ (h.lo j (by omega) (by omega))
    · rw [if_neg e, if_neg (by omega)]; exact hL _ (h.lo t (by omega) (by omega))
  · rw [gj, g, if_neg (by omega), if_neg (by omega)]
    exact hH _ (h.hi t h1 h2)

abbrev LLt (v : Int) : Int → Prop := fun x => x < v
abbrev HGe (v : Int) : Int → Prop := fun x => v ≤ x

set_option maxRecDepth 100000 in
set_option maxHeartbeats 8000000 in
theorem partition_any (w0 : World) (blk off cap a b p : Nat) (d0 d : Array Int) (W : World) (R : RowU w0 blk off d0) (hs : d.size = d0.size) (hap : a ≤ p) (hpb : p < b) (hb : b ≤ d.size) (hsz : d.size < 4611686018427387904) (h : SWu w0 blk off d W) :
    Calls Try.prog 56 #[.slice (some ⟨blk, off, none⟩) d.size cap, .int .i64 a, .int .i64 b, .int .i64 p] W fun e W' =>
      ∃ (m : Nat) (r : Bool) (d' : Array Int), e = .returned (.tuple #[.int .i64 m, .bool r]) ∧ a ≤ m ∧ m < b ∧ PermIn a b d d' ∧ (∀ t, a ≤ t → t < m → d'[t]! ≤ d'[m]!) ∧ (∀ t, m < t → t < b → d'[m]! ≤ d'[t]!) ∧ SWu w0 blk off d' W' := by
  have P0 := Part.start (LLt d[p]!) (HGe d[p]!) h R p hb hap hpb
  have HS : Hid (d.size = d0.size) := hs
  obtain ⟨G, hG, hcw, hfw⟩ := fam R h hs
  obtain ⟨u2, hc2⟩ := h.c2 R hs a p (by omega) (by omega) (.int .u32 (G p))
  rw [← hG, ← hG] at P0
  clear hs h hG
  go_enter Try.func56, Try.ntmps56
  go_wp2_with fail
  go_region
  generalize ((W.setCell ⟨blk, off + a, none⟩ (.int .u32 (G p))).setCell ⟨blk, off + p, none⟩ (.int .u32 (G a))).drew = w1 at P0 ⊢
  generalize G p = v at P0
  obtain ⟨i, hi⟩ : ∃ i, i = a + 1 := ⟨_, rfl⟩
  obtain ⟨j, hj⟩ : ∃ j, j = b - 1 := ⟨_, rfl⟩
  obtain ⟨dk, hdk⟩ : ∃ dk, dk = swp d a p := ⟨_, rfl⟩
  rw [← hi, ← hj, ← hdk] at P0
  have zi : (a : Int) + 1 = i := by omega
  have zj : (b : Int) - 1 = j := by omega
  clear hcw hfw hc2 hi hj hdk
  have HSK : Hid (dk.size = d.size) := P0.size
  have hai := P0.ai
  have hij := P0.ij
  have hjb := P0.jb
  go_upto_block 0 with fail
  go_cut [10] (fun s10 wx => ∃ k : Nat, s10 = .int .i64 k ∧ i ≤ k ∧ Part (LLt v) (HGe v) w0 blk off d a b v k j dk wx ∧ (k ≤ j → v ≤ dk[k]!))
  case first =>
    go_wp2_with fail
    go_loopg [10] (j + 1 - i) (fun g2 vi wq => ∃ k : Nat, vi = .int .i64 k ∧ i ≤ k ∧ j + 1 - k ≤ g2 ∧ Part (LLt v) (HGe v) w0 blk off d a b v k j dk wq)
    case atStart => exact ⟨i, rfl, Nat.le_refl _, Nat.le_refl _, P0⟩
    case round =>
      clear P0
      obtain ⟨k, rfl, hrg, hg2, P⟩ := hrel
      have hak := P.ai
      have hkj := P.ij
      have hkb := P.jb
      by_cases hk : k ≤ j
      · have hdec : decide ((k : Int) ≤ j) = true := decide_eq_true (by omega)
        obtain ⟨G, hG, hcw, hfw⟩ := fam R P.sw (HSK.out.trans HS.out)
        rw [HSK.out] at hcw hfw
        have HG : Hid (G k = dk[k]!) := hG k
        have HV : Hid (G a = v) := (hG a).trans P.pv
        clear hG
        have hless := fun W => less_any (G k) (G a) W
        cases hl : ltInt (G k) (G a) with
        | true =>
          rw [hl] at hless
          go_wp2_with fail
          go_quiet (first | (go_at_call 54; refine Calls.quiet_of_same (hless _)))
          go_wp2_with fail
          go_roundg (j + 1 - (k + 1))
          case measure => omega
          case rel => exact ⟨k + 1, by go_num, by omega, Nat.le_refl _, (P.drewN nq).inc hk (by have e1 := HG.out; have e2 := HV.out; have e3 := lt_true hl; rw [e1, e2] at e3; exact e3)⟩
        | false =>
          rw [hl] at hless
          go_wp2_with fail
          go_quiet (first | (go_at_call 54; refine Calls.quiet_of_same (hless _)))
          go_wp2_with fail
          go_meet
          case rel => exact ⟨k, rfl, hrg, P.drewN nq, fun _ => (by have e1 := HG.out; have e2 := HV.out; have e3 := lt_false hl; rw [e1, e2] at e3; exact e3)⟩
      · have hdec : decide ((k : Int) ≤ j) = false := decide_eq_false (by omega)
        go_wp2_with fail
        go_quiet (fail)
        go_wp2_with fail
        go_meet
        case rel => exact ⟨k, rfl, hrg, P.drewN nq, fun h => absurd h hk⟩
  case rest =>
    obtain ⟨i2, rfl, hi2, P1, hs2⟩ := hcut
    clear P0 hai hij hjb
    go_upto_block 2 with fail
    go_cut [11] (fun s11 wx => ∃ k : Nat, s11 = .int .i64 k ∧ k ≤ j ∧ Part (LLt v) (HGe v) w0 blk off d a b v i2 k dk wx ∧ (i2 ≤ k → dk[k]! < v))
    case first =>
      go_wp2_with fail
      go_loopg [11] (j + 1 - i2) (fun g2 vi wq => ∃ k : Nat, vi = .int .i64 k ∧ k ≤ j ∧ k + 1 - i2 ≤ g2 ∧ Part (LLt v) (HGe v) w0 blk off d a b v i2 k dk wq)
      case atStart => exact ⟨j, rfl, Nat.le_refl _, Nat.le_refl _, P1⟩
      case round =>
        clear P1
        obtain ⟨k, rfl, hrg, hg2, P⟩ := hrel
        have hak := P.ai
        have hkj := P.ij
        have hkb := P.jb
        by_cases hk : i2 ≤ k
        · have hdec : decide ((i2 : Int) ≤ k) = true := decide_eq_true (by omega)
          obtain ⟨G, hG, hcw, hfw⟩ := fam R P.sw (HSK.out.trans HS.out)
          rw [HSK.out] at hcw hfw
          have HG : Hid (G k = dk[k]!) := hG k
          have HV : Hid (G a = v) := (hG a).trans P.pv
          clear hG
          have hless := fun W => less_any (G k) (G a) W
          cases hl : ltInt (G k) (G a) with
          | true =>
            rw [hl] at hless
            go_wp2_with fail
            go_quiet (first | (go_at_call 54; refine Calls.quiet_of_same (hless _)))
            go_wp2_with fail
            go_meet
            case rel => exact ⟨k, rfl, hrg, P.drewN nq, fun _ => (by have e1 := HG.out; have e2 := HV.out; have e3 := lt_true hl; rw [e1, e2] at e3; exact e3)⟩
          | false =>
            rw [hl] at hless
            go_wp2_with fail
            go_quiet (first | (go_at_call 54; refine Calls.quiet_of_same (hless _)))
            go_wp2_with fail
            go_roundg (k - 1 + 1 - i2)
            case measure => omega
            case rel => exact ⟨k - 1, by congr 1; omega, by omega, Nat.le_refl _, (P.drewN nq).dec hk (by have e1 := HG.out; have e2 := HV.out; have e3 := lt_false hl; rw [e1, e2] at e3; exact e3)⟩
        · have hdec : decide ((i2 : Int) ≤ k) = false := decide_eq_false (by omega)
          go_wp2_with fail
          go_quiet (fail)
          go_wp2_with fail
          go_meet
          case rel => exact ⟨k, rfl, hrg, P.drewN nq, fun h => absurd h hk⟩
    case rest =>
      obtain ⟨j2, rfl, hj2, P2, hs3⟩ := hcut
      clear P1
      have hai := P2.ai
      have hij := P2.ij
      have hjb := P2.jb
      by_cases hx : i2 ≤ j2
      · have f1 := hs2 (by omega)
        have f2 := hs3 hx
        have hlt : i2 < j2 := by
          rcases Nat.lt_or_ge i2 j2 with h | h
          · exact h
          · exfalso
            obtain rfl : i2 = j2 := by omega
            omega
        have P3 := P2.swap R hb hlt f2 f1
        obtain ⟨G, hG, hcw, hfw⟩ := fam R P2.sw (HSK.out.trans HS.out)
        rw [HSK.out] at hcw hfw
        rw [← hG, ← hG] at P3
        clear hG P2 f1 f2 hs2 hs3
        go_wp2_with fail
        go_region
        generalize ((_ : World).setCell _ _).drew = w3 at P3 ⊢
        clear hcw hfw HSK
        go_wp2_with fail
        go_loopg [10, 11] (j2 + 1 - i2) (fun g1 vi vj wr => ∃ (i j : Nat) (dk : Array Int), vi = .int .i64 i ∧ vj = .int .i64 j ∧ j + 1 - i ≤ g1 ∧ Part (LLt v) (HGe v) w0 blk off d a b v i j dk wr)
        case atStart => exact ⟨i2 + 1, j2 - 1, _, by go_num, by congr 1; omega, by omega, P3⟩
        case round =>
          clear P3 zi zj hai hij hjb hlt hx hi2 hj2
          obtain ⟨i, j, dk, rfl, rfl, hg1, P⟩ := hrel
          have HSK : Hid (dk.size = d.size) := P.size
          have hai := P.ai
          have hij := P.ij
          have hjb := P.jb
          go_upto_block 6 with fail
          go_cut [10] (fun s10 wx => ∃ k : Nat, s10 = .int .i64 k ∧ i ≤ k ∧ Part (LLt v) (HGe v) w0 blk off d a b v k j dk wx ∧ (k ≤ j → v ≤ dk[k]!))
          case first =>
            go_wp2_with fail
            go_loopg [10] (j + 1 - i) (fun g2 vi wq => ∃ k : Nat, vi = .int .i64 k ∧ i ≤ k ∧ j + 1 - k ≤ g2 ∧ Part (LLt v) (HGe v) w0 blk off d a b v k j dk wq)
            case atStart => exact ⟨i, rfl, Nat.le_refl _, Nat.le_refl _, P⟩
            case round =>
              clear P
              obtain ⟨k, rfl, hrg, hg2, P⟩ := hrel
              have hak := P.ai
              have hkj := P.ij
              have hkb := P.jb
              by_cases hk : k ≤ j
              · have hdec : decide ((k : Int) ≤ j) = true := decide_eq_true (by omega)
                obtain ⟨G, hG, hcw, hfw⟩ := fam R P.sw (HSK.out.trans HS.out)
                rw [HSK.out] at hcw hfw
                have HG : Hid (G k = dk[k]!) := hG k
                have HV : Hid (G a = v) := (hG a).trans P.pv
                clear hG
                have hless := fun W => less_any (G k) (G a) W
                cases hl : ltInt (G k) (G a) with
                | true =>
                  rw [hl] at hless
                  go_wp2_with fail
                  go_quiet (first | (go_at_call 54; refine Calls.quiet_of_same (hless _)))
                  go_wp2_with fail
                  go_roundg (j + 1 - (k + 1))
                  case measure => omega
                  case rel => exact ⟨k + 1, by go_num, by omega, Nat.le_refl _, (P.drewN nq).inc hk (by have e1 := HG.out; have e2 := HV.out; have e3 := lt_true hl; rw [e1, e2] at e3; exact e3)⟩
                | false =>
                  rw [hl] at hless
                  go_wp2_with fail
                  go_quiet (first | (go_at_call 54; refine Calls.quiet_of_same (hless _)))
                  go_wp2_with fail
                  go_meet
                  case rel => exact ⟨k, rfl, hrg, P.drewN nq, fun _ => (by have e1 := HG.out; have e2 := HV.out; have e3 := lt_false hl; rw [e1, e2] at e3; exact e3)⟩
              · have hdec : decide ((k : Int) ≤ j) = false := decide_eq_false (by omega)
                go_wp2_with fail
                go_quiet (fail)
                go_wp2_with fail
                go_meet
                case rel => exact ⟨k, rfl, hrg, P.drewN nq, fun h => absurd h hk⟩
          case rest =>
            obtain ⟨i2, rfl, hi2, P1, hs2⟩ := hcut
            clear P hai hij hjb
            go_upto_block 8 with fail
            go_cut [11] (fun s11 wx => ∃ k : Nat, s11 = .int .i64 k ∧ k ≤ j ∧ Part (LLt v) (HGe v) w0 blk off d a b v i2 k dk wx ∧ (i2 ≤ k → dk[k]! < v))
            case first =>
              go_wp2_with fail
              go_loopg [11] (j + 1 - i2) (fun g2 vi wq => ∃ k : Nat, vi = .int .i64 k ∧ k ≤ j ∧ k + 1 - i2 ≤ g2 ∧ Part (LLt v) (HGe v) w0 blk off d a b v i2 k dk wq)
              case atStart => exact ⟨j, rfl, Nat.le_refl _, Nat.le_refl _, P1⟩
              case round =>
                clear P1
                obtain ⟨k, rfl, hrg, hg2, P⟩ := hrel
                have hak := P.ai
                have hkj := P.ij
                have hkb := P.jb
                by_cases hk : i2 ≤ k
                · have hdec : decide ((i2 : Int) ≤ k) = true := decide_eq_true (by omega)
                  obtain ⟨G, hG, hcw, hfw⟩ := fam R P.sw (HSK.out.trans HS.out)
                  rw [HSK.out] at hcw hfw
                  have HG : Hid (G k = dk[k]!) := hG k
                  have HV : Hid (G a = v) := (hG a).trans P.pv
                  clear hG
                  have hless := fun W => less_any (G k) (G a) W
                  cases hl : ltInt (G k) (G a) with
                  | true =>
                    rw [hl] at hless
                    go_wp2_with fail
                    go_quiet (first | (go_at_call 54; refine Calls.quiet_of_same (hless _)))
                    go_wp2_with fail
                    go_meet
                    case rel => exact ⟨k, rfl, hrg, P.drewN nq, fun _ => (by have e1 := HG.out; have e2 := HV.out; have e3 := lt_true hl; rw [e1, e2] at e3; exact e3)⟩
                  | false =>
                    rw [hl] at hless
                    go_wp2_with fail
                    go_quiet (first | (go_at_call 54; refine Calls.quiet_of_same (hless _)))
                    go_wp2_with fail
                    go_roundg (k - 1 + 1 - i2)
                    case measure => omega
                    case rel => exact ⟨k - 1, by congr 1; omega, by omega, Nat.le_refl _, (P.drewN nq).dec hk (by have e1 := HG.out; have e2 := HV.out; have e3 := lt_false hl; rw [e1, e2] at e3; exact e3)⟩
                · have hdec : decide ((i2 : Int) ≤ k) = false := decide_eq_false (by omega)
                  go_wp2_with fail
                  go_quiet (fail)
                  go_wp2_with fail
                  go_meet
                  case rel => exact ⟨k, rfl, hrg, P.drewN nq, fun h => absurd h hk⟩
            case rest =>
              obtain ⟨j2, rfl, hj2, P2, hs3⟩ := hcut
              clear P1
              have hai := P2.ai
              have hij := P2.ij
              have hjb := P2.jb
              by_cases hx : i2 ≤ j2
              · have f1 := hs2 (by omega)
                have f2 := hs3 hx
                have hlt : i2 < j2 := by
                  rcases Nat.lt_or_ge i2 j2 with h | h
                  · exact h
                  · exfalso
                    obtain rfl : i2 = j2 := by omega
                    omega
                have P3 := P2.swap R hb hlt f2 f1
                obtain ⟨G, hG, hcw, hfw⟩ := fam R P2.sw (HSK.out.trans HS.out)
                rw [HSK.out] at hcw hfw
                rw [← hG, ← hG] at P3
                clear hG P2 f1 f2 hs2 hs3
                go_wp2_with fail
                go_region
                go_wp2_with fail
                go_roundg (j2 - 1 + 1 - (i2 + 1))
                case measure => omega
                case rel => exact ⟨i2 + 1, j2 - 1, _, by go_num, by congr 1; omega, Nat.le_refl _, P3⟩
              · obtain rfl : i2 = j2 + 1 := by omega
                have F := P2.fin R hb (fun x h => Int.le_of_lt h) (fun x h => h)
                obtain ⟨G, hG, hcw, hfw⟩ := fam R P2.sw (HSK.out.trans HS.out)
                rw [HSK.out] at hcw hfw
                obtain ⟨u2, hc2⟩ := P2.sw.c2 R (HSK.out.trans HS.out) j2 a (by rw [HSK.out]; omega) (by rw [HSK.out]; omega) (.int .u32 (G a))
                rw [← hG, ← hG] at F
                clear hG P2 hs2 hs3
                go_wp2_with fail
                go_region
                go_wp2_with fail
                go_ret2
                exact ⟨j2, false, _, rfl, by omega, hjb, F.1, F.2.1, F.2.2.1, F.2.2.2⟩
      · obtain rfl : i2 = j2 + 1 := by omega
        have F := P2.fin R hb (fun x h => Int.le_of_lt h) (fun x h => h)
        obtain ⟨G, hG, hcw, hfw⟩ := fam R P2.sw (HSK.out.trans HS.out)
        rw [HSK.out] at hcw hfw
        obtain ⟨u2, hc2⟩ := P2.sw.c2 R (HSK.out.trans HS.out) j2 a (by rw [HSK.out]; omega) (by rw [HSK.out]; omega) (.int .u32 (G a))
        rw [← hG, ← hG] at F
        clear hG P2 hs2 hs3
        go_wp2_with fail
        go_region
        go_wp2_with fail
        go_ret2
        exact ⟨j2, true, _, rfl, by omega, hjb, F.1, F.2.1, F.2.2.1, F.2.2.2⟩
end Go.Proofs.Ytdilnelfkbeamaa
