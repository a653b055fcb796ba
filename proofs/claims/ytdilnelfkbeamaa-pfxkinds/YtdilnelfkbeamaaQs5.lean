/-
  slices.Sort's parts at uint32: partitionEqual, partition.
-/
import Derived.Test.YtdilnelfkbeamaaQs4
namespace Go.Proofs.Ytdilnelfkbeamaa
open Go.RowKit Go.Shelf
open Go.Sort (Holds putRow PermIn SortedIn Below ltInt swp size_swp swp_permIn permIn_refl permIn_trans permIn_all swo_ltInt swp_get)

theorem lt_true {x y : Int} (h : ltInt x y = true) : x < y := by unfold ltInt at h; exact of_decide_eq_true h
theorem lt_false {x y : Int} (h : ltInt x y = false) : y ≤ x := by unfold ltInt at h; have := of_decide_eq_false h; omega

/-- The stretch [a, b) parted about v, which lies at a: (a, i) has L, (j, b) has H. -/
structure Part (L H : Int → Prop) (w0 : World) (blk off : Nat) (d : Array Int) (a b : Nat) (v : Int) (i j : Nat) (dk : Array Int) (W : World) : Prop where
  size : dk.size = d.size
  perm : PermIn a b d dk
  ai : a < i
  ij : i ≤ j + 1
  jb : j < b
  pv : dk[a]! = v
  lo : ∀ t, a < t → t < i → L dk[t]!
  hi : ∀ t, j < t → t < b → H dk[t]!
  sw : SWu w0 blk off dk W

variable {L H : Int → Prop} {w0 : World} {blk off : Nat} {d d0 : Array Int} {a b : Nat} {v : Int} {i j : Nat} {dk : Array Int} {W : World}

theorem Part.drewN (h : Part L H w0 blk off d a b v i j dk W) (n : Nat) : Part L H w0 blk off d a b v i j dk (W.drewN n) :=
  ⟨h.size, h.perm, h.ai, h.ij, h.jb, h.pv, h.lo, h.hi, h.sw.drewN n⟩

theorem Part.inc (h : Part L H w0 blk off d a b v i j dk W) (hij : i ≤ j) (hL : L dk[i]!) : Part L H w0 blk off d a b v (i + 1) j dk W :=
  ⟨h.size, h.perm, by have := h.ai; omega, by omega, h.jb, h.pv, fun t h1 h2 => by
    by_cases e : t = i
    · rw [e]; exact hL
    · exact h.lo t h1 (by omega), h.hi, h.sw⟩

theorem Part.dec (h : Part L H w0 blk off d a b v i j dk W) (hij : i ≤ j) (hH : H dk[j]!) : Part L H w0 blk off d a b v i (j - 1) dk W :=
  ⟨h.size, h.perm, h.ai, by have := h.ai; omega, by have := h.jb; omega, h.pv, h.lo, fun t h1 h2 => by
    by_cases e : t = j
    · rw [e]; exact hH
    · exact h.hi t (by omega) h2, h.sw⟩

theorem Part.swap (h : Part L H w0 blk off d a b v i j dk W) (R : RowU w0 blk off d0) (hb : b ≤ d.size) (hij : i < j) (hL : L dk[j]!) (hH : H dk[i]!) :
    Part L H w0 blk off d a b v (i + 1) (j - 1) (swp dk i j) ((W.setCell ⟨blk, off + i, none⟩ (.int .u32 dk[j]!)).setCell ⟨blk, off + j, none⟩ (.int .u32 dk[i]!)).drew := by
  have hs := h.size
  have ha := h.ai
  have hj := h.jb
  have g := swp_get dk (show i < dk.size by omega) (show j < dk.size by omega)
  refine ⟨by rw [size_swp]; exact hs, permIn_trans _ _ _ _ _ h.perm (swp_permIn dk a b i j (by omega) (by omega) (by omega) hj (by omega)), by omega, by omega, by omega, ?_, ?_, ?_, h.sw.swapped R i j (by omega) (by omega)⟩
  · rw [g, if_neg (by omega), if_neg (by omega)]; exact h.pv
  · intro t h1 h2
    rw [g, if_neg (by omega)]
    by_cases e : t = i
    · rw [if_pos e]; exact hL
    · rw [if_neg e]; exact h.lo t h1 (by omega)
  · intro t h1 h2
    rw [g]
    by_cases e : t = j
    · rw [if_pos e]; exact hH
    · rw [if_neg e, if_neg (by omega)]; exact h.hi t (by omega) h2

theorem Part.start (L H : Int → Prop) (h : SWu w0 blk off d W) (R : RowU w0 blk off d0) (p : Nat) (hb : b ≤ d.size) (hap : a ≤ p) (hpb : p < b) :
    Part L H w0 blk off d a b d[p]! (a + 1) (b - 1) (swp d a p) ((W.setCell ⟨blk, off + a, none⟩ (.int .u32 d[p]!)).setCell ⟨blk, off + p, none⟩ (.int .u32 d[a]!)).drew := by
  have g := swp_get d (show a < d.size by omega) (show p < d.size by omega)
  refine ⟨by rw [size_swp], swp_permIn d a b a p (by omega) (by omega) hap hpb hb, by omega, by omega, by omega, ?_, fun t h1 h2 => by omega, fun t h1 h2 => by omega, h.swapped R a p (by omega) (by omega)⟩
  rw [g]
  by_cases e : a = p
  · rw [if_pos e, e]
  · rw [if_neg e, if_pos rfl]

abbrev LEq (v : Int) : Int → Prop := fun x => x ≤ v
abbrev HEq' (v : Int) : Int → Prop := fun x => v < x

set_option maxRecDepth 100000 in
set_option maxHeartbeats 4000000 in
theorem partitionEqual_any (w0 : World) (blk off cap a b p : Nat) (d0 d : Array Int) (W : World) (R : RowU w0 blk off d0) (hs : d.size = d0.size) (hap : a ≤ p) (hpb : p < b) (hb : b ≤ d.size) (hsz : d.size < 4611686018427387904) (h : SWu w0 blk off d W) :
    Calls Try.prog 55 #[.slice (some ⟨blk, off, none⟩) d.size cap, .int .i64 a, .int .i64 b, .int .i64 p] W fun e W' =>
      ∃ (m : Nat) (d' : Array Int), e = .returned (.int .i64 m) ∧ a < m ∧ m ≤ b ∧ PermIn a b d d' ∧ (∀ t, a ≤ t → t < m → d'[t]! ≤ d[p]!) ∧ (∀ t, m ≤ t → t < b → d[p]! < d'[t]!) ∧ SWu w0 blk off d' W' := by
  have P0 := Part.start (LEq d[p]!) (HEq' d[p]!) h R p hb hap hpb
  have HS : Hid (d.size = d0.size) := hs
  obtain ⟨G, hG, hcw, hfw⟩ := fam R h hs
  obtain ⟨u2, hc2⟩ := h.c2 R hs a p (by omega) (by omega) (.int .u32 (G p))
  rw [← hG, ← hG] at P0
  rw [← hG]
  clear hs h hG
  go_enter Try.func55, Try.ntmps55
  go_wp2_with fail
  go_region
  generalize ((W.setCell ⟨blk, off + a, none⟩ (.int .u32 (G p))).setCell ⟨blk, off + p, none⟩ (.int .u32 (G a))).drew = w1 at P0 ⊢
  obtain ⟨v, hv⟩ : ∃ v, v = G p := ⟨_, rfl⟩
  rw [← hv] at P0
  have HV0 : Hid (v = G p) := hv
  clear hv
  clear hcw hfw hc2
  go_wp2_with fail
  go_loopg [9, 10] (b - a) (fun g1 vi vj wr => ∃ (i j : Nat) (dk : Array Int), vi = .int .i64 i ∧ vj = .int .i64 j ∧ j + 1 - i ≤ g1 ∧ Part (LEq v) (HEq' v) w0 blk off d a b v i j dk wr)
  case atStart => exact ⟨a + 1, b - 1, _, by go_num, by congr 1; omega, by omega, P0⟩
  case round =>
    clear P0
    obtain ⟨i, j, dk, rfl, rfl, hg1, P⟩ := hrel
    have HSK : Hid (dk.size = d.size) := P.size
    have hjb := P.jb
    have hai := P.ai
    have hij := P.ij
    go_upto_block 2 with fail
    go_cut [9] (fun s9 wx => ∃ k : Nat, s9 = .int .i64 k ∧ i ≤ k ∧ Part (LEq v) (HEq' v) w0 blk off d a b v k j dk wx ∧ (k ≤ j → v < dk[k]!))
    case first =>
      go_wp2_with fail
      go_loopg [9] (j + 1 - i) (fun g2 vi wq => ∃ k : Nat, vi = .int .i64 k ∧ i ≤ k ∧ j + 1 - k ≤ g2 ∧ Part (LEq v) (HEq' v) w0 blk off d a b v k j dk wq)
      case atStart => exact ⟨i, rfl, Nat.le_refl _, Nat.le_refl _, P⟩
      case round =>
        clear P
        obtain ⟨k, rfl, hrg, hg2, P⟩ := hrel
        have hak := P.ai
        have hkj := P.ij
        have hkb := P.jb
        by_cases hk : k ≤ j
        · have hdec : decide ((k : Int) ≤ j) = true := decide_eq_true (by omega)
          obtain ⟨G, hG, hcw, hfw⟩ := fam R P.sw (HSK.out.trans HS.out)
          rw [HSK.out] at hcw hfw
          have HG : Hid (G k = dk[k]!) := hG k
          have HV : Hid (G a = v) := (hG a).trans P.pv
          clear hG
          have hless := fun W => less_any (G a) (G k) W
          cases hl : ltInt (G a) (G k) with
          | true =>
            rw [hl] at hless
            go_wp2_with fail
            go_quiet (first | (go_at_call 54; refine Calls.quiet_of_same (hless _)))
            go_wp2_with fail
            go_meet
            case rel => exact ⟨k, rfl, hrg, P.drewN nq, fun _ => (by have e1 := HG.out; have e2 := HV.out; have e3 := lt_true hl; rw [e1, e2] at e3; exact e3)⟩
          | false =>
            rw [hl] at hless
            go_wp2_with fail
            go_quiet (first | (go_at_call 54; refine Calls.quiet_of_same (hless _)))
            go_wp2_with fail
            go_roundg (j + 1 - (k + 1))
            case measure => omega
            case rel => exact ⟨k + 1, by go_num, by omega, Nat.le_refl _, (P.drewN nq).inc hk (by have e1 := HG.out; have e2 := HV.out; have e3 := lt_false hl; rw [e1, e2] at e3; exact e3)⟩
        · have hdec : decide ((k : Int) ≤ j) = false := decide_eq_false (by omega)
          go_wp2_with fail
          go_quiet (fail)
          go_wp2_with fail
          go_meet
          case rel => exact ⟨k, rfl, hrg, P.drewN nq, fun h => absurd h hk⟩
    case rest =>
      obtain ⟨i2, rfl, hi2, P1, hs2⟩ := hcut
      clear P hai hij hjb
      go_upto_block 4 with fail
      go_cut [10] (fun s10 wx => ∃ k : Nat, s10 = .int .i64 k ∧ k ≤ j ∧ Part (LEq v) (HEq' v) w0 blk off d a b v i2 k dk wx ∧ (i2 ≤ k → dk[k]! ≤ v))
      case first =>
        go_wp2_with fail
        go_loopg [10] (j + 1 - i2) (fun g2 vi wq => ∃ k : Nat, vi = .int .i64 k ∧ k ≤ j ∧ k + 1 - i2 ≤ g2 ∧ Part (LEq v) (HEq' v) w0 blk off d a b v i2 k dk wq)
        case atStart => exact ⟨j, rfl, Nat.le_refl _, Nat.le_refl _, P1⟩
        case round =>
          clear P1
          obtain ⟨k, rfl, hrg, hg2, P⟩ := hrel
          have hak := P.ai
          have hkj := P.ij
          have hkb := P.jb
          by_cases hk : i2 ≤ k
          · have hdec : decide ((i2 : Int) ≤ k) = true := decide_eq_true (by omega)
            obtain ⟨G, hG, hcw, hfw⟩ := fam R P.sw (HSK.out.trans HS.out)
            rw [HSK.out] at hcw hfw
            have HG : Hid (G k = dk[k]!) := hG k
            have HV : Hid (G a = v) := (hG a).trans P.pv
            clear hG
            have hless := fun W => less_any (G a) (G k) W
            cases hl : ltInt (G a) (G k) with
            | true =>
              rw [hl] at hless
              go_wp2_with fail
              go_quiet (first | (go_at_call 54; refine Calls.quiet_of_same (hless _)))
              go_wp2_with fail
              go_roundg (k - 1 + 1 - i2)
              case measure => omega
              case rel => exact ⟨k - 1, by congr 1; omega, by omega, Nat.le_refl _, (P.drewN nq).dec hk (by have e1 := HG.out; have e2 := HV.out; have e3 := lt_true hl; rw [e1, e2] at e3; exact e3)⟩
            | false =>
              rw [hl] at hless
              go_wp2_with fail
              go_quiet (first | (go_at_call 54; refine Calls.quiet_of_same (hless _)))
              go_wp2_with fail
              go_meet
              case rel => exact ⟨k, rfl, hrg, P.drewN nq, fun _ => (by have e1 := HG.out; have e2 := HV.out; have e3 := lt_false hl; rw [e1, e2] at e3; exact e3)⟩
          · have hdec : decide ((i2 : Int) ≤ k) = false := decide_eq_false (by omega)
            go_wp2_with fail
            go_quiet (fail)
            go_wp2_with fail
            go_meet
            case rel => exact ⟨k, rfl, hrg, P.drewN nq, fun h => absurd h hk⟩
      case rest =>
        obtain ⟨j2, rfl, hj2, P2, hs3⟩ := hcut
        clear P1
        have hai := P2.ai
        have hij := P2.ij
        have hjb := P2.jb
        by_cases hx : i2 ≤ j2
        · have f1 := hs2 (by omega)
          have f2 := hs3 hx
          have hlt : i2 < j2 := by
            rcases Nat.lt_or_ge i2 j2 with h | h
            · exact h
            · exfalso
              obtain rfl : i2 = j2 := by omega
              omega
          have P3 := P2.swap R hb hlt f2 f1
          obtain ⟨G, hG, hcw, hfw⟩ := fam R P2.sw (HSK.out.trans HS.out)
          rw [HSK.out] at hcw hfw
          rw [← hG, ← hG] at P3
          clear hG P2 f1 f2 hs2 hs3
          go_wp2_with fail
          go_region
          go_wp2_with fail
          go_roundg (j2 - 1 + 1 - (i2 + 1))
          case measure => omega
          case rel => exact ⟨i2 + 1, j2 - 1, _, by go_num, by congr 1; omega, Nat.le_refl _, P3⟩
        · go_wp2_with fail
          go_ret
          rw [← HV0.out]
          refine ⟨i2, dk, rfl, hai, by omega, P2.perm, fun t h1 h2 => ?_, fun t h1 h2 => P2.hi t (by omega) h2, P2.sw⟩
          by_cases e : t = a
          · rw [e, P2.pv]; exact Int.le_refl _
          · exact P2.lo t (by omega) h2
end Go.Proofs.Ytdilnelfkbeamaa
