/-
  slices.pdqsortOrdered at uint32 sorts its stretch: the walk.
-/
import Derived.Test.YtdilnelfkbeamaaQs9
namespace Go.Proofs.Ytdilnelfkbeamaa
open Go.RowKit Go.Shelf
open Go.Sort (Holds putRow PermIn SortedIn Below ltInt)

/-- pdqsort at stretches of at most n numbers. -/
def PdqTo (n : Nat) : Prop := ∀ (w0 : World) (blk off cap a b lim : Nat) (d0 d : Array Int) (W : World), RowU w0 blk off d0 → d.size = d0.size → a ≤ b → b - a ≤ n → b ≤ d.size → d.size < 1152921504606846976 → lim ≤ 1000 → Below ltInt a b d → SWu w0 blk off d W →
  Calls Try.prog 46 #[.slice (some ⟨blk, off, none⟩) d.size cap, .int .i64 a, .int .i64 b, .int .i64 lim] W fun e W' =>
    e = .returned (.tuple #[]) ∧ ∃ d', PermIn a b d d' ∧ SortedIn ltInt a b d' ∧ SWu w0 blk off d' W'

set_option maxRecDepth 100000 in
set_option maxHeartbeats 16000000 in
theorem pdq_step (n : Nat) (IH : ∀ m, m < n → PdqTo m) : PdqTo n := by
  intro w0 blk off cap a b lim d0 d W R hs hab hn hb hsz hlim hB h
  have HS : Hid (d.size = d0.size) := hs
  have I0 : PInv w0 blk off d a b a b d W := ⟨rfl, hb, Go.Sort.permIn_refl _ _ _, Nat.le_refl _, hab, Nat.le_refl _, hB, fun _ _ h => h, h⟩
  clear hs h hB
  go_enter Try.func46, Try.ntmps46
  go_wp2_with fail
  go_loopg [1, 2, 3, 8, 9] (b - a) (fun g va vb vl vB vP wr => ∃ (a' b' lim' : Nat) (wb wp : Bool) (dk : Array Int), va = .int .i64 a' ∧ vb = .int .i64 b' ∧ vl = .int .i64 lim' ∧ vB = .bool wb ∧ vP = .bool wp ∧ b' - a' ≤ g ∧ lim' ≤ 1000 ∧ PInv w0 blk off d a b a' b' dk wr)
  case atStart => exact ⟨a, b, lim, true, true, d, rfl, rfl, rfl, rfl, rfl, Nat.le_refl _, hlim, I0⟩
  case round =>
    clear I0 hlim
    obtain ⟨a', b', lim', wb, wp, dk, rfl, rfl, rfl, rfl, rfl, hg, hlim, I⟩ := hrel
    have haa := I.aa
    have hab' := I.ab
    have hbb := I.bb
    have HSK : Hid (dk.size = d.size) := I.size
    obtain ⟨l, hl⟩ : ∃ l, l = b' - a' := ⟨_, rfl⟩
    have zl : (b' : Int) - a' = l := by omega
    clear hl
    by_cases h12 : l ≤ 12
    · have hc := insertion_sw cap R (HSK.out.trans HS.out) hab' (by rw [HSK.out]; omega) (by rw [HSK.out]; omega) I.sw
      rw [HSK.out] at hc
      go_wp2_with fail
      refine hc.mono ?_
      rintro e w1 ⟨rfl, d1, hP, hS, S⟩
      go_wp2_with fail
      (try simp only [Exit.inBlock, Exit.then])
      refine bodyPost_ret (results_none rfl _ _ _) rfl ?_
      exact ⟨rfl, d1, (I.done hP hS).1, (I.done hP hS).2, S⟩
    · by_cases hl0 : lim' = 0
      · subst hl0
        have hc := heapSort_any w0 blk off cap a' b' d0 dk wr R (HSK.out.trans HS.out) (by omega) (by rw [HSK.out]; omega) (by rw [HSK.out]; omega) I.sw
        rw [HSK.out] at hc
        go_wp2_with fail
        refine hc.mono ?_
        rintro e w1 ⟨rfl, d1, hP, hS, S⟩
        go_wp2_with fail
        (try simp only [Exit.inBlock, Exit.then])
        refine bodyPost_ret (results_none rfl _ _ _) rfl ?_
        exact ⟨rfl, d1, (I.done hP hS).1, (I.done hP hS).2, S⟩
      · have hl0' : ((lim' : Int) == 0) = false := by simp; omega
        go_upto_if 35 with fail
        go_cut [3] (fun s3 wx => ∃ (lim2 : Nat) (d1 : Array Int), s3 = .int .i64 lim2 ∧ lim2 ≤ 1000 ∧ PInv w0 blk off d a b a' b' d1 wx)
        case first =>
          cases wb with
          | false =>
            have hc := break_any w0 blk off cap a' l d0 dk wr R (HSK.out.trans HS.out) (by rw [HSK.out]; omega) (by rw [HSK.out]; omega) I.sw
            rw [HSK.out, show (a' : Int) + l = b' by omega, show a' + l = b' by omega] at hc
            go_wp2_with fail
            refine hc.mono ?_
            rintro e w1 ⟨rfl, d1, hP, S⟩
            clear hc
            go_wp2_with fail
            go_meet
            case rel => exact ⟨lim' - 1, d1, by congr 1; omega, by omega, I.on hP S⟩
          | true =>
            go_wp2_with fail
            go_meet
            case rel => exact ⟨lim', dk, rfl, hlim, I⟩
        case rest =>
          clear I HSK hl0 hl0'
          obtain ⟨lim2, d1, rfl, hlim2, I1⟩ := hcut
          have HS1 : Hid (d1.size = d.size) := I1.size
          have hc := choosePivot_any w0 blk off cap a' l d0 d1 wc R (HS1.out.trans HS.out) (by omega) (by rw [HS1.out]; omega) (by rw [HS1.out]; omega) I1.sw
          rw [HS1.out, show (a' : Int) + l = b' by omega, show a' + l = b' by omega] at hc
          go_wp2_with fail
          refine hc.mono ?_
          rintro e w2 ⟨p, hint, rfl, hp1, hp2, hh0, hh2, S2⟩
          have I2 := I1.same S2
          clear hc I1 S2
          go_upto_if 50 with fail
          go_cut [11, 12] (fun s11 s12 wx => ∃ (p' : Nat) (hint' : Int) (d2 : Array Int), s11 = .int .i64 p' ∧ s12 = .int .i64 hint' ∧ a' ≤ p' ∧ p' < b' ∧ PInv w0 blk off d a b a' b' d2 wx)
          case first =>
            by_cases hd : hint = 2
            · subst hd
              have hc := reverse_any w0 blk off cap a' b' d0 d1 w2 R (HS1.out.trans HS.out) hab' (by rw [HS1.out]; omega) (by rw [HS1.out]; omega) I2.sw
              rw [HS1.out] at hc
              go_wp2_with fail
              refine hc.mono ?_
              rintro e w3 ⟨rfl, d2, hP, S⟩
              clear hc
              go_wp2_with fail
              go_meet
              case rel => exact ⟨(b' - 1) - (p - a'), 1, d2, by congr 1; omega, rfl, by omega, by omega, I2.on hP S⟩
            · have e2 : (hint == 2) = false := by simpa using hd
              go_wp2_with fail
              go_meet
              case rel => exact ⟨p, hint, d1, rfl, rfl, hp1, hp2, I2⟩
          case rest =>
            clear I2 HS1 hh0 hh2 hp1 hp2
            obtain ⟨p, hint, d2, rfl, rfl, hp1, hp2, I3⟩ := hcut
            have HS2 : Hid (d2.size = d.size) := I3.size
            go_upto_region 15 with fail
            go_cut [68] (fun s68 wx => ∃ r : Bool, s68 = .bool r ∧ PInv w0 blk off d a b a' b' d2 wx)
            case first =>
              by_cases hd : hint = 1
              · subst hd
                cases wb <;> cases wp <;> (go_wp2_with fail; go_meet; exact ⟨_, rfl, I3⟩)
              · have e1 : (hint == 1) = false := by simpa using hd
                cases wb <;> cases wp <;> (go_wp2_with fail; go_meet; exact ⟨_, rfl, I3⟩)
            case rest =>
              clear I3
              obtain ⟨r, rfl, I4⟩ := hcut
              go_upto_if 68 with fail
              go_cut [] (fun wx => ∃ d3, PInv w0 blk off d a b a' b' d3 wx)
              case first =>
                cases r with
                | true =>
                  have hc := shortIns_any w0 blk off cap a' b' d0 d2 _ R (HS2.out.trans HS.out) (by omega) (by rw [HS2.out]; omega) (by rw [HS2.out]; omega) I4.bel I4.sw
                  rw [HS2.out] at hc
                  go_wp2_with fail
                  refine hc.mono ?_
                  rintro e w5 ⟨r, d3, rfl, hP, hSt, S⟩
                  clear hc
                  cases r with
                  | true =>
                    have hDone := I4.done hP (hSt rfl)
                    clear hSt
                    go_wp2_with fail
                    (try simp only [Exit.inBlock, Exit.then])
                    refine bodyPost_ret (results_none rfl _ _ _) rfl ?_
                    exact ⟨rfl, d3, hDone.1, hDone.2, S⟩
                  | false =>
                    go_wp2_with fail
                    go_meet
                    case rel => exact ⟨d3, I4.on hP S⟩
                | false =>
                  go_wp2_with fail
                  go_meet
                  case rel => exact ⟨d2, I4⟩
              case rest =>
                clear I4 HS2
                obtain ⟨d3, I5⟩ := hcut
                have HS3 : Hid (d3.size = d.size) := I5.size
                go_upto_region 17 with fail
                go_cut [87] (fun s87 wx => ∃ r : Bool, s87 = .bool r ∧ (r = true → 0 < a' ∧ d3[p]! ≤ d3[a' - 1]!) ∧ PInv w0 blk off d a b a' b' d3 wx)
                case first =>
                  by_cases ha0 : 0 < a'
                  · have hdec : decide ((0 : Int) < a') = true := decide_eq_true (by omega)
                    obtain ⟨G, hG, hcw, hfw⟩ := fam R I5.sw (HS3.out.trans HS.out)
                    rw [HS3.out] at hcw hfw
                    have HG : Hid (∀ t, G t = d3[t]!) := hG
                    clear hG
                    have hless := fun W => less_any (G (a' - 1)) (G p) W
                    cases hl : ltInt (G (a' - 1)) (G p) with
                    | true =>
                      rw [hl] at hless
                      go_quiet (first | (go_at_call 54; refine Calls.quiet_of_same (hless _)))
                      go_wp2_with fail
                      go_meet
                      case rel => exact ⟨false, rfl, (fun h => by cases h), I5.same (I5.sw.drewN nq)⟩
                    | false =>
                      rw [hl] at hless
                      go_quiet (first | (go_at_call 54; refine Calls.quiet_of_same (hless _)))
                      go_wp2_with fail
                      go_meet
                      case rel => exact ⟨true, rfl, (fun _ => ⟨ha0, by have := lt_false hl; rw [HG.out, HG.out] at this; exact this⟩), I5.same (I5.sw.drewN nq)⟩
                  · have hdec : decide ((0 : Int) < a') = false := decide_eq_false (by omega)
                    go_quiet (fail)
                    go_wp2_with fail
                    go_meet
                    case rel => exact ⟨false, rfl, (fun h => by cases h), I5.same (I5.sw.drewN nq)⟩
                case rest =>
                  clear I5
                  obtain ⟨r, rfl, hr, I6⟩ := hcut
                  cases r with
                  | true =>
                    obtain ⟨ha0, hpa⟩ := hr rfl
                    have hc := partitionEqual_any w0 blk off cap a' b' p d0 d3 _ R (HS3.out.trans HS.out) hp1 hp2 (by rw [HS3.out]; omega) (by rw [HS3.out]; omega) I6.sw
                    rw [HS3.out] at hc
                    clear hr
                    go_wp2_with fail
                    refine hc.mono ?_
                    rintro e w7 ⟨m, d4, rfl, hm1, hm2, hP, hlo, hhi, S⟩
                    have I7 := I6.equal d3[p]! (fun i h1 h2 => Int.le_trans hpa (below_le I6.bel ha0 i h1 h2)) m hm1 hm2 hP hlo hhi S
                    clear hc hlo hhi S hP I6 hpa
                    go_wp2_with fail
                    go_roundg (b' - m)
                    case measure => omega
                    case rel => exact ⟨m, b', lim2, wb, wp, d4, rfl, rfl, rfl, rfl, rfl, Nat.le_refl _, hlim2, I7⟩
                  | false =>
                    clear hr
                    have hc := partition_any w0 blk off cap a' b' p d0 d3 _ R (HS3.out.trans HS.out) hp1 hp2 (by rw [HS3.out]; omega) (by rw [HS3.out]; omega) I6.sw
                    rw [HS3.out] at hc
                    go_wp2_with fail
                    refine hc.mono ?_
                    rintro e w7 ⟨m, r, d4, rfl, hm1, hm2, hP, hlo, hhi, S⟩
                    have I7 := I6.on hP S
                    have HS4 : Hid (d4.size = d.size) := I7.size
                    have HLH : Hid ((∀ t, a' ≤ t → t < m → d4[t]! ≤ d4[m]!) ∧ (∀ t, m < t → t < b' → d4[m]! ≤ d4[t]!)) := ⟨hlo, hhi⟩
                    clear hc S hP I6 hlo hhi
                    by_cases hlr : m - a' < b' - m
                    · have hBe : Below ltInt a' m d4 := by
                        rcases I7.bel with e | e
                        · exact Or.inl e
                        · exact Or.inr fun i h1 h2 => e i h1 (by omega)
                      have hc := IH (m - a') (by omega) w0 blk off cap a' m lim2 d0 d4 w7 R (HS4.out.trans HS.out) hm1 (Nat.le_refl _) (by rw [HS4.out]; omega) (by rw [HS4.out]; omega) hlim2 hBe I7.sw
                      rw [HS4.out] at hc
                      clear hBe
                      go_wp2_with fail
                      refine hc.mono ?_
                      rintro e w8 ⟨rfl, d5, hP5, hS5, S5⟩
                      have I8 := I7.left m hm1 hm2 HLH.out.1 HLH.out.2 hP5 hS5 S5
                      clear hc hP5 hS5 S5 I7
                      go_wp2_with fail
                      go_roundg (b' - (m + 1))
                      case measure => omega
                      case rel => exact ⟨m + 1, b', lim2, _, r, d5, by go_num, rfl, rfl, rfl, rfl, Nat.le_refl _, hlim2, I8⟩
                    · have hBe : Below ltInt (m + 1) b' d4 := Or.inr fun i h1 h2 => ltInt_false (by rw [Nat.add_sub_cancel]; exact HLH.out.2 i (by omega) h2)
                      have hc := IH (b' - (m + 1)) (by omega) w0 blk off cap (m + 1) b' lim2 d0 d4 w7 R (HS4.out.trans HS.out) (by omega) (Nat.le_refl _) (by rw [HS4.out]; omega) (by rw [HS4.out]; omega) hlim2 hBe I7.sw
                      rw [HS4.out, show (((m + 1 : Nat) : Int)) = (m : Int) + 1 by omega] at hc
                      clear hBe
                      go_wp2_with fail
                      refine hc.mono ?_
                      rintro e w8 ⟨rfl, d5, hP5, hS5, S5⟩
                      have I8 := I7.right m hm1 hm2 HLH.out.1 HLH.out.2 hP5 hS5 S5
                      clear hc hP5 hS5 S5 I7
                      go_wp2_with fail
                      go_roundg (m - a')
                      case measure => omega
                      case rel => exact ⟨a', m, lim2, _, r, d5, rfl, rfl, rfl, rfl, rfl, Nat.le_refl _, hlim2, I8⟩

theorem pdq_all (n : Nat) : PdqTo n := by
  induction n using Nat.strongRecOn with
  | _ n ih => exact pdq_step n ih
end Go.Proofs.Ytdilnelfkbeamaa
