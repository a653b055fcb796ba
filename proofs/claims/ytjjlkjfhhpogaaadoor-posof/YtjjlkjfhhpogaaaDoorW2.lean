/-
  Walks: the two Sizes, Great, rightAlone, roomBehind, Right, kinds, the document's Right.
  Walks: roomBehind, Right, kinds, the document's Right.
-/
import Derived.Test.YtjjlkjfhhpogaaaDoorTree
namespace Go.Proofs.YtjjlkjfhhpogaaaDoor
open Go.RowKit

abbrev tc (x : PC) : Array Value := #[.int .i64 x.k, .slice x.s.a x.s.n x.s.c, .slice x.b.a x.b.n x.b.c]
abbrev BlkT (W : World) (b : Nat) (x : PC) : Prop := Blk W b (tc x) 25
theorem BlkT.cs {W : World} {b : Nat} {x : PC} (h : BlkT W b x) : W.cell? ⟨b, 0, none⟩ = some (.int .i64 x.k) ∧ W.cell? ⟨b, 1, none⟩ = some (.slice x.s.a x.s.n x.s.c) ∧ W.cell? ⟨b, 2, none⟩ = some (.slice x.b.a x.b.n x.b.c) := ⟨h.c 0, h.c 1, h.c 2⟩

theorem beq0 (S : Nat) : ((S : Int) == 0) = decide (S = 0) := by
  by_cases h : S = 0
  · subst h; rfl
  · have : ¬ (S : Int) = 0 := by omega
    simp [h]
theorem beq1 (S : Nat) : ((S : Int) == 1) = decide (S = 1) := by
  by_cases h : S = 1
  · subst h; rfl
  · have : ¬ (S : Int) = 1 := by omega
    simp [h, this]
theorem w64 {n : Int} (h : -9223372036854775808 ≤ n ∧ n ≤ 9223372036854775807) : wrap64 n = n := by unfold wrap64; omega

set_option maxHeartbeats 2000000 in
theorem rsize_any (m : Nat) : ∀ (t : Tree) (x : PC) (w : World), size t ≤ m → okT t → HT w t x →
    Calls Tryd.prog 25 #[x.v] w fun e w' => (∃ p d : Int, e = .returned (.tuple #[.int .i64 p, .int .i64 d]) ∧ p = min (size t : Int) 1000000 ∧ (deep t < 4611686018427387904 → d = deep t)) ∧ Gr w w' := by
  induction m with
  | zero => intro t x w h; have := size_pos t; omega
  | succ m ih =>
    intro t x w hm hok hx
    obtain ⟨k, set, subs, rows, sa, sc, ba, bc, rfl, rfl, hs, hb, hrows⟩ := hx.parts
    obtain ⟨_, hlen, hokL⟩ := (okT_mk _ _ _).1 hok
    rw [size_mk] at hm
    have HM : Hid (sizeL subs ≤ m) := by show _ ≤ _; omega
    have HOK : Hid (okL subs) := hokL
    have HB : Hid (RowT w (.slice ba subs.length bc) rows) := hb
    have HR : Hid (HTs w subs rows) := hrows
    obtain ⟨S, hS⟩ : ∃ S, S = set.length := ⟨_, rfl⟩
    obtain ⟨N, hN⟩ : ∃ N, N = subs.length := ⟨_, rfl⟩
    have HN : Hid (N = subs.length) := hN
    rw [size_mk, deep_mk]
    rw [← hN] at hlen HB ⊢
    rw [← hS]
    clear hb hrows hs hx hok hokL hm hN hS
    go_enter Tryd.func25, Tryd.ntmps25
    go_wp2_with fail
    go_loopw [4, 5, 13] (fun vp vd vi wr => ∃ (k : Nat) (p d : Int), k ≤ N ∧ vi = .int .i64 k ∧ vp = .int .i64 p ∧ vd = .int .i64 d ∧ 0 ≤ p ∧ p ≤ 1000000 ∧ Hid (p = min (1 + sizeL (subs.take k) : Int) 1000000) ∧ Hid (deepL (subs.take k) < 4611686018427387904 → d = deepL (subs.take k)) ∧ Hid (Gr w wr)) (fun _ _ vi _ => N - (intOf vi).toNat)
    case atStart => exact ⟨0, 1, 0, Nat.zero_le _, rfl, rfl, rfl, by omega, by omega, by simp [Hid, sizeL_nil]; omega, fun _ => by simp [deepL_nil], (Gr.refl _).alloc _⟩
    case round =>
      obtain ⟨k, p, d, hk, rfl, rfl, rfl, hp0, hp1, HP, HD, HG⟩ := hrel
      by_cases hlt : k < N
      case neg =>
        have HTk : Hid (subs.take k = subs) := List.take_of_length_le (by have := HN.out; omega)
        rw [HTk.out] at HP HD
        go_wp2_with fail
        refine bodyPost_ret (v := .tuple #[.int .i64 p, .int .i64 (wrap64 (d + 1))]) (by simp [results, Tryd.results25, go_sem]) rfl ⟨⟨_, _, rfl, ?_, fun h => ?_⟩, HG.out⟩
        · rw [HP.out]; omega
        · rw [HD.out (by omega), w64 (by omega)]; omega
      obtain ⟨t, ht⟩ : ∃ t, subs[k]? = some t := ⟨_, List.getElem?_eq_getElem (by have := HN.out; omega)⟩
      obtain ⟨r, hr, hrt⟩ := HR.out.at ht
      have HRT : Hid (HT w t r) := hrt
      obtain ⟨b, off, rfl, hb, d0, d1, d2⟩ := (HB.out.gr HG.out).cs3 hr
      have kin := fun W h => ih t r W (by have := size_le_of_at ht; have := HM.out; omega) (HOK.out.at ht) h
      have HS1 : Hid (sizeL (subs.take (k + 1)) = sizeL (subs.take k) + size t) := sizeL_take ht
      have HS2 : Hid (deepL (subs.take (k + 1)) = max (deepL (subs.take k)) (deep t)) := deepL_take ht
      clear ih hr hrt ht
      obtain ⟨rk, ⟨r1, r2, r3⟩, r4, r5, r6⟩ := r
      simp only at d0 d1 d2
      go_wp2_with (go_at_call 25; refine (kin _ (HRT.out.gr (HG.out.alloc _))).mono ?_; rintro _ w2 ⟨⟨p', d', rfl, hp', hd'⟩, gw⟩; have G2 : Hid (Gr w w2) := (HG.out.alloc _).trans gw; clear gw; have HP' : Hid (p' = min (size t : Int) 1000000) := hp'; have HD' : Hid (deep t < 4611686018427387904 → d' = deep t) := hd'; have hp2 : 0 ≤ p' := (by omega); have hp3 : p' ≤ 1000000 := (by omega); clear hp' hd')
      go_roundw
      case rel =>
        refine ⟨k + 1, _, _, by omega, by go_num, rfl, rfl, ?_, ?_, ?_, ?_, G2.out⟩
        · split <;> omega
        · split <;> omega
        · have h1 := HP.out; have h2 := HP'.out; have h3 := HS1.out
          show _ = _
          rw [h3]
          split <;> omega
        · intro h
          have h3 := HS2.out
          rw [h3] at h ⊢
          rw [HD.out (by omega), HD'.out (by omega)]
          split <;> omega
      case measure => simp [intOf]; omega
set_option maxHeartbeats 2000000 in
theorem psize_any (m : Nat) : ∀ (t : Tree) (x : PC) (w : World), size t ≤ m → size t ≤ 1000000 → HT w t x →
    Calls Tryd.prog 24 #[x.v] w fun e w' => (∃ p d : Int, e = .returned (.tuple #[.int .i64 p, .int .i64 d]) ∧ p = size t ∧ d = deep t) ∧ Gr w w' := by
  induction m with
  | zero => intro t x w h; have := size_pos t; omega
  | succ m ih =>
    intro t x w hm hmm hx
    obtain ⟨k, set, subs, rows, sa, sc, ba, bc, rfl, rfl, hs, hb, hrows⟩ := hx.parts
    rw [size_mk] at hm hmm
    have HM : Hid (sizeL subs ≤ m) := by show _ ≤ _; omega
    have HMM : Hid (sizeL subs + 1 ≤ 1000000) := hmm
    have HB : Hid (RowT w (.slice ba subs.length bc) rows) := hb
    have HR : Hid (HTs w subs rows) := hrows
    obtain ⟨S, hS⟩ : ∃ S, S = set.length := ⟨_, rfl⟩
    obtain ⟨N, hN⟩ : ∃ N, N = subs.length := ⟨_, rfl⟩
    have HN : Hid (N = subs.length) := hN
    have hlen : N ≤ 1000000 := by have := length_le_sizeL subs; omega
    rw [size_mk, deep_mk]
    rw [← hN] at HB ⊢
    rw [← hS]
    clear hb hrows hs hx hm hmm hN hS
    go_enter Tryd.func24, Tryd.ntmps24
    go_wp2_with fail
    go_loopw [2, 3, 11] (fun vp vd vi wr => ∃ (k : Nat) (p d : Int), k ≤ N ∧ vi = .int .i64 k ∧ vp = .int .i64 p ∧ vd = .int .i64 d ∧ 0 ≤ p ∧ p ≤ 1000000 ∧ 0 ≤ d ∧ d ≤ 1000000 ∧ Hid (p = 1 + sizeL (subs.take k)) ∧ Hid (d = deepL (subs.take k)) ∧ Hid (Gr w wr)) (fun _ _ vi _ => N - (intOf vi).toNat)
    case atStart => exact ⟨0, 1, 0, Nat.zero_le _, rfl, rfl, rfl, by omega, by omega, by omega, by omega, by simp [Hid, sizeL_nil], by simp [Hid, deepL_nil], (Gr.refl _).alloc _⟩
    case round =>
      obtain ⟨k, p, d, hk, rfl, rfl, rfl, hp0, hp1, hd0, hd1, HP, HD, HG⟩ := hrel
      by_cases hlt : k < N
      case neg =>
        have HTk : Hid (subs.take k = subs) := List.take_of_length_le (by have := HN.out; omega)
        rw [HTk.out] at HP HD
        go_wp2_with fail
        refine bodyPost_ret (v := .tuple #[.int .i64 p, .int .i64 (d + 1)]) (by simp [results, Tryd.results24, go_sem]) rfl ⟨⟨_, _, rfl, ?_, ?_⟩, HG.out⟩
        · rw [HP.out]; omega
        · rw [HD.out]; omega
      obtain ⟨t, ht⟩ : ∃ t, subs[k]? = some t := ⟨_, List.getElem?_eq_getElem (by have := HN.out; omega)⟩
      obtain ⟨r, hr, hrt⟩ := HR.out.at ht
      have HRT : Hid (HT w t r) := hrt
      obtain ⟨b, off, rfl, hb, d0, d1, d2⟩ := (HB.out.gr HG.out).cs3 hr
      have kin := fun W h => ih t r W (by have := size_le_of_at ht; have := HM.out; omega) (by have := size_le_of_at ht; have := HMM.out; omega) h
      have HS1 : Hid (sizeL (subs.take (k + 1)) = sizeL (subs.take k) + size t) := sizeL_take ht
      have HS2 : Hid (deepL (subs.take (k + 1)) = max (deepL (subs.take k)) (deep t)) := deepL_take ht
      have HS3 : Hid (sizeL (subs.take (k + 1)) ≤ sizeL subs) := sizeL_take_le _ _
      have HS4 : Hid (deep t ≤ size t) := deep_le_size t
      clear ih hr hrt ht
      obtain ⟨rk, ⟨r1, r2, r3⟩, r4, r5, r6⟩ := r
      simp only at d0 d1 d2
      go_wp2_with (go_at_call 24; refine (kin _ (HRT.out.gr (HG.out.alloc _))).mono ?_; rintro _ w2 ⟨⟨p', d', rfl, hp', hd'⟩, gw⟩; have G2 : Hid (Gr w w2) := (HG.out.alloc _).trans gw; clear gw; have HP' : Hid (p' = size t) := hp'; have HD' : Hid (d' = deep t) := hd'; have hp2 : 0 ≤ p' := (by omega); have hp3 : p + p' ≤ 1000000 := (by have a1 := HS1.out; have a2 := HS3.out; have a3 := HMM.out; have a4 := HP.out; omega); have hd2 : 0 ≤ d' := (by omega); have hd3 : d' ≤ 1000000 := (by have a4 := HS4.out; omega); clear hp' hd')
      go_roundw
      case rel =>
        refine ⟨k + 1, _, _, by omega, by go_num, rfl, rfl, ?_, ?_, ?_, ?_, ?_, ?_, G2.out⟩
        · omega
        · omega
        · split <;> omega
        · split <;> omega
        · have h1 := HP.out; have h2 := HP'.out; have h3 := HS1.out
          show _ = _
          rw [h3]
          omega
        · have h1 := HD.out; have h2 := HD'.out; have h3 := HS2.out
          show _ = _
          rw [h3]
          split <;> omega
      case measure => simp [intOf]; omega

set_option maxHeartbeats 1000000 in
theorem great_any (t : Tree) (x : PC) (w : World) (hok : okT t) (hx : HT w t x) :
    Calls Tryd.prog 15 #[x.v] w fun e w' => e = .returned (.bool (decide (3000 < size t))) ∧ Gr w w' := by
  have kin := fun W h => rsize_any _ t x W (Nat.le_refl _) hok h
  have HX : Hid (HT w t x) := hx
  obtain ⟨xk, ⟨x1, x2, x3⟩, x4, x5, x6⟩ := x
  clear hx
  obtain ⟨q, hq⟩ : ∃ q, q = decide (3000 < size t) := ⟨_, rfl⟩
  have HQ : Hid (q = decide (3000 < size t)) := hq
  rw [← hq]
  clear hq
  go_enter Tryd.func15, Tryd.ntmps15
  go_wp2_with (go_at_call 25; refine (kin _ (HX.out.gr ((Gr.refl _).alloc _))).mono ?_; rintro _ w2 ⟨⟨p', d', rfl, hp', _⟩, gw⟩; have G2 : Hid (Gr w w2) := ((Gr.refl _).alloc _).trans gw; clear gw; have HP : Hid (p' = min (size t : Int) 1000000) := hp'; clear hp')
  all_goals
    go_ret
    refine ⟨?_, G2.out⟩
    have e : q = decide (3000 < p') := by
      rw [HQ.out]
      have h1 := HP.out
      apply Bool.eq_iff_iff.2
      simp
      omega
    rw [e]
    rfl

theorem rightAlone_any (x : PC) (w : World) :
    Calls Tryd.prog 64 #[x.v] w fun e w' => e = .returned (.bool (okAlone x.k x.s.n x.b.n)) ∧ Gr w w' := by
  obtain ⟨k, ⟨x1, S, x3⟩, x4, N, x6⟩ := x
  simp only
  by_cases h1 : k = 1
  · subst h1
    by_cases hN : N = 0
    · subst hN
      go_enter Tryd.func64, Tryd.ntmps64
      go_wp2_with fail
      all_goals
        go_ret
        refine ⟨?_, (Gr.refl _).alloc _⟩
        first | (simp [okAlone]; done) | (simp [okAlone]; omega) | (simp [okAlone]; exact beq0 _) | (simp [okAlone]; exact beq1 _)
    · have hN' : ¬ (N : Int) = 0 := by omega
      go_enter Tryd.func64, Tryd.ntmps64
      go_wp2_with fail
      all_goals
        go_ret
        refine ⟨?_, (Gr.refl _).alloc _⟩
        simp [okAlone, hN]
  by_cases h2 : k = 2
  · subst h2
    go_enter Tryd.func64, Tryd.ntmps64
    go_wp2_with fail
    all_goals
      go_ret
      refine ⟨?_, (Gr.refl _).alloc _⟩
      first | (simp [okAlone]; done) | (simp [okAlone]; omega) | (simp [okAlone]; exact beq0 _) | (simp [okAlone]; exact beq1 _)
  by_cases h3 : k = 3
  · subst h3
    go_enter Tryd.func64, Tryd.ntmps64
    go_wp2_with fail
    all_goals
      go_ret
      refine ⟨?_, (Gr.refl _).alloc _⟩
      first | (simp [okAlone]; done) | (simp [okAlone]; omega) | (simp [okAlone]; exact beq0 _) | (simp [okAlone]; exact beq1 _)
  by_cases h4 : k = 4
  · subst h4
    by_cases hS : S = 0
    · subst hS
      go_enter Tryd.func64, Tryd.ntmps64
      go_wp2_with fail
      all_goals
        go_ret
        refine ⟨?_, (Gr.refl _).alloc _⟩
        first | (simp [okAlone]; done) | (simp [okAlone]; omega) | (simp [okAlone]; exact beq0 _) | (simp [okAlone]; exact beq1 _)
    · have hS' : ¬ (S : Int) = 0 := by omega
      go_enter Tryd.func64, Tryd.ntmps64
      go_wp2_with fail
      all_goals
        go_ret
        refine ⟨?_, (Gr.refl _).alloc _⟩
        simp [okAlone, hS]
  go_enter Tryd.func64, Tryd.ntmps64
  go_wp2_with fail
  all_goals
    go_ret
    refine ⟨?_, (Gr.refl _).alloc _⟩
    simp [okAlone, h1, h2, h3, h4]

end Go.Proofs.YtjjlkjfhhpogaaaDoor

namespace Go.Proofs.YtjjlkjfhhpogaaaDoor
open Go.RowKit

set_option maxHeartbeats 2000000 in
theorem room_any (m : Nat) : ∀ (t : Tree) (x : PC) (d left : Int) (w : World), size t ≤ m → okT t → HT w t x → 0 ≤ left → left ≤ 200 → 1 ≤ d → d ≤ 41 →
    Calls Tryd.prog 40 #[x.v, .int .i64 d, .int .i64 left] w fun e w' => e = .returned (.int .i64 (roomT t d left)) ∧ Gr w w' := by
  induction m with
  | zero => intro t x d left w h; have := size_pos t; omega
  | succ m ih =>
    intro t x d left w hm hok hx hl0 hl1 hd0 hd1
    obtain ⟨k, set, subs, rows, sa, sc, ba, bc, rfl, rfl, hs, hb, hrows⟩ := hx.parts
    obtain ⟨_, hlen, hokL⟩ := (okT_mk _ _ _).1 hok
    rw [size_mk] at hm
    have HM : Hid (sizeL subs ≤ m) := by show _ ≤ _; omega
    have HOK : Hid (okL subs) := hokL
    have HB : Hid (RowT w (.slice ba subs.length bc) rows) := hb
    have HR : Hid (HTs w subs rows) := hrows
    have HRM : Hid (roomT (.mk k set subs) d left = if left = 0 ∨ 40 < d ∨ okAlone k set.length subs.length = false then -1 else roomL subs (d + 1) (left - 1)) := roomT_mk _ _ _ _ _
    obtain ⟨R, hR⟩ : ∃ R, R = roomT (.mk k set subs) d left := ⟨_, rfl⟩
    rw [← hR] at HRM ⊢
    obtain ⟨S, hS⟩ : ∃ S, S = set.length := ⟨_, rfl⟩
    obtain ⟨N, hN⟩ : ∃ N, N = subs.length := ⟨_, rfl⟩
    have HN : Hid (N = subs.length) := hN
    rw [← hN] at hlen HB HRM ⊢
    rw [← hS] at HRM ⊢
    have k1 := fun W => rightAlone_any ⟨k, ⟨sa, S, sc⟩, ⟨ba, N, bc⟩⟩ W
    simp only at k1
    clear hb hrows hs hx hok hokL hm hN hS hR
    by_cases c1 : left = 0
    · subst c1
      clear k1
      go_enter Tryd.func40, Tryd.ntmps40
      go_wp2_with fail
      go_ret
      refine ⟨?_, (Gr.refl _).alloc _⟩
      rw [show R = -1 by have h := HRM.out; simpa using h]
      rfl
    have c1' : (left == 0) = false := by simpa using c1
    by_cases c2 : 40 < d
    · clear k1
      go_enter Tryd.func40, Tryd.ntmps40
      go_wp2_with fail
      go_ret
      refine ⟨?_, (Gr.refl _).alloc _⟩
      rw [HRM.out, if_pos (Or.inr (Or.inl c2))]
      rfl
    obtain ⟨q, hq⟩ : ∃ q, q = okAlone k S N := ⟨_, rfl⟩
    rw [← hq] at HRM
    simp only [← hq] at k1
    clear hq
    have HBx : Hid (Blk (w.alloc (.cells #[.int .i64 k, .slice sa S sc, .slice ba N bc] 25)) w.heap.size #[.int .i64 k, .slice sa S sc, .slice ba N bc] 25) := Blk.new _ _ _
    cases q with
    | false =>
      go_enter Tryd.func40, Tryd.ntmps40
      go_wp2_with (go_at_call 64; refine (k1 _).mono ?_; rintro _ w2 ⟨rfl, gw⟩; have G2 : Hid (Gr w w2) := ((Gr.refl _).alloc _).trans gw; clear gw)
      go_ret
      refine ⟨?_, G2.out⟩
      rw [HRM.out, if_pos (by simp)]
      rfl
    | true =>
      have HRM2 : Hid (R = roomL subs (d + 1) (left - 1)) := by
        show _ = _
        rw [HRM.out, if_neg]
        rintro (h | h | h)
        · exact c1 h
        · exact c2 h
        · cases h
      clear HRM
      go_enter Tryd.func40, Tryd.ntmps40
      go_wp2_with (go_at_call 64; refine (k1 _).mono ?_; rintro _ w2 ⟨rfl, gw⟩; have G2 : Hid (Gr w w2) := ((Gr.refl _).alloc _).trans gw; obtain ⟨e0, e1, e2⟩ : w2.cell? ⟨w.heap.size, 0, none⟩ = some (.int .i64 k) ∧ w2.cell? ⟨w.heap.size, 1, none⟩ = some (.slice sa S sc) ∧ w2.cell? ⟨w.heap.size, 2, none⟩ = some (.slice ba N bc) := ⟨(HBx.out.gr gw).c 0, (HBx.out.gr gw).c 1, (HBx.out.gr gw).c 2⟩; have el := (HBx.out.gr gw).lt; clear gw)
      go_loopw [2, 25] (fun vl vi wr => ∃ (j : Nat) (r : Int), j ≤ N ∧ vi = .int .i64 j ∧ vl = .int .i64 r ∧ 0 ≤ r ∧ r ≤ 200 ∧ Hid (R = roomL (subs.drop j) (d + 1) r) ∧ Hid (Gr w wr)) (fun _ vi _ => N - (intOf vi).toNat)
      case atStart => exact ⟨0, left - 1, Nat.zero_le _, rfl, rfl, by omega, by omega, by rw [List.drop_zero]; exact HRM2, G2.out⟩
      case round =>
        obtain ⟨j, r, hj, rfl, rfl, hr0, hr1, HRJ, HG⟩ := hrel
        clear e0 e1 e2 el
        by_cases hlt : j < N
        case neg =>
          have e : R = r := by
            rw [HRJ.out, List.drop_eq_nil_of_le (by have := HN.out; omega), roomL_nil _ _ hr0]
          go_wp2_with fail
          go_ret
          exact ⟨by rw [e]; rfl, HG.out⟩
        obtain ⟨t, ht⟩ : ∃ t, subs[j]? = some t := ⟨_, List.getElem?_eq_getElem (by have := HN.out; omega)⟩
        obtain ⟨rr, hr, hrt⟩ := HR.out.at ht
        have HRT : Hid (HT w t rr) := hrt
        obtain ⟨b, off, rfl, hb, d0, d1, d2⟩ := (HB.out.gr HG.out).cs3 hr
        have kin := fun W h => ih t rr (d + 1) r W (by have := size_le_of_at ht; have := HM.out; omega) (HOK.out.at ht) h hr0 hr1 (by omega) (by omega)
        have HC : Hid (R = if roomT t (d + 1) r < 0 then -1 else roomL (subs.drop (j + 1)) (d + 1) (roomT t (d + 1) r)) := by
          show _ = _
          rw [HRJ.out, drop_of ht, roomL_cons]
        obtain ⟨q, hq⟩ : ∃ q, q = roomT t (d + 1) r := ⟨_, rfl⟩
        have hq2 : q ≤ 200 := by
          rw [hq]; unfold roomT
          split <;> omega
        rw [← hq] at HC
        simp only [← hq] at kin
        clear ih hr hrt ht hq HRJ
        obtain ⟨rk, ⟨r1, r2, r3⟩, r4, r5, r6⟩ := rr
        simp only at d0 d1 d2
        by_cases c3 : q < 0
        case pos =>
          have HC2 : Hid (R = -1) := by show _ = _; rw [HC.out, if_pos c3]
          clear HC
          go_wp2_with (go_at_call 40; refine (kin _ (HRT.out.gr (HG.out.alloc _))).mono ?_; rintro _ w3 ⟨rfl, gw⟩; have G3 : Hid (Gr w w3) := (HG.out.alloc _).trans gw; clear gw)
          go_ret
          exact ⟨by rw [HC2.out]; rfl, G3.out⟩
        case neg =>
          have HC2 : Hid (R = roomL (subs.drop (j + 1)) (d + 1) q) := by show _ = _; rw [HC.out, if_neg c3]
          clear HC
          go_wp2_with (go_at_call 40; refine (kin _ (HRT.out.gr (HG.out.alloc _))).mono ?_; rintro _ w3 ⟨rfl, gw⟩; have G3 : Hid (Gr w w3) := (HG.out.alloc _).trans gw; clear gw)
          go_roundw
          case rel => exact ⟨j + 1, q, by omega, by go_num, rfl, by omega, hq2, HC2, G3.out⟩
          case measure => simp [intOf]; omega

set_option maxHeartbeats 1000000 in
theorem right_any (t : Tree) (x : PC) (w : World) (hok : okT t) (hx : HT w t x) :
    Calls Tryd.prog 17 #[x.v] w fun e w' => e = .returned (.bool (rightT t)) ∧ Gr w w' := by
  have kin := fun W h => room_any _ t x 1 200 W (Nat.le_refl _) hok h (by omega) (by omega) (by omega) (by omega)
  have HX : Hid (HT w t x) := hx
  have HQ : Hid (decide (0 ≤ roomT t 1 200) = rightT t) := roomT_right t
  generalize rightT t = q at *
  generalize roomT t 1 200 = r at *
  obtain ⟨xk, ⟨x1, x2, x3⟩, x4, x5, x6⟩ := x
  clear hx
  go_enter Tryd.func17, Tryd.ntmps17
  go_wp2_with (go_at_call 40; refine (kin _ (HX.out.gr ((Gr.refl _).alloc _))).mono ?_; rintro _ w2 ⟨rfl, gw⟩; have G2 : Hid (Gr w w2) := ((Gr.refl _).alloc _).trans gw; clear gw)
  all_goals
    go_ret
    refine ⟨?_, G2.out⟩
    rw [← HQ.out]
    rfl

end Go.Proofs.YtjjlkjfhhpogaaaDoor
