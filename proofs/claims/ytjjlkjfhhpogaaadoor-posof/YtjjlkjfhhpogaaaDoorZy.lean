/-
  The document's positions as they are put together: rows of yes and no; the walks of its join, list and ones.
  The document's positions in memory, as they are put together; the walk of its behind.
-/
import Derived.Test.YtjjlkjfhhpogaaaDoorXj
import Derived.Test.YtjjlkjfhhpogaaaDoorRt
namespace Go.Proofs.YtjjlkjfhhpogaaaDoor
open Go.RowKit

theorem on_setq {bs : List Bool} {i : Nat} (hi : i < bs.length) (q : Bool) (j : Nat) : On (bs.set i q) j ↔ (j ≠ i ∧ On bs j) ∨ (j = i ∧ q = true) := by
  unfold On
  by_cases e : i = j
  · subst e
    simp [hi]
  · rw [List.getElem?_set_ne e]
    constructor
    · intro h; exact Or.inl ⟨fun h => e h.symm, h⟩
    · rintro (⟨_, h⟩ | ⟨h, _⟩)
      · exact h
      · exact absurd h.symm e

/-- What join comes to. -/
def PostJ (N : Nat) (a b : List Bool) (w : World) (e : Ending) (w' : World) : Prop :=
  ∃ (ob : Nat) (os : List Bool), e = .returned (.slice (some ⟨ob, 0, none⟩) N N) ∧ w.heap.size ≤ ob ∧ Blk w' ob (brow os) 4 ∧ os.length = N ∧ (∀ j, On os j ↔ On a j ∨ On b j) ∧ Gr w w'

set_option maxRecDepth 100000 in
set_option maxHeartbeats 4000000 in
theorem join8_any (N : Nat) (hN : N ≤ 200) (ga gb : Nat) (a b : List Bool) (w : World) (ha : Blk w ga (brow a) 4) (hb : Blk w gb (brow b) 4) (la : a.length = N) (lb : b.length = N) :
    Calls Tryd.prog 81 #[.slice (some ⟨ga, 0, none⟩) N N, .slice (some ⟨gb, 0, none⟩) N N] w (PostJ N a b w) := by
  have HA : Hid (Blk w ga (brow a) 4) := ha
  have HB : Hid (Blk w gb (brow b) 4) := hb
  have LA : Hid (a.length = N) := la
  have LB : Hid (b.length = N) := lb
  have mk : ∀ W : World, (Instr.makeSlice 96 (.int .i64 N) (.int .i64 N)).run Tryd.prog W = .ok (.slice (some ⟨W.heap.size, 0, none⟩) N N) (W.alloc (.cells (brow (List.replicate N false)) 4)) := fun W => make4 N (by omega) W
  clear ha hb la lb
  go_enter Tryd.func81, Tryd.ntmps81
  go_upto_region 2 with fail
  generalize hW : World.alloc _ _ = W2
  have G2 : Hid (Gr w W2) := by rw [← hW]; exact (Gr.refl _).alloc _
  have O2 : Hid (Blk W2 w.heap.size (brow (List.replicate N false)) 4) := by rw [← hW]; exact Blk.new _ _ _
  clear hW mk
  go_wp2_with fail
  go_loopw [12] (fun vi wr => ∃ (k : Nat) (os : List Bool), k ≤ N ∧ vi = .int .i64 k ∧ Hid (Gr w wr) ∧ Hid (Blk wr w.heap.size (brow os) 4) ∧ Hid (os.length = N ∧ ∀ j, On os j ↔ j < k ∧ (On a j ∨ On b j))) (fun vi _ => N - (intOf vi).toNat)
  case atStart => exact ⟨0, _, Nat.zero_le _, rfl, G2, O2, by simp, fun j => ⟨fun h => absurd h (on_false _ _), fun h => by omega⟩⟩
  case round =>
    clear G2 O2
    obtain ⟨k, os, hk, rfl, HG, HO, HS⟩ := hrel
    by_cases hlt : k < N
    case neg =>
      have hle : ¬ (k : Int) < N := by omega
      go_wp2_with fail
      go_ret
      refine ⟨_, os, rfl, Nat.le_refl _, HO.out, HS.out.1, fun j => ?_, HG.out⟩
      rw [HS.out.2 j]
      refine ⟨fun h => h.2, fun h => ⟨?_, h⟩⟩
      rcases h with h | h
      · have := on_lt h; have := LA.out; omega
      · have := on_lt h; have := LB.out; omega
    case pos =>
      obtain ⟨qa, hqa⟩ : ∃ q, a[k]? = some q := ⟨_, List.getElem?_eq_getElem (by have := LA.out; omega)⟩
      obtain ⟨qb, hqb⟩ : ∃ q, b[k]? = some q := ⟨_, List.getElem?_eq_getElem (by have := LB.out; omega)⟩
      obtain ⟨z, hz⟩ : ∃ z, os[k]? = some z := ⟨_, List.getElem?_eq_getElem (by have := HS.out.1; omega)⟩
      have a0 := brow_at (HA.out.bel HG.out.below) hqa
      have b0 := brow_at (HB.out.bel HG.out.below) hqb
      have o0 := brow_at HO.out hz
      have of := HO.out.frozen
      have HZ : Hid (∀ q, q = (qa || qb) → (os.set k q).length = N ∧ ∀ j, On (os.set k q) j ↔ j < k + 1 ∧ (On a j ∨ On b j)) := by
        rintro q rfl
        refine ⟨by rw [List.length_set]; exact HS.out.1, fun j => ?_⟩
        rw [on_setq (by have := HS.out.1; omega), HS.out.2 j]
        constructor
        · rintro (⟨_, h1, h2⟩ | ⟨rfl, h⟩)
          · exact ⟨by omega, h2⟩
          · refine ⟨by omega, ?_⟩
            simp only [Bool.or_eq_true] at h
            rcases h with h | h
            · exact Or.inl (by unfold On; rw [hqa, h])
            · exact Or.inr (by unfold On; rw [hqb, h])
        · rintro ⟨h1, h2⟩
          by_cases e : j = k
          · subst e
            refine Or.inr ⟨rfl, ?_⟩
            unfold On at h2
            rw [hqa, hqb] at h2
            simpa using h2
          · exact Or.inl ⟨e, by omega, h2⟩
      have hlt2 : (k : Int) < N := by omega
      clear hqa hqb hz
      cases qa
      all_goals
        go_wp2_with fail
        go_roundw
        case rel => exact ⟨k + 1, os.set k _, by omega, by go_num, HG.out.setCell (p := ⟨w.heap.size, k, none⟩) (Nat.le_refl _) _, brow_set HO.out (i := k) (by have := HS.out.1; omega) _, HZ.out _ (by simp)⟩
        case measure => simp [intOf]; omega

/-- What list comes to. -/
def PostI (bs : List Bool) (w : World) (e : Ending) (w' : World) : Prop :=
  ∃ (u : Sl) (L : List Nat), e = .returned (.slice u.a u.n u.c) ∧ ListOf (On bs) L ∧ OwnI w.heap.size w' (.slice u.a u.n u.c) L ∧ Below w.heap.size w w'

set_option maxRecDepth 100000 in
set_option maxHeartbeats 4000000 in
/-- The positions for which yes is said. -/
theorem list8_any (N : Nat) (hN : N ≤ 200) (g : Nat) (bs : List Bool) (w : World) (hb : Blk w g (brow bs) 4) (hl : bs.length = N) :
    Calls Tryd.prog 57 #[.slice (some ⟨g, 0, none⟩) N N] w (PostI bs w) := by
  have HB : Hid (Blk w g (brow bs) 4) := hb
  have HL : Hid (bs.length = N) := hl
  clear hb hl
  go_enter Tryd.func57, Tryd.ntmps57
  go_wp2_with fail
  go_loopw [3, 8] (fun vo vi wr => ∃ (k : Nat) (L : List Nat), k ≤ N ∧ vi = .int .i64 k ∧ Hid (OwnI w.heap.size wr vo L) ∧ Hid (Rises L ∧ ∀ j, j ∈ L ↔ j < k ∧ On bs j) ∧ Hid (Below w.heap.size w wr)) (fun _ vi _ => N - (intOf vi).toNat)
  case atStart => exact ⟨0, [], Nat.zero_le _, rfl, OwnX.nil _ _ _ _ _, ⟨List.Pairwise.nil, fun j => ⟨fun h => by simp at h, fun h => by omega⟩⟩, Below.refl _ _⟩
  case round =>
    obtain ⟨k, L, hk, rfl, HO, HM, HG⟩ := hrel
    by_cases hlt : k < N
    case neg =>
      have hle : ¬ (k : Int) < N := by omega
      obtain ⟨ao, cap, hv⟩ := HO.out.form
      subst hv
      go_wp2_with fail
      go_ret
      refine ⟨⟨ao, L.length, cap⟩, L, rfl, ⟨HM.out.1, fun j => ?_⟩, HO.out, HG.out⟩
      rw [HM.out.2 j]
      exact ⟨fun h => h.2, fun h => ⟨by have := on_lt h; have := HL.out; omega, h⟩⟩
    case pos =>
      obtain ⟨q, hq⟩ : ∃ q, bs[k]? = some q := ⟨_, List.getElem?_eq_getElem (by have := HL.out; omega)⟩
      have a0 := brow_at (HB.out.bel HG.out) hq
      have hlt2 : (k : Int) < N := by omega
      have HLen : Hid (L.length ≤ 200) := by
        have := rises_len HM.out.1 (N := N) (fun x hx => by have := ((HM.out.2 x).1 hx).1; omega)
        show _ ≤ _
        omega
      cases q
      · have HM2 : Hid (Rises L ∧ ∀ j, j ∈ L ↔ j < k + 1 ∧ On bs j) := by
          refine ⟨HM.out.1, fun j => ?_⟩
          rw [HM.out.2 j]
          constructor
          · exact fun h => ⟨by omega, h.2⟩
          · rintro ⟨h1, h2⟩
            refine ⟨?_, h2⟩
            by_cases e : j = k
            · subst e; exact absurd h2 (off_of hq)
            · omega
        clear hq HM
        go_wp2_with fail
        go_roundw
        case rel => exact ⟨k + 1, L, by omega, by go_num, HO, HM2, HG⟩
        case measure => simp [intOf]; omega
      · have HM2 : Hid (Rises (L ++ [k]) ∧ ∀ j, j ∈ L ++ [k] ↔ j < k + 1 ∧ On bs j) := by
          refine ⟨?_, fun j => ?_⟩
          · unfold Rises
            rw [List.pairwise_append]
            refine ⟨HM.out.1, by simp, fun x hx y hy => ?_⟩
            have := ((HM.out.2 x).1 hx).1
            simp at hy
            omega
          · rw [List.mem_append, HM.out.2 j]
            simp only [List.mem_singleton]
            constructor
            · rintro (h | rfl)
              · exact ⟨by omega, h.2⟩
              · exact ⟨by omega, hq⟩
            · rintro ⟨h1, h2⟩
              by_cases e : j = k
              · exact Or.inr e
              · exact Or.inl ⟨by omega, h2⟩
        clear hq HM
        go_wp2_with (refine wp_appX info3 Tryd.underlying50 encI_len oneI rfl (by decide) (by decide) (by rfl) _ _ (by rfl) w.heap.size _ L (by rfl) (HO.out.alloc _) k wr.heap.size (by rfl) _ (Blk.new _ _ _) (by rfl) (by have := HLen.out; omega) (by have := HG.out.size; simp; omega) ?_; intro g5 cap5 w5 ow5 gr5 hg5 hlt5; have O5 : Hid (OwnI w.heap.size w5 (.slice (some ⟨g5, 0, none⟩) (L.length + 1) cap5) (L ++ [k])) := ow5; have G5 : Hid (Below w.heap.size w w5) := (HG.out.alloc HG.out.size _).grown gr5 (by have := HG.out.size; simp; omega) (fun b hb => by have := ((HO.out.alloc (.cells #[.int .i64 k] 3)).lt hb).1; exact this); clear ow5 gr5 hg5 hlt5)
        go_roundw
        case rel => exact ⟨k + 1, _, by omega, by go_num, O5, HM2, G5⟩
        case measure => simp [intOf]; omega

set_option maxHeartbeats 4000000 in
/-- How many Ones. -/
theorem ones8_any : ∀ (m : Nat) (t : Tree) (x : PC) (w : World), size t ≤ m → m ≤ 200 → HT w t x →
    Calls Tryd.prog 55 #[x.v] w fun e w' => e = .returned (.int .i64 (ones t)) ∧ Gr w w'
  | 0, t, _, _, h, _, _ => by have := size_pos t; omega
  | m + 1, t, x, w, hm, hm2, hx => by
    obtain ⟨k, set, subs, xs, sa, sc, ba, bc, rfl, rfl, hS, hR, hs⟩ := hx.parts
    rw [size_mk] at hm
    have hlen : subs.length ≤ 200 := by have := length_le_sizeL subs; omega
    have HR : Hid (RowT w (.slice ba subs.length bc) xs) := hR
    have HS : Hid (HTs w subs xs) := hs
    have HSZ : Hid (sizeL subs ≤ m) := by show _ ≤ _; omega
    obtain ⟨N, hN⟩ : ∃ N, N = subs.length := ⟨_, rfl⟩
    obtain ⟨S, hS'⟩ : ∃ S, S = set.length := ⟨_, rfl⟩
    have HN : Hid (N = subs.length) := hN
    rw [← hN] at HR hlen
    by_cases h1 : k = 1
    · subst h1
      have e1 : ones (.mk 1 set subs) = 1 := by rw [ones_mk, if_pos rfl]
      rw [e1, ← hN, ← hS']
      clear hx hS hR hs hS' hN
      go_enter Tryd.func55, Tryd.ntmps55
      go_wp2_with fail
      go_ret
      exact ⟨rfl, (Gr.refl _).alloc _⟩
    · have e1 : ones (.mk k set subs) = onesL subs := by rw [ones_mk, if_neg h1]
      have hk1 : (k == (1 : Int)) = false := by simpa using h1
      rw [e1, ← hN, ← hS']
      have kin := fun t x W h1 h2 => ones8_any m t x W h1 (by omega) h2
      clear hx hS hR hs hS' hN
      obtain ⟨T, hT⟩ : ∃ T, T = onesL subs := ⟨_, rfl⟩
      have HT' : Hid (T = onesL subs) := hT
      rw [← hT]
      clear hT
      go_enter Tryd.func55, Tryd.ntmps55
      go_wp2_with fail
      have G0 : Hid (Gr w (w.alloc (.cells #[.int .i64 k, .slice sa S sc, .slice ba N bc] 25))) := (Gr.refl _).alloc _
      go_loopw [3, 12] (fun vo vi wr => ∃ (i : Nat), i ≤ N ∧ vi = .int .i64 i ∧ vo = .int .i64 (onesL (subs.take i)) ∧ Hid (Gr w wr)) (fun _ vi _ => N - (intOf vi).toNat)
      case atStart => exact ⟨0, Nat.zero_le _, rfl, by simp [onesL_nil], G0⟩
      case round =>
        clear G0
        obtain ⟨i, hi, rfl, rfl, HG⟩ := hrel
        by_cases hlt : i < N
        case neg =>
          have hle : ¬ (i : Int) < N := by omega
          have he : subs.take i = subs := List.take_of_length_le (by have := HN.out; omega)
          rw [he, ← HT'.out]
          go_wp2_with fail
          go_ret
          exact ⟨rfl, HG.out⟩
        case pos =>
          obtain ⟨s, hs⟩ : ∃ s, subs[i]? = some s := ⟨_, List.getElem?_eq_getElem (by have := HN.out; omega)⟩
          obtain ⟨y, hy, hT⟩ := HS.out.at hs
          obtain ⟨b9, off, rfl, hb9, c0, c1, c2⟩ := HR.out.cs3 hy
          have r0 := (HG.out.below.cell (by exact hb9)).trans c0
          have r1 := (HG.out.below.cell (by exact hb9)).trans c1
          have r2 := (HG.out.below.cell (by exact hb9)).trans c2
          have hlt2 : (i : Int) < N := by omega
          have et : onesL (subs.take (i + 1)) = onesL (subs.take i) + ones s := by rw [take_succ_of hs, onesL_append, onesL_cons, onesL_nil, Nat.add_zero]
          have hb1 := onesL_le_sizeL (subs.take (i + 1))
          have hb2 : sizeL (subs.take (i + 1)) ≤ m := by
            have h1 := sizeL_append (subs.take (i + 1)) (subs.drop (i + 1))
            rw [List.take_append_drop] at h1
            have := HSZ.out
            omega
          obtain ⟨yk, ⟨y1, y2, y3⟩, y4, y5, y6⟩ := y
          simp only at r0 r1 r2
          have kc := fun W h => kin s ⟨yk, ⟨y1, y2, y3⟩, ⟨y4, y5, y6⟩⟩ W (Nat.le_trans (size_le_of_at hs) HSZ.out) h
          have HTy : Hid (HT w s ⟨yk, ⟨y1, y2, y3⟩, ⟨y4, y5, y6⟩⟩) := hT
          have HET : Hid (onesL (subs.take (i + 1)) = onesL (subs.take i) + ones s) := et
          rw [et] at hb1
          generalize onesL (subs.take i) = A at hb1 HET ⊢
          generalize ones s = C at kc hb1 HET ⊢
          have hb3 : A + C ≤ 200 := by omega
          clear c0 c1 c2 hs hy hT et hb1 hb2 hb9
          go_wp2_with (go_at_call 55; refine (kc _ (HTy.out.gr (HG.out.alloc _))).mono ?_; rintro _ w3 ⟨rfl, gw⟩; have G3 : Hid (Gr w w3) := (HG.out.alloc _).trans gw; clear gw)
          go_roundw
          case rel => exact ⟨i + 1, by omega, by go_num, by rw [HET.out]; go_num, G3⟩
          case measure => simp [intOf]; omega

end Go.Proofs.YtjjlkjfhhpogaaaDoor

namespace Go.Proofs.YtjjlkjfhhpogaaaDoor
open Go.RowKit

/-- A row of yes and no in a slice of its own. -/
def slB (g N : Nat) : Sl := ⟨some ⟨g, 0, none⟩, N, N⟩

/-- The positions so far, as the document has them: block b holds what is put together; ss, rs are the slices of its two rows; sets, fs what they hold. -/
structure RS (w : World) (b B N : Nat) (sv fv : Sl) (ss rs : List Sl) (sets : List (List (Int × Int))) (fs : List (List Bool)) : Prop where
  blk : Blk w b #[.int .i64 N, .slice sv.a sv.n sv.c, .slice fv.a fv.n fv.c] 95
  bb : B ≤ b
  so : OwnX encSl 1 22 B w (.slice sv.a sv.n sv.c) ss
  fo : OwnX encSl 1 96 B w (.slice fv.a fv.n fv.c) rs
  sl : ss.length = sets.length
  rl : rs.length = N
  fl : fs.length = N
  se : ∀ (i : Nat) s m, ss[i]? = some s → sets[i]? = some m → OwnX encS 2 78 B w (Sl.v s) m
  re : ∀ (i : Nat) r f, rs[i]? = some r → fs[i]? = some f → ∃ g, r = slB g N ∧ Blk w g (brow f) 4 ∧ f.length = N

section
variable {w w' : World} {b B N : Nat} {sv fv : Sl} {ss rs : List Sl} {sets : List (List (Int × Int))} {fs : List (List Bool)}

theorem RS.notMv (h : RS w b B N sv fv ss rs sets fs) {p : Nat} {cs : Array Value} {t : TypeId} (hp : Blk w p cs t) (h1 : t ≠ 95) (h2 : t ≠ 22) (h3 : t ≠ 96) : ¬ Mv b sv fv p := by
  rintro (rfl | e | e)
  · exact h1 (hp.same h.blk).2
  · obtain ⟨cs', hc⟩ := h.so.blk e
    exact h2 (hp.same hc).2
  · obtain ⟨cs', hc⟩ := h.fo.blk e
    exact h3 (hp.same hc).2

/-- It stays where only other blocks turn. -/
theorem RS.fx {M : Nat → Prop} (h : RS w b B N sv fv ss rs sets fs) (k : Fx M w w')
    (hM : ∀ g, M g → g < w.heap.size → ∀ cs t, Blk w g cs t → t ≠ 95 ∧ t ≠ 22 ∧ t ≠ 96 ∧ t ≠ 78 ∧ t ≠ 4) : RS w' b B N sv fv ss rs sets fs := by
  refine ⟨(k.block b h.blk.lt fun e => (hM b e h.blk.lt _ _ h.blk).1 rfl).trans h.blk, h.bb, h.so.fx k fun g hg e => ?_, h.fo.fx k fun g hg e => ?_, h.sl, h.rl, h.fl, fun i s m hs hm => (h.se i s m hs hm).fx k fun g hg e => ?_, fun i r f hr hf => ?_⟩
  · obtain ⟨cs, hb⟩ := h.so.blk hg
    exact (hM g e hb.lt _ _ hb).2.1 rfl
  · obtain ⟨cs, hb⟩ := h.fo.blk hg
    exact (hM g e hb.lt _ _ hb).2.2.1 rfl
  · obtain ⟨cs, hb⟩ := (h.se i s m hs hm).blk hg
    exact (hM g e hb.lt _ _ hb).2.2.2.1 rfl
  · obtain ⟨g, e1, e2, e3⟩ := h.re i r f hr hf
    exact ⟨g, e1, (k.block g e2.lt fun e => (hM g e e2.lt _ _ e2).2.2.2.2 rfl).trans e2, e3⟩
theorem RS.bel (h : RS w b B N sv fv ss rs sets fs) (k : Below w.heap.size w w') : RS w' b B N sv fv ss rs sets fs :=
  h.fx (M := fun _ => False) (Fx.bel k) fun _ e => e.elim
theorem RS.mb (h : RS w b B N sv fv ss rs sets fs) : ∀ g, Mv b sv fv g → B ≤ g ∧ g < w.heap.size := by
  rintro g (rfl | e | e)
  · exact ⟨h.bb, h.blk.lt⟩
  · exact h.so.lt e
  · exact h.fo.lt e

/-- A store into a block of another kind. -/
theorem RS.other (h : RS w b B N sv fv ss rs sets fs) {p : Nat} {cs : Array Value} {t : TypeId} (hp : Blk w p cs t) (ht : t ≠ 95 ∧ t ≠ 22 ∧ t ≠ 96 ∧ t ≠ 78 ∧ t ≠ 4) (i : Nat) (v : Value) : RS (w.setCell ⟨p, i, none⟩ v) b B N sv fv ss rs sets fs :=
  h.fx (M := fun g => g = p) ((Fx.refl (fun g => g = p) w).setCell (p := ⟨p, i, none⟩) (fun _ => rfl) v) fun g e _ cs' t' hb => by
    subst e
    have := (hb.same hp).2
    subst this
    exact ht

/-- One set more. -/
theorem RS.addSet (h : RS w b B N sv fv ss rs sets fs) {g cap : Nat} {u : Sl} {m : List (Int × Int)}
    (hm : OwnX encS 2 78 B w (Sl.v u) m) (o5 : OwnX encSl 1 22 B w' (.slice (some ⟨g, 0, none⟩) (ss.length + 1) cap) (ss ++ [u])) (g5 : w.grownBy w' (Sl.v sv).ownBlock) :
    RS (w'.setCell ⟨b, 1, none⟩ (.slice (some ⟨g, 0, none⟩) (ss.length + 1) cap)) b B N ⟨some ⟨g, 0, none⟩, ss.length + 1, cap⟩ fv (ss ++ [u]) rs (sets ++ [m]) fs ∧ Fx (Mv b sv fv) w (w'.setCell ⟨b, 1, none⟩ (.slice (some ⟨g, 0, none⟩) (ss.length + 1) cap)) := by
  have F5 : Fx (fun g => (Sl.v sv).ownBlock = some g) w w' := (Fx.refl _ w).grown g5 fun g e _ => e
  have F6 : Fx (fun g => (Sl.v sv).ownBlock = some g ∨ g = b) w (w'.setCell ⟨b, 1, none⟩ (.slice (some ⟨g, 0, none⟩) (ss.length + 1) cap)) := (F5.mono (N := fun g => (Sl.v sv).ownBlock = some g ∨ g = b) fun g e => Or.inl e).setCell (p := ⟨b, 1, none⟩) (fun _ => Or.inr rfl) _
  have ne : ∀ g' cs t, Blk w g' cs t → t ≠ 22 → t ≠ 95 → ¬ ((Sl.v sv).ownBlock = some g' ∨ g' = b) := fun g' cs t hb h1 h2 e => by
    rcases e with e | rfl
    · obtain ⟨cs', hc⟩ := h.so.blk e
      exact h1 (hc.same hb).2.symm
    · exact h2 (h.blk.same hb).2.symm
  have hb5 : Blk w' b _ 95 := (F5.block b h.blk.lt fun e => by obtain ⟨cs', hc⟩ := h.so.blk e; exact absurd (hc.same h.blk).2 (by decide)).trans h.blk
  refine ⟨⟨?_, h.bb, ?_, ?_, by simp [h.sl], h.rl, h.fl, ?_, ?_⟩, F6.mono fun g e => ?_⟩
  · exact hb5.set 1 _
  · have : (Sl.v ⟨some ⟨g, 0, none⟩, ss.length + 1, cap⟩).ownBlock ≠ some b := fun e => by
      obtain ⟨cs, hc⟩ := o5.blk e
      exact absurd (hc.same hb5).2 (by decide)
    exact o5.setOther this _
  · exact h.fo.fx F6 fun g hg => by
      obtain ⟨cs, hc⟩ := h.fo.blk hg
      exact ne _ _ _ hc (by decide) (by decide)
  · intro i s m' hs hm'
    rcases get_snoc hs with ⟨h1, hs⟩ | ⟨h1, rfl⟩ <;> rcases get_snoc hm' with ⟨h2, hm'⟩ | ⟨h2, rfl⟩
    · exact (h.se i s m' hs hm').fx F6 fun g hg => by
        obtain ⟨cs, hc⟩ := (h.se i s m' hs hm').blk hg
        exact ne _ _ _ hc (by decide) (by decide)
    · have := h.sl; omega
    · have := h.sl; omega
    · exact hm.fx F6 fun g hg => by
        obtain ⟨cs, hc⟩ := hm.blk hg
        exact ne _ _ _ hc (by decide) (by decide)
  · intro i r f hr hf
    obtain ⟨g', e1, e2, e3⟩ := h.re i r f hr hf
    exact ⟨g', e1, (F6.block g' e2.lt (ne _ _ _ e2 (by decide) (by decide))).trans e2, e3⟩
  · rcases e with e | rfl
    · exact Or.inr (Or.inl e)
    · exact Or.inl rfl

/-- One of the rows put anew. -/
theorem RS.put (h : RS w b B N sv fv ss rs sets fs) (g5 : Below w.heap.size w w') {a gf ob : Nat} {os : List Bool} (ha : a < N) (hg : fv.a = some ⟨gf, 0, none⟩) (hb : Blk w' ob (brow os) 4) (hl : os.length = N) :
    RS (w'.setCell ⟨gf, a, none⟩ (.slice (some ⟨ob, 0, none⟩) N N)) b B N sv fv ss (rs.set a (slB ob N)) sets (fs.set a os) ∧ Fx (Mv b sv fv) w (w'.setCell ⟨gf, a, none⟩ (.slice (some ⟨ob, 0, none⟩) N N)) := by
  have h1 := h.bel g5
  have hgf : (Value.slice fv.a fv.n fv.c).ownBlock = some gf := by rw [hg]; rfl
  obtain ⟨cf, hbf⟩ := h1.fo.blk hgf
  have F6 : Fx (fun g => g = gf) w' (w'.setCell ⟨gf, a, none⟩ (.slice (some ⟨ob, 0, none⟩) N N)) := (Fx.refl (fun g => g = gf) w').setCell (p := ⟨gf, a, none⟩) (fun _ => rfl) _
  have nef : ∀ g cs t, Blk w' g cs t → t ≠ 96 → ¬ g = gf := fun g cs t hb ht e => by
    subst e
    exact ht (hbf.same hb).2.symm
  refine ⟨⟨(F6.block b h1.blk.lt (nef _ _ _ h1.blk (by decide))).trans h1.blk, h1.bb, ?_, ?_, h1.sl, by rw [List.length_set]; exact h1.rl, by rw [List.length_set]; exact h1.fl, ?_, ?_⟩, (Fx.bel (M := Mv b sv fv) g5).trans F6 fun g _ e => ?_⟩
  · exact h1.so.fx F6 fun g hg => by
      obtain ⟨cs, hc⟩ := h1.so.blk hg
      exact nef _ _ _ hc (by decide)
  · have hn : fv.n = rs.length := by
      obtain ⟨_, _, e⟩ := h1.fo.form
      injection e
    have o2 : w'.ownsRow B 96 1 (.slice (some ⟨gf, 0, none⟩) rs.length fv.c) rs.length (cellsOf encSl rs) := by
      have := h1.fo
      unfold OwnX at this
      rw [hg, hn] at this
      exact this
    have o3 := owns_set o2 a (.slice (slB ob N).a (slB ob N).n (slB ob N).c)
    rw [cellsOf_set1] at o3
    unfold OwnX
    rw [hg, hn, List.length_set]
    exact o3
  · exact fun i s m hs hm => (h1.se i s m hs hm).fx F6 fun g hg => by
      obtain ⟨cs, hc⟩ := (h1.se i s m hs hm).blk hg
      exact nef _ _ _ hc (by decide)
  · intro i x y hx hy
    rcases set_get hx with ⟨rfl, rfl⟩ | ⟨hi, hx⟩
    · rcases set_get hy with ⟨_, rfl⟩ | ⟨hi, _⟩
      · exact ⟨ob, rfl, (F6.block ob hb.lt (nef _ _ _ hb (by decide))).trans hb, hl⟩
      · exact absurd rfl hi
    · rcases set_get hy with ⟨hi', _⟩ | ⟨_, hy⟩
      · exact absurd hi' hi
      · obtain ⟨g', e1, e2, e3⟩ := h1.re i x y hx hy
        exact ⟨g', e1, (F6.block g' e2.lt (nef _ _ _ e2 (by decide))).trans e2, e3⟩
  · subst e
    exact Or.inr (Or.inr hgf)
end

/-- The second position is on in the row of the first. -/
def OnF (fs : List (List Bool)) (i j : Nat) : Prop := ∃ f, fs[i]? = some f ∧ On f j
theorem onF_set {fs : List (List Bool)} {a : Nat} {os : List Bool} (h : a < fs.length) (i j : Nat) : OnF (fs.set a os) i j ↔ (i ≠ a ∧ OnF fs i j) ∨ (i = a ∧ On os j) := by
  unfold OnF
  by_cases e : a = i
  · subst e
    simp [h]
  · rw [List.getElem?_set_ne e]
    constructor
    · intro h; exact Or.inl ⟨fun h => e h.symm, h⟩
    · rintro (⟨_, h⟩ | ⟨h, _⟩)
      · exact h
      · exact absurd h.symm e

/-- Between two rounds of behind. -/
structure BI (w : World) (b B N : Nat) (sv fv : Sl) (ss rs : List Sl) (sets : List (List (Int × Int))) (fs : List (List Bool)) (A C : List Bool) (k : Nat) (rs' : List Sl) (fs' : List (List Bool)) (wr : World) : Prop where
  rs : RS wr b B N sv fv ss rs' sets fs'
  fx : Fx (Mv b sv fv) w wr
  on : ∀ i j, OnF fs' i j ↔ OnF fs i j ∨ (i < k ∧ On A i ∧ On C j)

set_option maxRecDepth 100000 in
set_option maxHeartbeats 4000000 in
theorem behind8_any (w : World) (b B N : Nat) (sv fv : Sl) (ss rs : List Sl) (sets : List (List (Int × Int))) (fs : List (List Bool)) (ga gc : Nat) (A C : List Bool) (hN : N ≤ 200) (hX : RS w b B N sv fv ss rs sets fs)
    (ha : Blk w ga (brow A) 4) (hc : Blk w gc (brow C) 4) (la : A.length = N) (lc : C.length = N) :
    Calls Tryd.prog 80 #[.pointer (some ⟨b, 0, none⟩), .slice (some ⟨ga, 0, none⟩) N N, .slice (some ⟨gc, 0, none⟩) N N] w fun e w' => (∃ v, e = .returned v) ∧ ∃ rs' fs', BI w b B N sv fv ss rs sets fs A C N rs' fs' w' := by
  have HA : Hid (Blk w ga (brow A) 4) := ha
  have HC : Hid (Blk w gc (brow C) 4) := hc
  have LA : Hid (A.length = N) := la
  have LC : Hid (C.length = N) := lc
  have HX : Hid (RS w b B N sv fv ss rs sets fs) := hX
  have J0 : Hid (BI w b B N sv fv ss rs sets fs A C 0 rs fs w) := ⟨hX, Fx.refl _ _, fun i j => by simp⟩
  clear ha hc la lc hX
  go_enter Tryd.func80, Tryd.ntmps80
  go_wp2_with fail
  go_loopw [9] (fun vi wr => ∃ (k : Nat) (rs' : List Sl) (fs' : List (List Bool)), k ≤ N ∧ vi = .int .i64 k ∧ Hid (BI w b B N sv fv ss rs sets fs A C k rs' fs' wr)) (fun vi _ => N - (intOf vi).toNat)
  case atStart => exact ⟨0, rs, fs, Nat.zero_le _, rfl, J0⟩
  case round =>
    clear J0
    obtain ⟨k, rs1, fs1, hk, rfl, HJ⟩ := hrel
    by_cases hlt : k < N
    case neg =>
      have e : k = N := by omega
      subst e
      go_wp2_with fail
      go_end0
      exact ⟨⟨_, rfl⟩, rs1, fs1, HJ.out⟩
    obtain ⟨q, hq⟩ : ∃ q, A[k]? = some q := ⟨_, List.getElem?_eq_getElem (by have := LA.out; omega)⟩
    have HA1 := (HJ.out.fx.block ga HA.out.lt (HX.out.notMv HA.out (by decide) (by decide) (by decide))).trans HA.out
    have HC1 : Hid (Blk wr gc (brow C) 4) := (HJ.out.fx.block gc HC.out.lt (HX.out.notMv HC.out (by decide) (by decide) (by decide))).trans HC.out
    have a0 := brow_at HA1 hq
    have hlt2 : (k : Int) < N := by omega
    cases q
    · have HJ2 : Hid (BI w b B N sv fv ss rs sets fs A C (k + 1) rs1 fs1 wr) := by
        refine ⟨HJ.out.rs, HJ.out.fx, fun i j => ?_⟩
        rw [HJ.out.on i j]
        constructor
        · exact fun h => h.imp id fun ⟨h1, h2⟩ => ⟨by omega, h2⟩
        · rintro (h | ⟨h1, h2, h3⟩)
          · exact Or.inl h
          · by_cases e : i = k
            · subst e; exact absurd h2 (off_of hq)
            · exact Or.inr ⟨by omega, h2, h3⟩
      clear hq HA1
      go_wp2_with fail
      go_roundw
      case rel => exact ⟨k + 1, rs1, fs1, by omega, by go_num, HJ2⟩
      case measure => simp [intOf]; omega
    · obtain ⟨r, hr⟩ : ∃ r, rs1[k]? = some r := ⟨_, List.getElem?_eq_getElem (by have := HJ.out.rs.rl; omega)⟩
      obtain ⟨f, hf⟩ : ∃ f, fs1[k]? = some f := ⟨_, List.getElem?_eq_getElem (by have := HJ.out.rs.fl; omega)⟩
      obtain ⟨gr, rfl, hgr, hfl⟩ := HJ.out.rs.re k r f hr hf
      obtain ⟨gf, hgf, hfn⟩ := HJ.out.rs.fo.head (by intro e; rw [e] at hr; simp at hr)
      rw [HJ.out.rs.rl] at hfn
      have HG : Hid (fv.a = some ⟨gf, 0, none⟩) := hgf
      have hgo : (Value.slice fv.a fv.n fv.c).ownBlock = some gf := by rw [hgf]; rfl
      obtain ⟨cf, hbf⟩ := HJ.out.rs.fo.blk hgo
      have hrow := HJ.out.rs.fo.row encSl_len
      rw [hgf] at hrow
      obtain ⟨_, _, e, _, hc4⟩ := hrow.at hr
      injection e with e
      injection e with e1 e2
      subst e1 e2
      have c5 := hc4 0 _ rfl
      simp only [Nat.zero_add, Nat.mul_one, Nat.add_zero] at c5
      have kp := join8_any N hN gr gc f C (wr.drewN 1) (hgr.drewN 1) (HC1.out.drewN 1) hfl LC.out
      have KP : Hid (Calls Tryd.prog 81 #[.slice (some ⟨gr, 0, none⟩) N N, .slice (some ⟨gc, 0, none⟩) N N] (wr.drewN 1) (PostJ N f C (wr.drewN 1))) := kp
      have c3 := HJ.out.rs.blk.c 2
      simp only [List.getElem?_toArray, List.getElem?_cons_zero, List.getElem?_cons_succ] at c3
      have HB5 : Hid (∀ w5, Gr (wr.drewN 1) w5 → w5.cell? ⟨b, 2, none⟩ = wr.cell? ⟨b, 2, none⟩ ∧ w5.cell? ⟨gf, k, none⟩ = wr.cell? ⟨gf, k, none⟩ ∧ w5.frozen? ⟨gf, k, none⟩ = false) := fun w5 g5 => by
        have e1 := g5.below.block b (HJ.out.rs.blk.drewN 1).lt
        have e2 := g5.below.block gf (hbf.drewN 1).lt
        exact ⟨World.cell?_of_block e1, World.cell?_of_block e2, by rw [World.frozen?_of_block e2]; exact hbf.frozen k⟩
      have HFK : Hid (fs1[k]? = some f) := hf
      have HQ : Hid (A[k]? = some true) := hq
      clear hc4 hrow hbf hgo hr hf hq hgr hfl kp HA1 HC1
      obtain ⟨fa, fn, fc⟩ := fv
      simp only at hgf hfn c3
      subst hgf hfn
      simp only [slB] at c5
      go_wp2_with fail
      go_region_with
        (go_at_call 81; refine KP.out.mono ?_; rintro _ w5 ⟨ob, os, rfl, hob, bo, lo, oo, g5⟩; have G5 : Hid (Gr (wr.drewN 1) w5) := g5; have BO : Hid (Blk w5 ob (brow os) 4) := bo; have LO : Hid (os.length = fn) := lo; have OO : Hid (∀ j, On os j ↔ On f j ∨ On C j) := oo; obtain ⟨d1, d2, d3⟩ := HB5.out w5 g5; rw [c3] at d1; rw [c5] at d2; clear hob bo lo oo g5)
      all_goals
        have J2 := (HJ.out.rs.put (w' := w5) ⟨G5.out.below.os, G5.out.below.tape, G5.out.below.output, G5.out.below.size, G5.out.below.block⟩ hlt rfl BO.out LO.out)
        have HJ2 : Hid (BI w b B fn sv ⟨some ⟨gf, 0, none⟩, fn, fc⟩ ss rs sets fs A C (k + 1) (rs1.set k (slB ob fn)) (fs1.set k os) (w5.setCell ⟨gf, k, none⟩ (.slice (some ⟨ob, 0, none⟩) fn fn))) := by
          refine ⟨J2.1, HJ.out.fx.trans J2.2 fun _ _ e => e, fun i j => ?_⟩
          rw [onF_set (by have := HJ.out.rs.fl; omega), HJ.out.on i j, OO.out j]
          constructor
          · rintro (⟨h1, h | ⟨h2, h3⟩⟩ | ⟨rfl, h | h⟩)
            · exact Or.inl h
            · exact Or.inr ⟨by omega, h3⟩
            · have := (HJ.out.on i j).1 ⟨f, HFK.out, h⟩
              rcases this with h | ⟨h2, _⟩
              · exact Or.inl h
              · omega
            · exact Or.inr ⟨by omega, HQ.out, h⟩
          · intro h
            by_cases e : i = k
            · subst e
              refine Or.inr ⟨rfl, ?_⟩
              rcases h with h | ⟨_, _, h⟩
              · obtain ⟨f', h1, h2⟩ := (HJ.out.on i j).2 (Or.inl h)
                rw [HFK.out] at h1
                injection h1 with h1
                subst h1
                exact Or.inl h2
              · exact Or.inr h
            · refine Or.inl ⟨e, ?_⟩
              rcases h with h | ⟨h1, h2⟩
              · exact Or.inl h
              · exact Or.inr ⟨by omega, h2⟩
        clear J2
        go_wp2_with fail
        go_roundw
        case rel => exact ⟨k + 1, _, _, by omega, by go_num, HJ2⟩
        case measure => simp [intOf]; omega

end Go.Proofs.YtjjlkjfhhpogaaaDoor
