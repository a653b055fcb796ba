/-
  The Jun dialect's reader, walks: cat, pattern, all of them together, Done, Parse.
-/
import Derived.Test.YtjjlkjfhhpogaaaGreatDoorRj2
namespace Go.Proofs.YtjjlkjfhhpogaaaGreatDoor
open Go.RowKit

def ItD (s : ByteArray) (wr0 ou0 fu0 : Bool) (M : Option Rd) (one : Bs → Option Rd) (ts : List Tree) (i : Nat) (wr ou fu : Bool) : Prop :=
  (wr0 = true → wr = true) ∧ (wr0 = false → (M = none ∧ wr = true) ∨ (wr = false ∧ ∃ o f q, ou = (ou0 || o) ∧ fu = (fu0 || f) ∧ (s.data.toList.drop i).length < q ∧ M = jfinM 2 (jitemsM one q ts o f (s.data.toList.drop i))))
theorem ItD.start {s : ByteArray} {pat : Bs → Option Rd} {i : Nat} (wr ou fu : Bool) : ItD s wr ou fu (jcatM pat (s.data.toList.drop i)) (jitemM pat) [] i wr ou fu :=
  ⟨id, fun hw => Or.inr ⟨hw, false, false, _, by simp, by simp, Nat.lt_succ_self _, rfl⟩⟩
theorem ItD.step {s : ByteArray} {M : Option Rd} {one : Bs → Option Rd} {ts : List Tree} {t : Tree} {i p i2 : Nat} {wr0 ou0 fu0 wr ou fu wr2 ou2 fu2 : Bool} (h : ItD s wr0 ou0 fu0 M one ts i wr ou fu) (hp : blI s i = p) (hb : beginsM (s.data.toList.drop p) = true) (hd : Does s wr ou fu (one (s.data.toList.drop p)) t i2 wr2 ou2 fu2) (hi : p + 1 ≤ i2) (h2s : i2 ≤ s.size) : ItD s wr0 ou0 fu0 M one (ts ++ [t]) i2 wr2 ou2 fu2 := by
  refine ⟨fun hw => hd.1 (h.1 hw), fun hw => ?_⟩
  rcases h.2 hw with ⟨h1, h2⟩ | ⟨h1, o, f, q, h2, h3, h4, h5⟩
  · exact Or.inl ⟨h1, hd.1 h2⟩
  · obtain ⟨q', rfl⟩ : ∃ q', q = q' + 1 := ⟨q - 1, by omega⟩
    rw [jitemsM, ← blI_drop, hp, if_pos hb] at h5
    have hg := blI_ge s i
    rw [hp] at hg
    rcases hd.2 h1 with ⟨a1, a2⟩ | ⟨x, a1, a2, a3, a4, a5, a6⟩
    · left
      rw [a1] at h5
      exact ⟨h5, a2⟩
    · right
      rw [a1] at h5
      refine ⟨a2, o || x.o, f || x.f, q', by rw [a5, h2, Bool.or_assoc], by rw [a6, h3, Bool.or_assoc], ?_, ?_⟩
      · rw [drop_len] at h4 ⊢
        omega
      · rw [a3, a4]; exact h5
theorem ItD.fin {s : ByteArray} {M : Option Rd} {one : Bs → Option Rd} {ts : List Tree} {i p : Nat} {wr0 ou0 fu0 wr ou fu : Bool} (h : ItD s wr0 ou0 fu0 M one ts i wr ou fu) (hp : blI s i = p) (hb : beginsM (s.data.toList.drop p) = false) : Does s wr0 ou0 fu0 M (singleM 2 ts).1 p wr ou (fu || (singleM 2 ts).2) := by
  refine ⟨h.1, fun hw => ?_⟩
  rcases h.2 hw with h1 | ⟨h1, o, f, q, h2, h3, h4, h5⟩
  · exact Or.inl h1
  · right
    obtain ⟨q', rfl⟩ : ∃ q', q = q' + 1 := ⟨q - 1, by omega⟩
    rw [jitems_stop (by rw [← blI_drop, hp]; exact hb), ← blI_drop, hp] at h5
    exact ⟨_, h5, h1, rfl, rfl, h2, by rw [h3, Bool.or_assoc]⟩

def SpD (s : ByteArray) (wr0 ou0 fu0 : Bool) (M : Option Rd) (one : Bs → Option Rd) (ts : List Tree) (i : Nat) (wr ou fu : Bool) : Prop :=
  (wr0 = true → wr = true) ∧ (wr0 = false → (M = none ∧ wr = true) ∨ (wr = false ∧ ∃ o f q, ou = (ou0 || o) ∧ fu = (fu0 || f) ∧ (s.data.toList.drop i).length < q ∧ M = jfinM 3 (jsepM one q ts o f (s.data.toList.drop i))))
theorem SpD.start {s : ByteArray} {pat : Bs → Option Rd} {r : Bs} {t : Tree} {i : Nat} {wr0 ou0 fu0 wr ou fu : Bool} (h : Does s wr0 ou0 fu0 (jcatM pat r) t i wr ou fu) : SpD s wr0 ou0 fu0 (jpatM pat r) (jcatM pat) [t] i wr ou fu := by
  refine ⟨h.1, fun hw => ?_⟩
  rcases h.2 hw with ⟨h1, h2⟩ | ⟨x, h1, h2, h3, h4, h5, h6⟩
  · left; unfold jpatM; rw [h1]; exact ⟨rfl, h2⟩
  · right
    refine ⟨h2, x.o, x.f, x.r.length + 1, h5, h6, by rw [h4]; omega, ?_⟩
    unfold jpatM
    rw [h1, h3, h4]
theorem SpD.step {s : ByteArray} {M : Option Rd} {one : Bs → Option Rd} {ts : List Tree} {t : Tree} {i p i2 : Nat} {wr0 ou0 fu0 wr ou fu wr2 ou2 fu2 : Bool} (h : SpD s wr0 ou0 fu0 M one ts i wr ou fu) (hp : blI s i = p) (hc : headIs 124 (s.data.toList.drop p) = true) (hd : Does s wr ou fu (one (s.data.toList.drop (p + 1))) t i2 wr2 ou2 fu2) (hi : p + 1 ≤ i2) (h2s : i2 ≤ s.size) : SpD s wr0 ou0 fu0 M one (ts ++ [t]) i2 wr2 ou2 fu2 := by
  refine ⟨fun hw => hd.1 (h.1 hw), fun hw => ?_⟩
  rcases h.2 hw with ⟨h1, h2⟩ | ⟨h1, o, f, q, h2, h3, h4, h5⟩
  · exact Or.inl ⟨h1, hd.1 h2⟩
  · obtain ⟨q', rfl⟩ : ∃ q', q = q' + 1 := ⟨q - 1, by omega⟩
    rw [jsepM, ← blI_drop, hp, (headIs_drop hc).1] at h5
    simp only [if_true] at h5
    have hg := blI_ge s i
    rw [hp] at hg
    have hl := (headIs_drop hc).2
    rcases hd.2 h1 with ⟨a1, a2⟩ | ⟨x, a1, a2, a3, a4, a5, a6⟩
    · left
      rw [a1] at h5
      exact ⟨h5, a2⟩
    · right
      rw [a1] at h5
      refine ⟨a2, o || x.o, f || x.f, q', by rw [a5, h2, Bool.or_assoc], by rw [a6, h3, Bool.or_assoc], ?_, ?_⟩
      · rw [drop_len] at h4 ⊢
        omega
      · rw [a3, a4]; exact h5
theorem SpD.fin {s : ByteArray} {M : Option Rd} {one : Bs → Option Rd} {ts : List Tree} {i p : Nat} {wr0 ou0 fu0 wr ou fu : Bool} (h : SpD s wr0 ou0 fu0 M one ts i wr ou fu) (hp : blI s i = p) (hc : headIs 124 (s.data.toList.drop p) = false) : Does s wr0 ou0 fu0 M (singleM 3 ts).1 p wr ou (fu || (singleM 3 ts).2) := by
  refine ⟨h.1, fun hw => ?_⟩
  rcases h.2 hw with h1 | ⟨h1, o, f, q, h2, h3, h4, h5⟩
  · exact Or.inl h1
  · right
    obtain ⟨q', rfl⟩ : ∃ q', q = q' + 1 := ⟨q - 1, by omega⟩
    rw [jsep_stop (by rw [← blI_drop, hp]; exact headIs_false hc), ← blI_drop, hp] at h5
    exact ⟨_, h5, h1, rfl, rfl, h2, by rw [h3, Bool.or_assoc]⟩

set_option maxRecDepth 100000 in
set_option maxHeartbeats 8000000 in
theorem jcat_any {s : ByteArray} {b n : Nat} {pat : Bs → Option Rd} (hs : s.size ≤ 3000) (ka : CJ s b 79 (jitemM pat) n) : CA s b 62 (jcatM pat) n := by
  intro i wr ou fu w hi hlim hb
  have HA := AX.start hb
  have HS : Hid (s.size ≤ 3000) := hs
  have HLm : Hid (s.size - i < n) := hlim
  have HIi : Hid (i ≤ s.size) := hi
  have HKA : Hid (CJ s b 79 (jitemM pat) n) := ka
  generalize hW : w.alloc (.cells #[.int .i64 0, .slice none 0 0, .slice none 0 0] 26) = W0 at HA
  have HI : Hid (AX s b w i wr ou fu W0) := HA
  clear hb HA hi hs ka hlim
  go_enter Tryz.func62, Tryz.ntmps62
  go_upto_region 1 with fail
  clear hW
  go_wp2_with fail
  have I4 : Hid (LR s b w i wr ou fu [] ⟨none, 0, 0⟩ [] W0) := LR.nil HI.out HIi.out
  have D4 : Hid (ItD s wr ou fu (jcatM pat (s.data.toList.drop i)) (jitemM pat) [] i wr ou fu) := ItD.start wr ou fu
  clear HI
  go_loopw [3] (fun v3 wr0 => ∃ (i5 : Nat) (wr5 ou5 fu5 : Bool) (ts : List Tree) (bs : Sl) (rows : List PC), v3 = .slice bs.a bs.n bs.c ∧ Hid (LR s b w i5 wr5 ou5 fu5 ts bs rows wr0) ∧ Hid (ItD s wr ou fu (jcatM pat (s.data.toList.drop i)) (jitemM pat) ts i5 wr5 ou5 fu5) ∧ Hid (i ≤ i5)) (fun _ wr0 => s.size - posOf b wr0)
  case atStart => exact ⟨_, _, _, _, _, ⟨none, 0, 0⟩, _, rfl, I4, D4, Nat.le_refl _⟩
  case round =>
    clear I4 D4
    obtain ⟨i5, wr5, ou5, fu5, ts, ⟨da, dn, dc⟩, rows, rfl, I5, D5, L5⟩ := hrel
    have HP : Hid (posOf b _ = i5) := posOf_blk I5.out.ax.rd
    obtain ⟨p, hp⟩ : ∃ p, blI s i5 = p := ⟨_, rfl⟩
    have HPp : Hid (blI s i5 = p) := hp
    have HPi : Hid (blI s p = p) := by show _ = _; rw [← hp]; exact blI_idem I5.out.le
    have HLp : Hid (i5 ≤ p ∧ p ≤ s.size) := by rw [← hp]; exact ⟨blI_ge _ _, blI_le I5.out.le⟩
    clear hp
    cases hc : beginsM (s.data.toList.drop p) with
    | false =>
      have kN : ∀ W, LR s b w i5 wr5 ou5 fu5 ts ⟨da, dn, dc⟩ rows W → Calls Tryz.prog 78 #[.pointer (some ⟨b, 0, none⟩)] W fun e w' => e = .returned (.bool false) ∧ LR s b w p wr5 ou5 fu5 ts ⟨da, dn, dc⟩ rows w' := fun W a => (begins_any HS.out a.le HPp.out a.ax.rd).mono fun _ _ h' => by
        rw [hc] at h'; exact ⟨h'.1, a.go h'.2.1 h'.2.2 HLp.out.2 HLp.out.1⟩
      go_wp2_with (first
        | (go_at_call 78; (with_reducible refine (kN _ I5.out).mono ?_); rintro _ w7 ⟨rfl, a2⟩; have I7 : Hid (LR s b w p wr5 ou5 fu5 ts ⟨da, dn, dc⟩ rows w7) := a2; clear a2)
        | (go_at_call 50; refine (joinedR_any (k := 2) (P := fun g => w.heap.size + 1 ≤ g ∧ g < w7.heap.size) I7.out.ax.rd (ok_list' (by have h1 := I7.out.len; have h2 := I7.out.le; have h3 := HS.out; omega) I7.out.rt) (fun g hg => hg.2) (I7.out.ho 2)).mono ?_; rintro _ w8 ⟨⟨u0, ⟨u1, u2, u3⟩, u4, u5, u6⟩, rfl, ho8, ex8, b8⟩; have A8 : Hid (AX s b w p wr5 ou5 (fu5 || (singleM 2 ts).2) w8) := I7.out.ax.go ex8 b8; have H8 : Hid (HO (fun g => w.heap.size + 1 ≤ g ∧ g < w8.heap.size) w8 (singleM 2 ts).1 ⟨u0, ⟨u1, u2, u3⟩, u4, u5, u6⟩) := ho8.imp' (fun g hg => ⟨hg.1, Nat.lt_of_lt_of_le hg.2 ex8.size⟩); obtain ⟨y0, y1, y2⟩ := BlkT.cs A8.out.res; have z0 := A8.out.res.frozen; clear ho8 ex8 b8))
      refine bodyPost_ret (v := PC.v ⟨u0, ⟨u1, u2, u3⟩, ⟨u4, u5, u6⟩⟩) ?_ rfl (A8.out.fin H8.out (right_single _ _ I7.out.rt) (by have h1 := L5.out; have h2 := HLp.out.1; omega) HLp.out.2 (D5.out.fin HPp.out hc) _ _ _)
      simp [results, Tryz.results62]
      have B := blk_put3 A8.out.res ⟨u0, ⟨u1, u2, u3⟩, ⟨u4, u5, u6⟩⟩
      simp only at B
      generalize hW7 : World.setCell _ _ _ = W7 at B ⊢
      exact run_ptv B
    | true =>
      have kY : ∀ W, LR s b w i5 wr5 ou5 fu5 ts ⟨da, dn, dc⟩ rows W → Calls Tryz.prog 78 #[.pointer (some ⟨b, 0, none⟩)] W fun e w' => e = .returned (.bool true) ∧ LR s b w p wr5 ou5 fu5 ts ⟨da, dn, dc⟩ rows w' := fun W a => (begins_any HS.out a.le HPp.out a.ax.rd).mono fun _ _ h' => by
        rw [hc] at h'; exact ⟨h'.1, a.go h'.2.1 h'.2.2 HLp.out.2 HLp.out.1⟩
      have HLN : Hid (ts.length ≤ i5 + 4) := I5.out.len
      go_wp2_with (first
        | (go_at_call 78; (with_reducible refine (kY _ I5.out).mono ?_); rintro _ w7 ⟨rfl, a2⟩; have I7 : Hid (LR s b w p wr5 ou5 fu5 ts ⟨da, dn, dc⟩ rows w7) := a2; have HR7 : Hid (∀ g, (Sl.v ⟨da, dn, dc⟩).ownBlock = some g → g < w7.heap.size) := fun g hg => (I7.out.row.lt hg).2; have HW7 : Hid (w.heap.size + 1 ≤ w7.heap.size) := I7.out.ax.res.lt; clear a2)
        | (go_at_call 79; refine (HKA.out p wr5 ou5 fu5 _ HLp.out.2 (by have h1 := HLm.out; have h2 := L5.out; have h3 := HLp.out.1; omega) HPi.out hc I7.out.ax.rd).mono ?_; rintro _ w8 ⟨⟨u0, ⟨u1, u2, u3⟩, u4, u5, u6⟩, t8, i8, wr8, ou8, fu8, rfl, ho8, hk8, ex8, b8, le8, lf8, d8⟩; have I8 : Hid (LR s b w i8 wr8 ou8 fu8 ts ⟨da, dn, dc⟩ rows w8) := I7.out.go ex8 b8 lf8 (Nat.le_of_succ_le le8); have H8 : Hid (HO (fun g => w7.heap.size ≤ g ∧ g < w8.heap.size) w8 t8 ⟨u0, ⟨u1, u2, u3⟩, u4, u5, u6⟩) := ho8; have K8 : Hid (rightT t8 = true) := hk8; have D8 : Hid (Does s wr5 ou5 fu5 (jitemM pat (s.data.toList.drop p)) t8 i8 wr8 ou8 fu8) := d8; have L8 : Hid (p + 1 ≤ i8 ∧ i8 ≤ s.size) := ⟨le8, lf8⟩; clear ho8 hk8 ex8 b8 le8 lf8 d8)
        | (refine wp_appX info26 Tryz.underlying24 encT_len oneT rfl (by decide) (by decide) (by rfl) _ _ (by rfl) 0 (.slice da dn dc) rows (by rfl) ((I8.out.bel (bel_alloc _ (.cells (encT ⟨u0, ⟨u1, u2, u3⟩, u4, u5, u6⟩).toArray 26))).row) ⟨u0, ⟨u1, u2, u3⟩, u4, u5, u6⟩ w8.heap.size (by rfl) (encT ⟨u0, ⟨u1, u2, u3⟩, u4, u5, u6⟩).toArray (Blk.new _ _ _) (by rfl) (by have h1 := I8.out.rlen; have h2 := I8.out.le; have h3 := HS.out; omega) (Nat.zero_le _) ?_; intro g5 cap5 w9 ow9 gr9 hg9 _; have J9 : Hid (LR s b w i8 wr8 ou8 fu8 (ts ++ [t8]) ⟨some ⟨g5, 0, none⟩, rows.length + 1, cap5⟩ (rows ++ [⟨u0, ⟨u1, u2, u3⟩, u4, u5, u6⟩]) w9) := (I8.out.bel (bel_alloc _ (.cells (encT ⟨u0, ⟨u1, u2, u3⟩, u4, u5, u6⟩).toArray 26))).step (H8.out.bel (bel_alloc _ _)) K8.out HW7.out HR7.out (by have h1 := HLN.out; have h2 := L8.out.1; have h3 := HLp.out.1; omega) ow9 gr9 (by simpa using hg9); clear ow9 gr9 hg9))
      go_roundw
      case rel => exact ⟨i8, wr8, ou8, fu8, _, ⟨_, _, _⟩, _, rfl, J9, ItD.step D5.out HPp.out hc D8.out L8.out.1 L8.out.2, by have h1 := L5.out; have h2 := L8.out.1; have h3 := HLp.out.1; exact (by omega : i ≤ i8)⟩
      case measure => rw [posOf_blk J9.out.ax.rd, HP.out]; have h2 := L8.out; have h3 := HLp.out.1; omega

set_option maxRecDepth 100000 in
set_option maxHeartbeats 8000000 in
theorem jpat_any {s : ByteArray} {b n : Nat} {pat : Bs → Option Rd} (hs : s.size ≤ 3000) (ka : CA s b 62 (jcatM pat) n) : CA s b 44 (jpatM pat) n := by
  intro i wr ou fu w hi hlim hb
  have HA := AX.start hb
  have HS : Hid (s.size ≤ 3000) := hs
  have HLm : Hid (s.size - i < n) := hlim
  have HIi : Hid (i ≤ s.size) := hi
  have HKA : Hid (CA s b 62 (jcatM pat) n) := ka
  generalize hW : w.alloc (.cells #[.int .i64 0, .slice none 0 0, .slice none 0 0] 26) = W0 at HA
  have HI : Hid (AX s b w i wr ou fu W0) := HA
  clear hb HA hi hs ka hlim
  go_enter Tryz.func44, Tryz.ntmps44
  go_upto_region 1 with fail
  clear hW
  go_wp2_with (go_at_call 62; refine (HKA.out i wr ou fu _ HIi.out HLm.out HI.out.rd).mono ?_; rintro _ w4 ⟨⟨r0, ⟨r1, r2, r3⟩, r4, r5, r6⟩, t4, i4, wr4, ou4, fu4, rfl, ho4, hk4, ex4, b4, le4, le5, d4⟩; have I4 : Hid (LR s b w i4 wr4 ou4 fu4 [t4] ⟨some ⟨w4.heap.size, 0, none⟩, 1, 1⟩ [⟨r0, ⟨r1, r2, r3⟩, r4, r5, r6⟩] (w4.alloc (.cells (encT ⟨r0, ⟨r1, r2, r3⟩, r4, r5, r6⟩).toArray 26))) := LR.one (HI.out.go ex4 b4) (ho4.low (by have := HI.out.res.lt; omega)) hk4 le5; have D4 : Hid (SpD s wr ou fu (jpatM pat (s.data.toList.drop i)) (jcatM pat) [t4] i4 wr4 ou4 fu4) := SpD.start d4; have L4 : Hid (i ≤ i4) := le4; clear ho4 hk4 ex4 b4 le4 le5 d4)
  clear HI
  go_loopw [3] (fun v3 wr0 => ∃ (i5 : Nat) (wr5 ou5 fu5 : Bool) (ts : List Tree) (bs : Sl) (rows : List PC), v3 = .slice bs.a bs.n bs.c ∧ Hid (LR s b w i5 wr5 ou5 fu5 ts bs rows wr0) ∧ Hid (SpD s wr ou fu (jpatM pat (s.data.toList.drop i)) (jcatM pat) ts i5 wr5 ou5 fu5) ∧ Hid (i ≤ i5)) (fun _ wr0 => s.size - posOf b wr0)
  case atStart => exact ⟨_, _, _, _, _, ⟨_, _, _⟩, _, rfl, I4, D4, L4⟩
  case round =>
    clear I4 D4 L4
    obtain ⟨i5, wr5, ou5, fu5, ts, ⟨da, dn, dc⟩, rows, rfl, I5, D5, L5⟩ := hrel
    have HP : Hid (posOf b _ = i5) := posOf_blk I5.out.ax.rd
    obtain ⟨p, hp⟩ : ∃ p, blI s i5 = p := ⟨_, rfl⟩
    have HPp : Hid (blI s i5 = p) := hp
    have HLp : Hid (i5 ≤ p ∧ p ≤ s.size) := by rw [← hp]; exact ⟨blI_ge _ _, blI_le I5.out.le⟩
    clear hp
    cases hc : headIs 124 (s.data.toList.drop p) with
    | false =>
      have kN : ∀ W, LR s b w i5 wr5 ou5 fu5 ts ⟨da, dn, dc⟩ rows W → Calls Tryz.prog 63 #[.pointer (some ⟨b, 0, none⟩), .int .u8 124] W fun e w' => e = .returned (.bool false) ∧ LR s b w p wr5 ou5 fu5 ts ⟨da, dn, dc⟩ rows w' := fun W a => (jtook_any (c := 124) HS.out a.le HPp.out a.ax.rd).mono fun _ _ h' => by
        unfold tkI at h'; rw [hc] at h'; exact ⟨h'.1, a.go h'.2.1 h'.2.2 HLp.out.2 HLp.out.1⟩
      go_wp2_with (first
        | (go_at_call 63; (with_reducible refine (kN _ I5.out).mono ?_); rintro _ w7 ⟨rfl, a2⟩; have I7 : Hid (LR s b w p wr5 ou5 fu5 ts ⟨da, dn, dc⟩ rows w7) := a2; clear a2)
        | (go_at_call 50; refine (joinedR_any (k := 3) (P := fun g => w.heap.size + 1 ≤ g ∧ g < w7.heap.size) I7.out.ax.rd (ok_list' (by have h1 := I7.out.len; have h2 := I7.out.le; have h3 := HS.out; omega) I7.out.rt) (fun g hg => hg.2) (I7.out.ho 3)).mono ?_; rintro _ w8 ⟨⟨u0, ⟨u1, u2, u3⟩, u4, u5, u6⟩, rfl, ho8, ex8, b8⟩; have A8 : Hid (AX s b w p wr5 ou5 (fu5 || (singleM 3 ts).2) w8) := I7.out.ax.go ex8 b8; have H8 : Hid (HO (fun g => w.heap.size + 1 ≤ g ∧ g < w8.heap.size) w8 (singleM 3 ts).1 ⟨u0, ⟨u1, u2, u3⟩, u4, u5, u6⟩) := ho8.imp' (fun g hg => ⟨hg.1, Nat.lt_of_lt_of_le hg.2 ex8.size⟩); obtain ⟨y0, y1, y2⟩ := BlkT.cs A8.out.res; have z0 := A8.out.res.frozen; clear ho8 ex8 b8))
      refine bodyPost_ret (v := PC.v ⟨u0, ⟨u1, u2, u3⟩, ⟨u4, u5, u6⟩⟩) ?_ rfl (A8.out.fin H8.out (right_single _ _ I7.out.rt) (by have h1 := L5.out; have h2 := HLp.out.1; omega) HLp.out.2 (D5.out.fin HPp.out hc) _ _ _)
      simp [results, Tryz.results44]
      have B := blk_put3 A8.out.res ⟨u0, ⟨u1, u2, u3⟩, ⟨u4, u5, u6⟩⟩
      simp only at B
      generalize hW7 : World.setCell _ _ _ = W7 at B ⊢
      exact run_ptv B
    | true =>
      have hl7 := (headIs_drop hc).2
      have kY : ∀ W, LR s b w i5 wr5 ou5 fu5 ts ⟨da, dn, dc⟩ rows W → Calls Tryz.prog 63 #[.pointer (some ⟨b, 0, none⟩), .int .u8 124] W fun e w' => e = .returned (.bool true) ∧ LR s b w (p + 1) wr5 ou5 fu5 ts ⟨da, dn, dc⟩ rows w' := fun W a => (jtook_any (c := 124) HS.out a.le HPp.out a.ax.rd).mono fun _ _ h' => by
        unfold tkI at h'; rw [hc] at h'; exact ⟨h'.1, a.go h'.2.1 h'.2.2 hl7 (Nat.le_succ_of_le HLp.out.1)⟩
      have HLN : Hid (ts.length ≤ i5 + 4) := I5.out.len
      go_wp2_with (first
        | (go_at_call 63; (with_reducible refine (kY _ I5.out).mono ?_); rintro _ w7 ⟨rfl, a2⟩; have I7 : Hid (LR s b w (p + 1) wr5 ou5 fu5 ts ⟨da, dn, dc⟩ rows w7) := a2; have HR7 : Hid (∀ g, (Sl.v ⟨da, dn, dc⟩).ownBlock = some g → g < w7.heap.size) := fun g hg => (I7.out.row.lt hg).2; have HW7 : Hid (w.heap.size + 1 ≤ w7.heap.size) := I7.out.ax.res.lt; clear a2)
        | (go_at_call 62; refine (HKA.out (p + 1) wr5 ou5 fu5 _ I7.out.le (by have h1 := HLm.out; have h2 := L5.out; have h3 := HLp.out.1; omega) I7.out.ax.rd).mono ?_; rintro _ w8 ⟨⟨u0, ⟨u1, u2, u3⟩, u4, u5, u6⟩, t8, i8, wr8, ou8, fu8, rfl, ho8, hk8, ex8, b8, le8, lf8, d8⟩; have I8 : Hid (LR s b w i8 wr8 ou8 fu8 ts ⟨da, dn, dc⟩ rows w8) := I7.out.go ex8 b8 lf8 le8; have H8 : Hid (HO (fun g => w7.heap.size ≤ g ∧ g < w8.heap.size) w8 t8 ⟨u0, ⟨u1, u2, u3⟩, u4, u5, u6⟩) := ho8; have K8 : Hid (rightT t8 = true) := hk8; have D8 : Hid (Does s wr5 ou5 fu5 (jcatM pat (s.data.toList.drop (p + 1))) t8 i8 wr8 ou8 fu8) := d8; have L8 : Hid (p + 1 ≤ i8 ∧ i8 ≤ s.size) := ⟨le8, lf8⟩; clear ho8 hk8 ex8 b8 le8 lf8 d8)
        | (refine wp_appX info26 Tryz.underlying24 encT_len oneT rfl (by decide) (by decide) (by rfl) _ _ (by rfl) 0 (.slice da dn dc) rows (by rfl) ((I8.out.bel (bel_alloc _ (.cells (encT ⟨u0, ⟨u1, u2, u3⟩, u4, u5, u6⟩).toArray 26))).row) ⟨u0, ⟨u1, u2, u3⟩, u4, u5, u6⟩ w8.heap.size (by rfl) (encT ⟨u0, ⟨u1, u2, u3⟩, u4, u5, u6⟩).toArray (Blk.new _ _ _) (by rfl) (by have h1 := I8.out.rlen; have h2 := I8.out.le; have h3 := HS.out; omega) (Nat.zero_le _) ?_; intro g5 cap5 w9 ow9 gr9 hg9 _; have J9 : Hid (LR s b w i8 wr8 ou8 fu8 (ts ++ [t8]) ⟨some ⟨g5, 0, none⟩, rows.length + 1, cap5⟩ (rows ++ [⟨u0, ⟨u1, u2, u3⟩, u4, u5, u6⟩]) w9) := (I8.out.bel (bel_alloc _ (.cells (encT ⟨u0, ⟨u1, u2, u3⟩, u4, u5, u6⟩).toArray 26))).step (H8.out.bel (bel_alloc _ _)) K8.out HW7.out HR7.out (by have h1 := HLN.out; have h2 := L8.out.1; have h3 := HLp.out.1; omega) ow9 gr9 (by simpa using hg9); clear ow9 gr9 hg9))
      go_roundw
      case rel => exact ⟨i8, wr8, ou8, fu8, _, ⟨_, _, _⟩, _, rfl, J9, SpD.step D5.out HPp.out hc D8.out L8.out.1 L8.out.2, by have h1 := L5.out; have h2 := L8.out.1; have h3 := HLp.out.1; exact (by omega : i ≤ i8)⟩
      case measure => rw [posOf_blk J9.out.ax.rd, HP.out]; have h2 := L8.out; have h3 := HLp.out.1; omega

/-- All of them together. -/
theorem jreads_all {s : ByteArray} {b : Nat} (hs : s.size ≤ 3000) : ∀ n, CA s b 44 (jpatN n) n
  | 0 => fun i wr ou fu W hi hlim _ => absurd hlim (by omega)
  | n + 1 => jpat_any hs (jcat_any hs (jitem_any hs (jatom_any hs (jreads_all hs n))))

/-- What Done answers. -/
def doneM (s : ByteArray) (i : Nat) (wr ou fu : Bool) (t : Tree) : Tree × Int :=
  if wr = true ∨ i < s.size then (zeT, 4) else if ou = true then (zeT, 5) else if fu = true then (zeT, 6) else (t, 0)

set_option maxRecDepth 100000 in
set_option maxHeartbeats 4000000 in
theorem done_any {P : Nat → Prop} {s : ByteArray} {b i : Nat} {wr ou fu : Bool} {t : Tree} {x : PC} {w : World} (hb : BlkR w b s i wr ou fu) (hP : ∀ g, P g → g < w.heap.size) (hx : HO P w t x) :
    Calls Tryz.prog 26 #[.pointer (some ⟨b, 0, none⟩), x.v] w fun e w' => ∃ r : PC, e = .returned (.tuple #[r.v, .int .i64 (doneM s i wr ou fu t).2]) ∧ HO P w' (doneM s i wr ou fu t).1 r ∧ Below w.heap.size w w' := by
  have hmx : Tryz.prog.follows .mixedOrders = true := by kernel_rfl
  have HX : Hid (HO P w t x) := hx
  have HPp : Hid (∀ g, P g → g < w.heap.size) := hP
  have HM : Hid (doneM s i wr ou fu t = if wr = true ∨ i < s.size then (zeT, 4) else if ou = true then (zeT, 5) else if fu = true then (zeT, 6) else (t, 0)) := rfl
  obtain ⟨xk, ⟨x1, x2, x3⟩, x4, x5, x6⟩ := x
  have HI0 : Hid (KI b s i wr ou fu w ⟨xk, ⟨x1, x2, x3⟩, ⟨x4, x5, x6⟩⟩ ((w.alloc (.cells #[.int .i64 xk, .slice x1 x2 x3, .slice x4 x5 x6] 26)).alloc (.cells #[.int .i64 0, .slice none 0 0, .slice none 0 0] 26))) :=
    ⟨bstep (bel_alloc _ _) (bel_alloc _ _), (Blk.new _ _ _).alloc _, Blk.new' _ _ _ _ (by simp)⟩
  have HR0 : Hid (BlkR ((w.alloc (.cells #[.int .i64 xk, .slice x1 x2 x3, .slice x4 x5 x6] 26)).alloc (.cells #[.int .i64 0, .slice none 0 0, .slice none 0 0] 26)) b s i wr ou fu) := (hb.alloc _).alloc _
  clear hx hb hP
  generalize doneM s i wr ou fu t = dm at *
  go_enter Tryz.func26, Tryz.ntmps26
  go_upto_region 1 with fail
  generalize hW : World.alloc _ _ = W0 at HI0 HR0 ⊢
  have HI : Hid (KI b s i wr ou fu w ⟨xk, ⟨x1, x2, x3⟩, ⟨x4, x5, x6⟩⟩ W0) := HI0.out
  have HR : Hid (BlkR W0 b s i wr ou fu) := HR0.out
  clear HI0 HR0 hW
  have c0 := fun n os => (HR.out.grow n os).c 0
  have c1 := fun n os => (HR.out.grow n os).c 1
  have c2 := fun n os => (HR.out.grow n os).c 2
  simp at c0 c1 c2
  have bl := HR.out.lt
  obtain ⟨qe, hqe⟩ : ∃ q, decide (i < s.size) = q := ⟨_, rfl⟩
  have hqe2 : decide ((i : Int) < (s.size : Int)) = qe := by rw [← hqe]; apply Bool.eq_iff_iff.2; simp
  have HQE : Hid (i < s.size ↔ qe = true) := by show _ ↔ _; rw [← hqe]; simp
  cases wr <;> cases qe
  case false.false =>
    have HM1 : Hid (dm = if ou = true then (zeT, 5) else if fu = true then (zeT, 6) else (t, 0)) := by show _ = _; rw [HM.out, if_neg (by simp [HQE.out])]
    clear HM HQE
    refine wp_region_quiet_grownB (by assumption) (by kernel_rfl) ?_
    repeat (refine wpQuiet_stepB (fun K hK => ?_); go_simp; first | (refine hK _ ?_; clear hK K) | (apply Exists.intro; refine ⟨fun _ => ?_, hK _ ?_⟩; fail; clear hK K))
    refine wpQuiet_nilB ?_
    intro _ hw'
    obtain ⟨⟨nq, osq⟩, hw''⟩ := hw'
    subst hw''
    have K2 : Hid (KI b s i false ou fu w ⟨xk, ⟨x1, x2, x3⟩, ⟨x4, x5, x6⟩⟩ (Sort.grow (W0.drewN nq) osq)) := ⟨bstep HI.out.bel (Gr.below ⟨nq, osq, rfl⟩), HI.out.box.gr ⟨nq, osq, rfl⟩, HI.out.res.gr ⟨nq, osq, rfl⟩⟩
    have R2 : Hid (BlkR (Sort.grow (W0.drewN nq) osq) b s i false ou fu) := HR.out.gr ⟨nq, osq, rfl⟩
    generalize Sort.grow (W0.drewN nq) osq = V at K2 R2 ⊢
    have g3 := R2.out.c 3
    have g4 := R2.out.c 4
    simp at g3 g4
    obtain ⟨y0, y1, y2⟩ := BlkT.cs K2.out.res
    have z0 := K2.out.res.frozen
    obtain ⟨m0, m1, m2⟩ := BlkT.cs K2.out.box
    simp only at m0 m1 m2
    clear c0 c1 c2 hqe2 hqe
    cases ou with
    | true =>
      have HM2 : Hid (dm = (zeT, 5)) := HM1.out
      clear HM1
      go_wp2_with fail
      refine bodyPost_ret (v := .tuple #[PC.v ⟨0, ⟨none, 0, 0⟩, ⟨none, 0, 0⟩⟩, .int .i64 5]) ?_ rfl ⟨⟨0, ⟨none, 0, 0⟩, ⟨none, 0, 0⟩⟩, by rw [HM2.out], by rw [HM2.out]; exact HO_none 0, set3_bel K2.out.bel (by omega) _ _ _⟩
      have B := blk_put3 K2.out.res ⟨0, ⟨none, 0, 0⟩, ⟨none, 0, 0⟩⟩
      simp only at B
      generalize hW7 : World.setCell _ _ _ = W7 at B ⊢
      obtain ⟨b0, b1, b2⟩ := BlkT.cs B
      simp only at b0 b1 b2
      simp [results, Tryz.results26, go_sem, b0, b1, b2]
    | false =>
    cases fu with
    | true =>
      have HM2 : Hid (dm = (zeT, 6)) := HM1.out
      clear HM1
      go_wp2_with fail
      refine bodyPost_ret (v := .tuple #[PC.v ⟨0, ⟨none, 0, 0⟩, ⟨none, 0, 0⟩⟩, .int .i64 6]) ?_ rfl ⟨⟨0, ⟨none, 0, 0⟩, ⟨none, 0, 0⟩⟩, by rw [HM2.out], by rw [HM2.out]; exact HO_none 0, set3_bel K2.out.bel (by omega) _ _ _⟩
      have B := blk_put3 K2.out.res ⟨0, ⟨none, 0, 0⟩, ⟨none, 0, 0⟩⟩
      simp only at B
      generalize hW7 : World.setCell _ _ _ = W7 at B ⊢
      obtain ⟨b0, b1, b2⟩ := BlkT.cs B
      simp only at b0 b1 b2
      simp [results, Tryz.results26, go_sem, b0, b1, b2]
    | false =>
      have HM2 : Hid (dm = (t, 0)) := HM1.out
      clear HM1
      go_wp2_with fail
      refine bodyPost_ret (v := .tuple #[PC.v ⟨xk, ⟨x1, x2, x3⟩, ⟨x4, x5, x6⟩⟩, .int .i64 0]) ?_ rfl ⟨⟨xk, ⟨x1, x2, x3⟩, ⟨x4, x5, x6⟩⟩, by rw [HM2.out], by rw [HM2.out]; exact HO.same (fun _ h => h) (fun g hg => (set3_bel K2.out.bel (g := w.heap.size + 1) (by omega) _ _ _).block g (HPp.out g hg)) HX.out, set3_bel K2.out.bel (by omega) _ _ _⟩
      have B := blk_put3 K2.out.res ⟨xk, ⟨x1, x2, x3⟩, ⟨x4, x5, x6⟩⟩
      simp only at B
      generalize hW7 : World.setCell _ _ _ = W7 at B ⊢
      obtain ⟨b0, b1, b2⟩ := BlkT.cs B
      simp only at b0 b1 b2
      simp [results, Tryz.results26, go_sem, b0, b1, b2]
  all_goals
    have HM2 : Hid (dm = (zeT, 4)) := by show _ = _; rw [HM.out, if_pos (by simp [HQE.out])]
    clear HM HQE
    refine wp_region_quiet_grownB (by assumption) (by kernel_rfl) ?_
    repeat (refine wpQuiet_stepB (fun K hK => ?_); go_simp; first | (refine hK _ ?_; clear hK K) | (apply Exists.intro; refine ⟨fun _ => ?_, hK _ ?_⟩; fail; clear hK K))
    refine wpQuiet_nilB ?_
    intro _ hw'
    obtain ⟨⟨nq, osq⟩, hw''⟩ := hw'
    subst hw''
    have K2 : Hid (KI b s i false ou fu w ⟨xk, ⟨x1, x2, x3⟩, ⟨x4, x5, x6⟩⟩ (Sort.grow (W0.drewN nq) osq)) := ⟨bstep HI.out.bel (Gr.below ⟨nq, osq, rfl⟩), HI.out.box.gr ⟨nq, osq, rfl⟩, HI.out.res.gr ⟨nq, osq, rfl⟩⟩
    have R2 : Hid (BlkR (Sort.grow (W0.drewN nq) osq) b s i _ ou fu) := HR.out.gr ⟨nq, osq, rfl⟩
    generalize Sort.grow (W0.drewN nq) osq = V at K2 R2 ⊢
    have g3 := R2.out.c 3
    have g4 := R2.out.c 4
    simp at g3 g4
    obtain ⟨y0, y1, y2⟩ := BlkT.cs K2.out.res
    have z0 := K2.out.res.frozen
    obtain ⟨m0, m1, m2⟩ := BlkT.cs K2.out.box
    simp only at m0 m1 m2
    clear c0 c1 c2 hqe2 hqe
    go_wp2_with fail
    refine bodyPost_ret (v := .tuple #[PC.v ⟨0, ⟨none, 0, 0⟩, ⟨none, 0, 0⟩⟩, .int .i64 4]) ?_ rfl ⟨⟨0, ⟨none, 0, 0⟩, ⟨none, 0, 0⟩⟩, by rw [HM2.out], by rw [HM2.out]; exact HO_none 0, set3_bel K2.out.bel (by omega) _ _ _⟩
    have B := blk_put3 K2.out.res ⟨0, ⟨none, 0, 0⟩, ⟨none, 0, 0⟩⟩
    simp only at B
    generalize hW7 : World.setCell _ _ _ = W7 at B ⊢
    obtain ⟨b0, b1, b2⟩ := BlkT.cs B
    simp only at b0 b1 b2
    simp [results, Tryz.results26, go_sem, b0, b1, b2]

theorem Ex.toBel {b : Nat} {w W w' : World} (h : Ex b W w') (hB : Below w.heap.size w W) (hb : w.heap.size ≤ b) : Below w.heap.size w w' :=
  ⟨h.os.trans hB.os, h.tape.trans hB.tape, h.output.trans hB.output, Nat.le_trans hB.size h.size, fun k hk => (h.block k (Nat.lt_of_lt_of_le hk hB.size) (by omega)).trans (hB.block k hk)⟩

/-- A parser's frame: its result's cells. -/
structure QP (w : World) (W : World) : Prop where
  bel : Below w.heap.size w W
  res : Blk W w.heap.size (encT ⟨0, ⟨none, 0, 0⟩, ⟨none, 0, 0⟩⟩).toArray 26
theorem QP.go {w W W' : World} (h : QP w W) (g : Below W.heap.size W W') : QP w W' := ⟨bstep h.bel g, h.res.bel g⟩

set_option maxRecDepth 100000 in
theorem newReader_any (s : ByteArray) (w : World) : Calls Tryz.prog 25 #[.string s] w fun e w' => e = .returned (.agg #[.string s, .int .i64 0, .bool false, .bool false, .bool false]) ∧ Below w.heap.size w w' := by
  go_enter Tryz.func25, Tryz.ntmps25
  go_wp2_with fail
  refine bodyPost_ret (v := .agg #[.string s, .int .i64 0, .bool false, .bool false, .bool false]) ?_ rfl ⟨rfl, bel_alloc _ _⟩
  simp [results, Tryz.results25, go_sem]

theorem done_jun {s : ByteArray} {t : Tree} {i : Nat} {wr ou fu : Bool} (h2 : ¬ 2000 < s.size) (hi : i ≤ s.size) (hd : Does s false false false (jpatN (s.size + 1) (s.data.toList.drop 0)) t i wr ou fu) : doneM s i wr ou fu t = jparseM s.data.toList := by
  have hlen : s.data.toList.length = s.size := by rw [Array.length_toList]; rfl
  unfold doneM jparseM
  rw [hlen, if_neg h2]
  rw [List.drop_zero] at hd
  rcases hd.2 rfl with ⟨h3, h4⟩ | ⟨x, h3, h4, h5, h6, h7, h8⟩
  · rw [h3, if_pos (Or.inl h4)]
  · rw [h3]
    simp only
    have e := drop_len (s := s) i
    rw [h6] at e
    by_cases hr : x.r = []
    · rw [hr] at e
      have : ¬ i < s.size := by simp at e; omega
      rw [if_neg (show ¬ (wr = true ∨ i < s.size) by simp [h4, this]), if_neg (show ¬ (x.r ≠ []) by simp [hr])]
      simp at h7 h8
      rw [h7, h8, h5]
    · have : i < s.size := by
        rcases Nat.lt_or_ge i s.size with h | h
        · exact h
        · exact absurd (List.length_eq_zero_iff.1 (by omega)) hr
      rw [if_pos (Or.inr this), if_pos hr]
theorem done_right {s : ByteArray} {t : Tree} {i : Nat} {wr ou fu : Bool} (h : rightT t = true) (h0 : (doneM s i wr ou fu t).2 = 0) : rightT (doneM s i wr ou fu t).1 = true := by
  unfold doneM at h0 ⊢
  split at h0
  · cases h0
  · rename_i h1
    rw [if_neg h1]
    split at h0
    · cases h0
    · rename_i h2
      rw [if_neg h2]
      split at h0
      · cases h0
      · rename_i h3
        rw [if_neg h3]
        exact h

set_option maxRecDepth 100000 in
set_option maxHeartbeats 4000000 in
theorem jparse_any (s : ByteArray) (w : World) : Calls Tryz.prog 23 #[.string s] w fun e w' => PostT (jparseM s.data.toList) w e w' ∧ ((jparseM s.data.toList).2 = 0 → rightT (jparseM s.data.toList).1 = true) := by
  have hlen : s.data.toList.length = s.size := by rw [Array.length_toList]; rfl
  by_cases c : 2000 < s.size
  · have e1 : decide ((2000 : Int) < (s.size : Int)) = true := by simp <;> omega
    have HP : Hid (jparseM s.data.toList = (zeT, 6)) := by show _ = _; unfold jparseM; rw [hlen, if_pos c]
    rw [HP.out]
    clear hlen HP
    go_enter Tryz.func23, Tryz.ntmps23
    go_wp2_with fail
    refine bodyPost_ret (v := .tuple #[PC.v ⟨0, ⟨none, 0, 0⟩, ⟨none, 0, 0⟩⟩, .int .i64 6]) ?_ rfl ⟨⟨_, rfl, HO_none 0, ?_⟩, fun h => by cases h⟩
    · simp [results, Tryz.results23, go_sem]
    · exact bel_alloc _ _
  · have e1 : decide ((2000 : Int) < (s.size : Int)) = false := by simp <;> omega
    have kp : ∀ (W : World) (b : Nat), BlkR W b s 0 false false false → Calls Tryz.prog 44 #[.pointer (some ⟨b, 0, none⟩)] W fun e w' => PostR s b 0 false false false (jpatN (s.size + 1) (s.data.toList.drop 0)) W e w' := fun W b h => jreads_all (by omega) (s.size + 1) 0 false false false W (Nat.zero_le _) (by omega) h
    have HC : Hid (¬ 2000 < s.size) := c
    have HQ0 : QP w (w.alloc (.cells #[.int .i64 0, .slice none 0 0, .slice none 0 0] 26)) := ⟨bel_alloc _ _, Blk.new _ _ _⟩
    have HQ : Hid (QP w (w.alloc (.cells #[.int .i64 0, .slice none 0 0, .slice none 0 0] 26))) := HQ0
    clear hlen c HQ0
    go_enter Tryz.func23, Tryz.ntmps23
    go_wp2_with (first
      | (go_at_call 25; refine (newReader_any s _).mono ?_; rintro _ w2 ⟨rfl, bb2⟩; have Q2 : Hid (QP w w2) := HQ.out.go bb2; have Q3 : Hid (QP w (w2.alloc (.cells #[.string s, .int .i64 0, .bool false, .bool false, .bool false] 80))) := Q2.out.go (bel_alloc _ _); have R3 : Hid (BlkR (w2.alloc (.cells #[.string s, .int .i64 0, .bool false, .bool false, .bool false] 80)) w2.heap.size s 0 false false false) := ⟨80, Blk.new _ _ _⟩; clear bb2)
      | (go_at_call 44; refine (kp _ _ R3.out).mono ?_; rintro _ w4 ⟨⟨r0, ⟨r1, r2, r3⟩, r4, r5, r6⟩, t4, i4, wr4, ou4, fu4, rfl, ho4, hk4, ex4, b4, _, le5, d4⟩; have N4 : Hid (w.heap.size < w2.heap.size) := Q2.out.res.lt; have Q4 : Hid (QP w w4) := ⟨ex4.toBel Q3.out.bel (Nat.le_of_lt N4.out), Blk.ex ex4 Q3.out.res (by have := N4.out; omega)⟩; have H4 : Hid (HO (fun g => w.heap.size + 1 ≤ g ∧ g < w4.heap.size) w4 t4 ⟨r0, ⟨r1, r2, r3⟩, r4, r5, r6⟩) := ho4.low (by have := N4.out; simp; omega); have K4 : Hid (rightT t4 = true) := hk4; have B4 : Hid (BlkR w4 w2.heap.size s i4 wr4 ou4 fu4) := b4; have D4 : Hid (doneM s i4 wr4 ou4 fu4 t4 = jparseM s.data.toList) := done_jun HC.out le5 d4; clear ho4 hk4 ex4 b4 le5 d4)
      | (go_at_call 26; refine (done_any (P := fun g => w.heap.size + 1 ≤ g ∧ g < w4.heap.size) B4.out (fun g hg => hg.2) H4.out).mono ?_; rintro _ w5 ⟨⟨u0, ⟨u1, u2, u3⟩, u4, u5, u6⟩, rfl, ho5, bb5⟩; have Q5 : Hid (QP w w5) := Q4.out.go bb5; have H5 : Hid (HO (fun g => w.heap.size + 1 ≤ g ∧ g < w5.heap.size) w5 (doneM s i4 wr4 ou4 fu4 t4).1 ⟨u0, ⟨u1, u2, u3⟩, u4, u5, u6⟩) := ho5.imp' (fun g hg => ⟨hg.1, Nat.lt_of_lt_of_le hg.2 bb5.size⟩); obtain ⟨y0, y1, y2⟩ := BlkT.cs Q5.out.res; have z0 := Q5.out.res.frozen; clear ho5 bb5))
    rw [← D4.out]
    refine bodyPost_ret (v := .tuple #[PC.v ⟨u0, ⟨u1, u2, u3⟩, ⟨u4, u5, u6⟩⟩, .int .i64 (doneM s i4 wr4 ou4 fu4 t4).2]) ?_ rfl ⟨⟨⟨u0, ⟨u1, u2, u3⟩, u4, u5, u6⟩, rfl, HO.same (fun g hg => ⟨by omega, by simpa using hg.2⟩) (fun g hg => heap_set3 (by omega) _ _ _) H5.out, set3_bel Q5.out.bel (Nat.le_refl _) _ _ _⟩, done_right K4.out⟩
    have B := blk_put3 Q5.out.res ⟨u0, ⟨u1, u2, u3⟩, u4, u5, u6⟩
    simp only at B
    generalize hW7 : World.setCell _ _ _ = W7 at B ⊢
    obtain ⟨b0, b1, b2⟩ := BlkT.cs B
    simp only at b0 b1 b2
    simp [results, Tryz.results23, go_sem, b0, b1, b2]

end Go.Proofs.YtjjlkjfhhpogaaaGreatDoor
