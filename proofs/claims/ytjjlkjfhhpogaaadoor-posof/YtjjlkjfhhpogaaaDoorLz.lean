/-
  What the laws of layer 8 share: a law's world, what Of and Empty answer, ends of paths, where lists lie.
-/
import Derived.Test.YtjjlkjfhhpogaaaDoorRv
import Derived.Test.YtjjlkjfhhpogaaaDoorIt
import Derived.Test.YtjjlkjfhhpogaaaDoorMa
import Derived.Test.YtjjlkjfhhpogaaaDoorTm
namespace Go.Proofs.YtjjlkjfhhpogaaaDoor
open Go.RowKit

/-- A law's world: nothing old has turned, the pattern lies in its box. -/
structure BX (w : World) (x : PC) (W : World) : Prop where
  bel : Below w.heap.size w W
  box : Blk W w.heap.size (encT x).toArray 25
theorem BX.go {w : World} {x : PC} {W W' : World} (h : BX w x W) (g : Below W.heap.size W W') : BX w x W' := ⟨bstep h.bel g, h.box.bel g⟩
theorem Tab.bel {w w' : World} (h : Tab w) (k : Below w.heap.size w w') : Tab w' := h.same (k.block 0 h.lt)
theorem bool_of (p : Prop) : ∃ q : Bool, q = true ↔ p := by
  by_cases h : p
  · exact ⟨true, by simp [h]⟩
  · exact ⟨false, by simp [h]⟩
theorem bool_same {q q' : Bool} {p : Prop} (h : q = true ↔ p) (h' : q' = true ↔ p) : q = q' := by
  cases q <;> cases q' <;> simp_all

mutual
theorem sets_small : ∀ (t : Tree), kindsT t = true → ∀ s ∈ setsT t, s.length ≤ 256
  | .mk k set subs, h => by
    rw [kindsT_mk] at h
    simp only [Bool.and_eq_true] at h
    rw [setsT_mk]
    by_cases h1 : k = 1
    · rw [if_pos h1]
      rcases okAlone_cases h.1 with ⟨_, _, h3⟩ | ⟨e, _⟩ | ⟨e, _⟩ | ⟨e, _⟩
      · intro s hs
        simp at hs
        subst hs
        exact h3
      · omega
      · omega
      · omega
    · rw [if_neg h1]
      exact setsL_small subs h.2
theorem setsL_small : ∀ (ts : List Tree), kindsL ts = true → ∀ s ∈ setsL ts, s.length ≤ 256
  | [], _ => by rw [setsL_nil]; simp
  | t :: ts, h => by
    rw [kindsL_cons] at h
    simp only [Bool.and_eq_true] at h
    rw [setsL_cons]
    intro s hs
    rcases List.mem_append.1 hs with hs | hs
    · exact sets_small t h.1 s hs
    · exact setsL_small ts h.2 s hs
end
theorem IsPos.small {t : Tree} {sets : List (List (Int × Int))} {rows : List (List Nat)} {Lf Ll : List Nat} (h : IsPos t sets rows Lf Ll) {N : Nat} (hs : ∀ s ∈ setsT t, s.length ≤ N) : ∀ m ∈ sets, m.length ≤ N := fun m hm => by
  obtain ⟨i, hi⟩ := List.mem_iff_getElem?.1 hm
  obtain ⟨s, hs1⟩ : ∃ s, (setsT t)[i]? = some s := ⟨_, List.getElem?_eq_getElem (by have := (List.getElem?_eq_some_iff.1 hi).1; have := h.sts.1; omega)⟩
  obtain ⟨m', h1, h2⟩ := h.sts.2 i s hs1
  rw [hi] at h1
  injection h1 with h1
  subst h1
  exact Nat.le_trans h2.2.2 (hs s (List.mem_of_getElem? hs1))

/-- What Of answers of a pattern that is right; of one that isn't. -/
theorem of_right (kn : KN) (t : Tree) (x : PC) (w : World) (hok : okT t) (hg : goodT t) (hx : HT w t x) (hr : rightT t = true) (E : Bool) (hE : E = emp t) :
    Calls Tryd.prog 33 #[x.v] w fun e w' => ∃ (sv fv fi la : Sl) (ss rs : List Sl) (sets : List (List (Int × Int))) (rows : List (List Nat)) (Lf Ll : List Nat),
      e = .returned (.tuple #[.agg #[.slice sv.a sv.n sv.c, .bool E, .slice fi.a fi.n fi.c, .slice la.a la.n la.c, .slice fv.a fv.n fv.c], .int .i64 0]) ∧ HP w' sv fv fi la ss rs sets rows Lf Ll ∧ IsPos t sets rows Lf Ll ∧ Below w.heap.size w w' :=
  (of_any kn t x w hok hg hx).mono fun e w' h => by
    obtain ⟨hb, ⟨h1, _⟩ | ⟨_, sv, fv, fi, la, ss, rs, sets, rows, Lf, Ll, rfl, hp, ip⟩⟩ := h
    · rw [hr] at h1; cases h1
    · exact ⟨sv, fv, fi, la, ss, rs, sets, rows, Lf, Ll, by rw [hE]; rfl, hp, ip, hb⟩
theorem of_wrong (kn : KN) (t : Tree) (x : PC) (w : World) (hok : okT t) (hg : goodT t) (hx : HT w t x) (hr : rightT t = false) :
    Calls Tryd.prog 33 #[x.v] w fun e w' => e = .returned (.tuple #[.agg #[.slice none 0 0, .bool false, .slice none 0 0, .slice none 0 0, .slice none 0 0], .int .i64 4]) ∧ Below w.heap.size w w' :=
  (of_any kn t x w hok hg hx).mono fun e w' h => by
    obtain ⟨hb, ⟨_, rfl⟩ | ⟨h1, _⟩⟩ := h
    · exact ⟨rfl, hb⟩
    · rw [hr] at h1; cases h1

/-- What is held of a pattern that is right. -/
theorem right_facts {t : Tree} (hr : rightT t = true) : kindsT t = true ∧ size t ≤ 200 := ⟨(right_parts hr).2.2, (right_parts hr).1⟩

/-- alive is true. -/
def ALIVE : Prop := ∀ W, Tab W → Calls Tryd.prog 32 #[] W fun e w' => e = .returned (.bool true) ∧ Below W.heap.size W w'

set_option maxHeartbeats 2000000 in
theorem empty_any (t : Tree) (x : PC) (w : World) (hok : okT t) (hx : HT w t x) (hT : Tab w) :
    Calls Tryd.prog 21 #[x.v] w fun e w' => (∃ q : Bool, e = .returned (.bool q) ∧ (q = true ↔ matchP t [])) ∧ Gr w w' := by
  have km := fun W h1 h2 => match_any t x (.slice none 0 0) [] W hok h1 (RowX.nil _ _ _) h2 (by simp)
  have HX : Hid (HT w t x) := hx
  have HTb : Hid (Tab w) := hT
  obtain ⟨xk, ⟨x1, x2, x3⟩, x4, x5, x6⟩ := x
  clear hx hT
  go_enter Tryd.func21, Tryd.ntmps21
  go_wp2_with (go_at_call 19; refine (km _ (HX.out.gr ((Gr.refl _).alloc _)) (HTb.out.gr ((Gr.refl _).alloc _))).mono ?_; rintro _ w2 ⟨⟨q, rfl, hq⟩, gw⟩; have HQ : Hid (q = true ↔ matchP t []) := hq; have G2 : Hid (Gr w w2) := ((Gr.refl _).alloc _).trans gw; clear hq gw)
  go_ret
  exact ⟨⟨q, rfl, HQ.out⟩, G2.out⟩

/-- A bool tells whether. -/
def Tells (q : Bool) (p : Prop) : Prop := q = true ↔ p

theorem Run.ends {F S : Nat → Nat → Prop} {i j p q : Nat} (r : Run F S i j p q) : S p i ∧ S q (j - 1) ∧ i < j := by
  induction r with
  | one h => exact ⟨h, by simpa using h, by omega⟩
  | step _ _ h3 ih => exact ⟨ih.1, by simpa using h3, by omega⟩

/-- One of the first k positions of a list takes x. -/
def Hits (sets : List (List (Int × Int))) (Ls : List Nat) (k : Nat) (x : Int) : Prop := ∃ i p m, i < k ∧ Ls[i]? = some p ∧ sets[p]? = some m ∧ inSet m x = true

theorem hits_step {sets : List (List (Int × Int))} {Ls : List Nat} {k p : Nat} {x : Int} {m : List (Int × Int)} {c c' : Bool} (h : Tells c (Hits sets Ls k x)) (hp : Ls[k]? = some p) (hm : sets[p]? = some m) (hc : c' = (c || inSet m x)) : Tells c' (Hits sets Ls (k + 1) x) := by
  unfold Tells at h ⊢
  rw [hc, Bool.or_eq_true, h]
  constructor
  · rintro (⟨i, q, m', h1, h2⟩ | h1)
    · exact ⟨i, q, m', by omega, h2⟩
    · exact ⟨k, p, m, by omega, hp, hm, h1⟩
  · rintro ⟨i, q, m', h1, h2, h3, h4⟩
    by_cases e : i = k
    · subst e
      rw [hp] at h2
      injection h2 with h2
      subst h2
      rw [hm] at h3
      injection h3 with h3
      subst h3
      exact Or.inr h4
    · exact Or.inl ⟨i, q, m', by omega, h2, h3, h4⟩

theorem pos_ends {t : Tree} {sets : List (List (Int × Int))} {rows : List (List Nat)} {Lf Ll : List Nat} (ip : IsPos t sets rows Lf Ll) {l : List Int} (h : matchP t l) {a z : Int} (ha : l[0]? = some a) (hz : l[l.length - 1]? = some z) :
    Hits sets Lf Lf.length a ∧ Hits sets Ll Ll.length z := by
  obtain ⟨h1, h2, h3⟩ := h
  rw [takes_reach t (right_facts h1).1 l (by intro e; rw [e] at ha; simp at ha)] at h3
  obtain ⟨q, ⟨p, hr, hf⟩, hl⟩ := h3
  obtain ⟨e1, e2, _⟩ := hr.ends
  obtain ⟨m1, g1, g2⟩ := (ip.sat ha p).1 e1
  obtain ⟨m2, g3, g4⟩ := (ip.sat hz q).1 e2
  obtain ⟨i, hi⟩ := List.mem_iff_getElem?.1 ((ip.lf.2 p).2 hf)
  obtain ⟨j, hj⟩ := List.mem_iff_getElem?.1 ((ip.ll.2 q).2 hl)
  exact ⟨⟨i, p, m1, (List.getElem?_eq_some_iff.1 hi).1, hi, g1, g2⟩, ⟨j, q, m2, (List.getElem?_eq_some_iff.1 hj).1, hj, g3, g4⟩⟩

theorem IsPos.lt {t : Tree} {sets : List (List (Int × Int))} {rows : List (List Nat)} {Lf Ll : List Nat} (ip : IsPos t sets rows Lf Ll) {p : Nat} (h : p ∈ Lf ∨ p ∈ Ll) : p < sets.length := by
  have e := ip.sts.1
  rw [setsT_len] at e
  rcases h with h | h
  · have := (Fir.in_ ((ip.lf.2 p).1 h)).2; omega
  · have := (Las.in_ ((ip.ll.2 p).1 h)).2; omega

theorem HP.nums {w : World} {sv fv fi la : Sl} {ss rs : List Sl} {sets : List (List (Int × Int))} {rows : List (List Nat)} {Lf Ll : List Nat} (h : HP w sv fv fi la ss rs sets rows Lf Ll) : sv.n = sets.length ∧ fv.n = rows.length ∧ fi.n = Lf.length ∧ la.n = Ll.length := by
  refine ⟨?_, ?_, ?_, ?_⟩
  · obtain ⟨_, _, e⟩ := h.so.form
    injection e with _ e _
    rw [e, h.sl]
  · obtain ⟨_, _, e⟩ := h.fo.form
    injection e with _ e _
    rw [e, h.rl]
  · obtain ⟨_, _, e⟩ := h.hf.form
    injection e with _ e _
  · obtain ⟨_, _, e⟩ := h.hl.form
    injection e with _ e _

/-- Where a set lies. -/
theorem HP.setAt {w : World} {sv fv fi la : Sl} {ss rs : List Sl} {sets : List (List (Int × Int))} {rows : List (List Nat)} {Lf Ll : List Nat} (h : HP w sv fv fi la ss rs sets rows Lf Ll) {p : Nat} {m : List (Int × Int)} (hm : sets[p]? = some m) :
    ∃ (s : Sl) (b off : Nat), sv.a = some ⟨b, off, none⟩ ∧ b < w.heap.size ∧ w.cell? ⟨b, off + p, none⟩ = some (.slice s.a s.n s.c) ∧ RowS w (.slice s.a s.n s.c) m := by
  obtain ⟨s, hs⟩ : ∃ s, ss[p]? = some s := ⟨_, List.getElem?_eq_getElem (by have := (List.getElem?_eq_some_iff.1 hm).1; have := h.sl; omega)⟩
  obtain ⟨b, off, e, hb, hc⟩ := h.so.at hs
  have := hc 0 _ rfl
  simp only [Nat.mul_one, Nat.add_zero] at this
  exact ⟨s, b, off, e, hb, this, h.se p s m hs hm⟩

theorem cell_gr {w : World} {a : Addr} {v : Value} (ha : a.block < w.heap.size) (h : w.cell? a = some v) (n : Nat) (os : Array Obj) : (Sort.grow (w.drewN n) os).cell? a = some v :=
  ((Gr.below (⟨n, os, rfl⟩ : Gr w _)).cell ha).trans h


theorem IsPos.lens {t : Tree} {sets : List (List (Int × Int))} {rows : List (List Nat)} {Lf Ll : List Nat} (ip : IsPos t sets rows Lf Ll) (hr : rightT t = true) : sets.length ≤ 200 ∧ rows.length ≤ 200 ∧ Lf.length ≤ 200 ∧ Ll.length ≤ 200 := by
  have h1 := ones_le 200 t (right_facts hr).2
  have h2 := (right_facts hr).2
  have h3 := ip.sts.1
  have h4 := ip.rws.1
  rw [setsT_len] at h3 h4
  refine ⟨by omega, by omega, rises_len ip.lf.1 fun j hj => ?_, rises_len ip.ll.1 fun j hj => ?_⟩
  · have := (Fir.in_ ((ip.lf.2 j).1 hj)).2; omega
  · have := (Las.in_ ((ip.ll.2 j).1 hj)).2; omega

end Go.Proofs.YtjjlkjfhhpogaaaDoor
