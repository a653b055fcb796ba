/-
  A region that draws its order, whose callees draw and lay blocks, whose guards may be off: walked once.
-/
import Derived.Test.YtdilnelfkbeamaaW4
namespace Go.Proofs.Ytdilnelfkbeamaa
open Go.RowKit

/-- A shut word: nothing looks inside. -/
structure Bx (p : Prop) : Prop where
  out : p

theorem wpQuiet_stepB {P : Program} {ops : Array Oper} {C : World → Prop} {Q : Act → Prop} {a : Act} {o : Oper} {rest : List Oper}
    (h : ∀ K : Act → Prop, (∀ a, Bx (wpQuiet P ops C Q rest a) → K a) → if Region.wanted o (yielded ops a.tmps) then o.quiet P a C K else K (a.put o.dst undef)) : Bx (wpQuiet P ops C Q (o :: rest) a) :=
  ⟨wpQuiet_step fun K hK => h K fun a ha => hK a ha.out⟩

theorem wpQuiet_nilB {P : Program} {ops : Array Oper} {C : World → Prop} {Q : Act → Prop} {a : Act} (h : Q a) : Bx (wpQuiet P ops C Q [] a) := ⟨wpQuiet_nil h⟩

theorem wp_region_quiet_grownB {P : Program} {id : Nat} {Q : Exit → Act → World → Prop} {a : Act} {w : World} {l : List Oper} (hm : P.follows .mixedOrders = true) (hB : Region.lexB .any l.toArray = true)
    (h : Bx (wpQuiet P l.toArray (fun w' => ∃ p : GrownBy, w' = Sort.grow (w.drewN p.n) p.os) (fun a' => ∀ w', (∃ p : GrownBy, w' = Sort.grow (w.drewN p.n) p.os) → Q .normal a' w') l a)) : (Code.region id l.toArray true).wp P Q a w := wp_region_quiet_grown hm hB h.out

end Go.Proofs.Ytdilnelfkbeamaa
