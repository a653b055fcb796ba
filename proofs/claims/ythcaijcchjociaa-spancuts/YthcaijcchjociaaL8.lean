/-
  The walk of the law SpanCuts, with slices.Sort known to sort.
-/
import Derived.Test.YthcaijcchjociaaL7
import Derived.Test.YthcaijcchjociaaL5
namespace Go.Proofs.Ythcaijcchjociaa
open Go.RowKit

theorem law_cuts (v : Value) (L : List (List Sp)) (w : World) (hg : GoodS L) (hv : RowS w v L) :
    Calls Try.prog 7 #[v] w fun e w' => e = .returned (.bool true) ∧ Below w.heap.size w w' :=
  law_cuts_of sorts10000 v L w hg hv
end Go.Proofs.Ythcaijcchjociaa
