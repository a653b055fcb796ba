/-
  What the document's Norm does, in the words of the positions' texts.
-/
import Derived.Test.YtjjlkjfhhpogaaaDoorZx
import Derived.Test.YtjjlkjfhhpogaaaDoorKn
import Derived.Test.YtjjlkjfhhpogaaaDoorS1Set
namespace Go.Proofs.YtjjlkjfhhpogaaaDoor
open Go.RowKit

theorem rnk_any : RNK := fun v l W hl hg hv => (YtjjlkjfhhpogaaaDoorS1.rnorm_any v l W (by omega) hg (row2_of hv)).mono fun e w' h => by
  obtain ⟨u, m, rfl, h1, h2, h3, h4, h5⟩ := h
  have h6 : OwnX encS 2 78 W.heap.size w' u m := h4
  obtain ⟨ao, cap, rfl⟩ := h6.form
  exact ⟨⟨ao, m.length, cap⟩, m, rfl, ⟨h1, h2, h3⟩, h6, h5⟩

end Go.Proofs.YtjjlkjfhhpogaaaDoor
