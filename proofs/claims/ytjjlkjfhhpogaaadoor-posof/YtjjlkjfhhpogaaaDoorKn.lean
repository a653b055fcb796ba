/-
  What span.Norm does, in the words of the positions' texts.
-/
import Derived.Test.YtjjlkjfhhpogaaaDoorXp
import Derived.Test.YtjjlkjfhhpogaaaDoorS1Norm
namespace Go.Proofs.YtjjlkjfhhpogaaaDoor
open Go.RowKit

theorem row2_of {w : World} {v : Value} {l : List (Int × Int)} (h : RowS w v l) : YtjjlkjfhhpogaaaDoorS1.Row2 w v l := by
  obtain ⟨ao, cap, rfl, hc, hz⟩ := h
  refine ⟨ao, cap, rfl, fun hne => ?_, hz⟩
  obtain ⟨b, off, rfl, hb, hcell⟩ := hc hne
  exact ⟨b, off, rfl, hb, fun i x hx => ⟨hcell i x hx 0 _ rfl, hcell i x hx 1 _ rfl⟩⟩

theorem kn_any : KN := fun v l W hl hg hv => (YtjjlkjfhhpogaaaDoorS1.norm_own v l W (by omega) hg (row2_of hv)).mono fun e w' h => by
  obtain ⟨u, m, rfl, h1, h2, h3, h4, h5⟩ := h
  have h6 : OwnX encS 2 78 W.heap.size w' u m := h4
  obtain ⟨ao, cap, rfl⟩ := h6.form
  exact ⟨⟨ao, m.length, cap⟩, m, rfl, ⟨h1, h2, h3⟩, h6, h5⟩

end Go.Proofs.YtjjlkjfhhpogaaaDoor
