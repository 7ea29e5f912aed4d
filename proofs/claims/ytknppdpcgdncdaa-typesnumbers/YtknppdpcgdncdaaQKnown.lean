/- Some of chapter 1's runs, as the law's helper 'known' asks them, come out true in whatever world. -/
import Derived.Test.YtknppdpcgdncdaaQEnc
import Derived.Test.YtknppdpcgdncdaaQDecC
namespace Go.Proofs.Ytknppdpcgdncdaa.Q
open Go.RowKit
/-- A view of bytes just laid. -/
theorem View.laid (w : World) (l : List Int) (hb : AllBytes l) (hm : l.length ≤ maxLen) : View (w.alloc (.cells (bcells l).toArray 5)) (.slice (some ⟨w.heap.size, 0, none⟩) l.length l.length) l := by
  refine ⟨_, _, rfl, Nat.le_refl _, hm, hb, .inr ⟨_, _, rfl, fun j x hj => ?_⟩⟩
  have h := cell_of_row (w.alloc (.cells (bcells l).toArray 5)) w.heap.size (0 + j) (bcells l).toArray 5 (0, 0) (heap_alloc_new w _)
  rw [h]
  simp [bcells, hj]


end Go.Proofs.Ytknppdpcgdncdaa.Q
