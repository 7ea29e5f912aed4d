/- The tables' two blocks are there. -/
import Derived.Test.YthagaldpopnoeaaGreatDoorKnown
namespace Go.Proofs.YthagaldpopnoeaaGreatDoor
open Go.RowKit
theorem two_of_tabs {w : World} (h : Tabs w) : 2 ≤ w.heap.size := by
  have h1 : ∃ u, w.cell? ⟨1, 0, none⟩ = some u := ⟨_, (h.2 0 (by decide)).1⟩
  obtain ⟨u, hu⟩ := h1
  apply Nat.lt_of_not_le
  intro hle
  have hn : w.heap[1]? = none := Array.getElem?_eq_none (by omega)
  simp [World.cell?, hn] at hu
end Go.Proofs.YthagaldpopnoeaaGreatDoor
