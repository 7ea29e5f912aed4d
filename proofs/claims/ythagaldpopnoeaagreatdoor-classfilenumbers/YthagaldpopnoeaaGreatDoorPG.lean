/- Small laws on rows and worlds, whatever the elements. -/
import Derived.Test.YthagaldpopnoeaaGreatDoorPV
namespace Go.Proofs.YthagaldpopnoeaaGreatDoor
open Go.RowKit

/-- A row stands where nothing old turned. -/
theorem gown_below {w w' : World} {B e s n : Nat} {v : Value} {xs : List Value} (h : w.ownsRow B e s v n xs) (hb : Below w.heap.size w w') : w'.ownsRow B e s v n xs := by
  refine ⟨h.1, ?_⟩
  rcases h.2 with x | ⟨g, cap, cur, rfl, hB, hg2, r⟩
  · exact .inl x
  · exact .inr ⟨g, cap, cur, rfl, hB, (hb.block g (Array.getElem?_eq_some_iff.1 hg2).1).trans hg2, r⟩
theorem gdrewed {B : Nat} {a w : World} (h : Below B a w) : Below B a w.drew := ⟨h.os, h.tape, h.output, h.size, h.block⟩
theorem gown_lt {w : World} {B e s n k : Nat} {v : Value} {xs : List Value} (h : w.ownsRow B e s v n xs) (hk : v.ownBlock = some k) : k < w.heap.size := (h.lt k hk).2
theorem gview_take {w : World} {ao : Option Addr} {n cap : Nat} {l : List CD} (h : CView w (.slice ao l.length cap) l) (hn : n ≤ l.length) : CView w (.slice ao n cap) (l.take n) := by
  obtain ⟨ao', cap', e, hc, hm, hk, hl⟩ := h
  cases e
  refine ⟨ao, cap, by rw [List.length_take, Nat.min_eq_left hn], by rw [List.length_take]; omega, hm, fun c hc => hk c (List.mem_of_mem_take hc), ?_⟩
  rcases hl with rfl | ⟨g, off, e, hl⟩
  · exact .inl (by simp)
  · refine .inr ⟨g, off, e, fun i c hi => hl i c ?_⟩
    rw [List.getElem?_take] at hi
    split at hi
    · exact hi
    · cases hi
theorem gset_row {w : World} {g j : Nat} {cur : Array Value} {T : TypeId} {u : Value} (h : w.heap[g]? = some (.cells cur T (0, 0))) : (w.setCell ⟨g, j, none⟩ u).heap[g]? = some (.cells (cur.setIfInBounds j u) T (0, 0)) := by
  simp only [World.setCell, Array.getElem?_modify, if_pos, h, Option.map_some]
  try simp
end Go.Proofs.YthagaldpopnoeaaGreatDoor
