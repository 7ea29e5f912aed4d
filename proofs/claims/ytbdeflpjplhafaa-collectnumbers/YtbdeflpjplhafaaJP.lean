/- Lists of truths side by side; a list of such lists. -/
import Derived.Test.YtbdeflpjplhafaaJO
namespace Go.Proofs.Ytbdeflpjplhafaa.J
open Go.RowKit Go.MapKept Go.ChangeMaps
set_option linter.unusedVariables false

/-- A list of lists of truths. -/
def GV (w : World) (v : Value) (ls : List (List Bool)) : Prop :=
  ∃ ao cap, v = .slice ao ls.length cap ∧ ls.length ≤ cap ∧ cap ≤ maxLen ∧ (ls = [] ∨ ∃ g off, ao = some ⟨g, off, none⟩ ∧ ∀ (j : Nat) (x : List Bool), ls[j]? = some x → ∃ u, w.cell? ⟨g, off + j, none⟩ = some u ∧ BView w u x)
theorem GV.below {w w' : World} {v : Value} {l : List (List Bool)} (h : GV w v l) (hb : Below w.heap.size w w') : GV w' v l := by
  obtain ⟨ao, cap, e, hc, hm, hl⟩ := h
  refine ⟨ao, cap, e, hc, hm, ?_⟩
  rcases hl with h | ⟨g, off, e, hl⟩
  · exact .inl h
  · exact .inr ⟨g, off, e, fun j x hj => by
      obtain ⟨u, h1, h2⟩ := hl j x hj
      exact ⟨u, cell_later hb h1, h2.below hb⟩⟩
theorem GV.row {w : World} {ao : Option Addr} {n cap : Nat} {l : List (List Bool)} (h : GV w (.slice ao n cap) l) {j : Nat} {x : List Bool} (hj : l[j]? = some x) : ∃ g off u, ao = some ⟨g, off, none⟩ ∧ w.cell? ⟨g, off + j, none⟩ = some u ∧ BView w u x := by
  obtain ⟨ao', cap', e, hc, hm, hl⟩ := h
  cases e
  rcases hl with rfl | ⟨g, off, rfl, hl⟩
  · simp at hj
  · obtain ⟨u, h1, h2⟩ := hl j x hj
    exact ⟨g, off, u, rfl, h1, h2⟩
theorem BView.take {w : World} {ao : Option Addr} {n cap : Nat} {l : List Bool} (h : BView w (.slice ao n cap) l) (k : Nat) (hk : k ≤ l.length) : BView w (.slice ao k cap) (l.take k) := by
  obtain ⟨ao', cap', e, hc, hm, hl⟩ := h
  cases e
  refine ⟨ao, cap, by rw [List.length_take, Nat.min_eq_left hk], by rw [List.length_take]; omega, hm, ?_⟩
  rcases hl with rfl | ⟨g, off, rfl, hl⟩
  · left; simp
  · refine .inr ⟨g, off, rfl, fun j x hj => hl j x ?_⟩
    rw [List.getElem?_take] at hj
    split at hj
    · exact hj
    · cases hj
theorem BView.drewN {w : World} {v : Value} {l : List Bool} (h : BView w v l) (q : Nat) : BView (w.drewN q) v l := h.below (below_drewN (Below.refl _ _) q)
end Go.Proofs.Ytbdeflpjplhafaa.J

