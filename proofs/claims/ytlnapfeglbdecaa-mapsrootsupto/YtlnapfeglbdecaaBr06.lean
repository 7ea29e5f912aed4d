/- Texts FGa FOp. -/
import Derived.Test.YtlnapfeglbdecaaBr02
import Derived.Test.YtlnapfeglbdecaaBr01
import Derived.Test.YtlnapfeglbdecaaRows
import Derived.ProofKit
import Derived.OpenShut
import Derived.SliceStrings
import Derived.Lib.LaidU8
import Derived.ChangeOld
import Derived.Below
namespace Go.Proofs.Ytlnapfeglbdecaa
open Go.RowKit

def GView {α : Type} (k : Nat) (f : α → List Value) (w : World) (v : Value) (l : List α) : Prop :=
  ∃ ao cap, v = .slice ao l.length cap ∧ l.length ≤ cap ∧ cap ≤ maxLen ∧ (l = [] ∨ ∃ g off, ao = some ⟨g, off, none⟩ ∧ ∀ (j : Nat) (x : α), l[j]? = some x → ∀ (i : Nat) (u : Value), (f x)[i]? = some u → w.cell? ⟨g, off + j * k + i, none⟩ = some u)
theorem GView.below {α : Type} {k : Nat} {f : α → List Value} {w w' : World} {v : Value} {l : List α} (h : GView k f w v l) (hb : Below w.heap.size w w') : GView k f w' v l := by
  obtain ⟨ao, cap, e, hc, hm, hl⟩ := h
  refine ⟨ao, cap, e, hc, hm, ?_⟩
  rcases hl with h | ⟨g, off, e, hl⟩
  · exact .inl h
  · exact .inr ⟨g, off, e, fun j x hj i u hu => cell_later hb (hl j x hj i u hu)⟩
theorem GView.take {α : Type} {k n m cap : Nat} {f : α → List Value} {w : World} {ao : Option Addr} {l : List α} (h : GView k f w (.slice ao n cap) l) (hm : m ≤ n) : GView k f w (.slice ao m cap) (l.take m) := by
  obtain ⟨ao', cap', e, hc, hmx, hl⟩ := h
  cases e
  have hlen : (l.take m).length = m := by rw [List.length_take]; omega
  refine ⟨ao, cap, by rw [hlen], by rw [hlen]; omega, hmx, ?_⟩
  rcases hl with h | ⟨g, off, e, hl⟩
  · exact .inl (by rw [h]; simp)
  · refine .inr ⟨g, off, e, fun j x hj => hl j x ?_⟩
    have hlt := (List.getElem?_eq_some_iff.1 hj).1
    rw [hlen] at hlt
    rwa [List.getElem?_take, if_pos hlt] at hj
theorem HView.g {w : World} {v : Value} {l : List HN} (h : HView w v l) : GView 4 hrow w v l := by
  obtain ⟨ao, cap, e, hc, hm, hl⟩ := h
  refine ⟨ao, cap, e, hc, hm, ?_⟩
  rcases hl with h | ⟨g, off, e, hl⟩
  · exact .inl h
  · refine .inr ⟨g, off, e, fun j x hj i u hu => ?_⟩
    obtain ⟨c0, c1, c2, c3⟩ := hl j x hj
    match i, hu with
    | 0, hu => cases hu; exact c0
    | 1, hu => cases hu; exact c1
    | 2, hu => cases hu; exact c2
    | 3, hu => cases hu; exact c3
theorem GView.h {w : World} {v : Value} {l : List HN} (h : GView 4 hrow w v l) : HView w v l := by
  obtain ⟨ao, cap, e, hc, hm, hl⟩ := h
  refine ⟨ao, cap, e, hc, hm, ?_⟩
  rcases hl with h | ⟨g, off, e, hl⟩
  · exact .inl h
  · exact .inr ⟨g, off, e, fun j x hj => ⟨hl j x hj 0 _ rfl, hl j x hj 1 _ rfl, hl j x hj 2 _ rfl, hl j x hj 3 _ rfl⟩⟩
theorem FView.g {w : World} {v : Value} {l : List FN} (h : FView w v l) : GView 3 frow w v l := by
  obtain ⟨ao, cap, e, hc, hm, hl⟩ := h
  refine ⟨ao, cap, e, hc, hm, ?_⟩
  rcases hl with h | ⟨g, off, e, hl⟩
  · exact .inl h
  · refine .inr ⟨g, off, e, fun j x hj i u hu => ?_⟩
    obtain ⟨c0, c1, c2⟩ := hl j x hj
    match i, hu with
    | 0, hu => cases hu; exact c0
    | 1, hu => cases hu; exact c1
    | 2, hu => cases hu; exact c2
theorem GView.f {w : World} {v : Value} {l : List FN} (h : GView 3 frow w v l) : FView w v l := by
  obtain ⟨ao, cap, e, hc, hm, hl⟩ := h
  refine ⟨ao, cap, e, hc, hm, ?_⟩
  rcases hl with h | ⟨g, off, e, hl⟩
  · exact .inl h
  · exact .inr ⟨g, off, e, fun j x hj => ⟨hl j x hj 0 _ rfl, hl j x hj 1 _ rfl, hl j x hj 2 _ rfl⟩⟩
end Go.Proofs.Ytlnapfeglbdecaa
namespace Go.Proofs.Ytlnapfeglbdecaa.O
open Go.ChangeShapes Go.WideShapes Go.ChangeAt Go.RowKit
open Go.ChangeMaps (open_string shut_string)

end Go.Proofs.Ytlnapfeglbdecaa.O
