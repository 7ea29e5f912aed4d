/- HeapShapes: walked. -/
import Derived.Test.YtbdeflpjplhafaaJP
import Derived.Test.YtbdeflpjplhafaaJL
import Derived.Deep.CutRange
namespace Go.Proofs.Ytbdeflpjplhafaa.J
open Go.RowKit Go.MapKept Go.ChangeMaps
set_option linter.unusedVariables false

theorem hp_shape {n0 : Nat} {w : World} {p most : Nat} {l : List Ob} {ss : List (List Bool)} (h : Hp n0 w p most l ss) (v : Value) (r : List Bool) (hv : BView w v r) (hr : r.length ≤ 100000) (hs : ss.length ≤ 100000) : Calls Try.prog 20 #[.pointer (some ⟨p, 0, none⟩), v] w fun e w' => e = .returned (.int .i64 (numS ss r : Int)) ∧ Hp n0 w' p most l (addS ss r) ∧ HpS n0 w w' := by
  have hlo := h.lo
  obtain ⟨H, rfl, h⟩ := h
  cases e : idxS ss r with
  | some i => exact (Shape_old h v r hv hr i e).mono fun _ w' ⟨e1, e2⟩ => ⟨by rw [e1]; unfold numS; rw [e], ⟨H, rfl, by unfold addS; rw [e]; exact h.below e2⟩, HpS.of_below hlo e2⟩
  | none => exact (Shape_new h v r hv hr hs e).mono fun _ w' ⟨e1, H', e2, e3⟩ => ⟨by rw [e1]; unfold numS; rw [e], ⟨H', e3.hb, e2⟩, HpS.of h e3⟩
theorem addS_nodup {ss : List (List Bool)} (h : ss.Nodup) (r : List Bool) : (addS ss r).Nodup := by
  unfold addS
  cases e : idxS ss r with
  | some i => exact h
  | none =>
    have := idxS_none e
    rw [List.nodup_append]
    exact ⟨h, by simp, fun a ha b hb => by
      obtain rfl : b = r := by simpa using hb
      intro e; subst e; exact this ha⟩
theorem numS_le (ss : List (List Bool)) (r : List Bool) : numS ss r ≤ ss.length := by
  unfold numS
  cases e : idxS ss r with
  | some i => exact Nat.le_of_lt (List.getElem?_eq_some_iff.1 (idxS_some e)).1
  | none => exact Nat.le_refl _
theorem nodup_at {α : Type} {l : List α} (h : l.Nodup) {i j : Nat} {x : α} (hi : l[i]? = some x) (hj : l[j]? = some x) : i = j := by
  obtain ⟨h1, e1⟩ := List.getElem?_eq_some_iff.1 hi
  obtain ⟨h2, e2⟩ := List.getElem?_eq_some_iff.1 hj
  rw [List.nodup_iff_pairwise_ne, List.pairwise_iff_getElem] at h
  rcases Nat.lt_trichotomy i j with hl | hl | hl
  · exact absurd (e1.trans e2.symm) (h i j h1 h2 hl)
  · exact hl
  · exact absurd (e2.trans e1.symm) (h j i h2 h1 hl)
theorem numS_iff {ss : List (List Bool)} (h : ss.Nodup) {r s : List Bool} {m : Nat} (hm : ss[m]? = some s) : (m = numS ss r) ↔ (r = s) := by
  constructor
  · intro e
    have h1 := addS_at ss r
    rw [← e, addS_old hm] at h1
    exact (Option.some.inj h1).symm
  · intro e
    subst e
    exact nodup_at (addS_nodup h r) (addS_old hm) (addS_at ss r)
end Go.Proofs.Ytbdeflpjplhafaa.J

