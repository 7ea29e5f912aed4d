/- How a list of lists of truths that came in is seen by the walks. -/
import Derived.Test.YtepegebkjegjiaaJQ
import Derived.Test.YtepegebkjegjiaaJOp
namespace Go.Proofs.Ytepegebkjegjiaa.J
open Go.ChangeShapes Go.WideShapes Go.ChangeAt Go.RowKit Go.Deep

theorem celB : Try.prog.cellsOf 4 = 1 := by kernel_rfl
theorem celLB : Try.prog.cellsOf 31 = 1 := by kernel_rfl
set_option maxRecDepth 20000 in
theorem trod_bools {H : Type} {enc : TypeId × Value → H} {W : World} {fuel : Nat} {k : Value} {y : DataW H × List MemPlace}
    (ht : DataW.trod enc Try.prog W 0 (fun _ => true) true fuel 31 [k] = some y) : ∃ l, BView W k l := by
  rcases open_bools Try.underlying31 Try.underlying4 celB ht with ⟨e, _⟩ | ⟨a, len, cap, B, e, _, hl, hm, hx, hcell⟩
  · simp only [List.cons.injEq, and_true] at e
    subst e
    exact ⟨[], ⟨none, 0, rfl, Nat.le_refl _, by unfold maxLen; omega, .inl rfl⟩⟩
  · simp only [List.cons.injEq, and_true] at e
    subst e
    refine ⟨(List.range len).map B, some a, cap, by simp, by simpa using hl, hm, ?_⟩
    by_cases h0 : len = 0
    · left; simp [h0]
    · right
      have h00 := hcell 0 (by omega)
      obtain ⟨b, o, sp⟩ := a
      have hsp : sp = none := by
        have e : (⟨b, o, sp⟩ : Addr).add 0 = ⟨b, o, sp⟩ := by unfold Addr.add; simp
        rw [e] at h00
        exact cell_spot h00
      subst hsp
      refine ⟨b, o, rfl, fun j x hj => ?_⟩
      have hj1 : j < len := by
        have := (List.getElem?_eq_some_iff.1 hj).1
        simpa using this
      have hc := hcell j (by omega)
      rw [addr_add] at hc
      rw [hc]
      simp [hj1] at hj
      rw [hj]
set_option maxRecDepth 20000 in
theorem open_grid {H : Type} {enc : TypeId × Value → H} {W : World} {base : Nat} {v : Value} {d : DataW H} {p : List MemPlace} (hval : Value.okWide Try.prog W .any base 80 v)
    (h : DataW.Trod enc Try.prog W 0 (fun _ => true) true 80 v d p) : ∃ ls, GV W v ls := by
  obtain ⟨a, len, cap, rfl⟩ := okWide_slice Try.underlying80 hval
  obtain ⟨fuel, hf⟩ := h
  obtain ⟨ao, c, l, e, hl⟩ := trod_list (R := fun w r x => ∃ u, r = [u] ∧ BView w u x) Try.underlying80 celLB (by decide) (fun n cs y ht => by
    obtain ⟨y1, y2⟩ := y
    have hlen : cs.length = 1 := by
      rcases DataW.trod_slice Try.underlying31 ht with ⟨rfl, _⟩ | ⟨_, _, _, _, _, _, _, rfl, _⟩ <;> rfl
    match cs, hlen with
    | [k], _ =>
      obtain ⟨l, hl⟩ := trod_bools ht
      exact ⟨l, k, rfl, hl⟩) hf
  simp [Value.cells] at e
  obtain ⟨rfl, rfl, rfl⟩ := e
  obtain ⟨h1, h2, rows, h3, h4⟩ := hl
  refine ⟨l, a, cap, rfl, h1, h2, ?_⟩
  by_cases h0 : l = []
  · exact .inl h0
  · obtain ⟨b, off, e, hlt, hc⟩ := h3 (by cases l; exact absurd rfl h0; simp)
    refine .inr ⟨b, off, e, fun j x hj => ?_⟩
    obtain ⟨u, e1, e2⟩ := h4 j x hj
    have := hc j (List.getElem?_eq_some_iff.1 hj).1 0 u (by rw [e1]; rfl)
    exact ⟨u, by simpa using this, e2⟩
end Go.Proofs.Ytepegebkjegjiaa.J

