/- Len, ShapeOf, Tag, Get, IsRef, Used, All of the document's own heap: walked. -/
import Derived.Test.YtbdeflpjplhafaaUB
namespace Go.Proofs.Ytbdeflpjplhafaa.J
open Go.RowKit Go.MapKept Go.ChangeMaps
set_option linter.unusedVariables false

variable {n0 : Nat} {w : World} {R : RB} {most : Nat} {l : List Ob} {ss : List (List Bool)}
set_option maxRecDepth 8000 in
theorem ulen_any (h : RV n0 w R most l ss) (v : Int) : Calls Try.prog 27 #[R.ptr, .int .i64 v] w fun e w' => e = .returned (.int .i64 (lenZ l v)) ∧ w' = w := by
  unfold lenZ
  cases e : objZ l v with
  | none =>
    have G := hidIt (ufind_none h v e)
    unfold RB.ptr at G ⊢
    clear h e
    go_enter Try.func27, Try.ntmps27
    go_wp2_with (go_at_call 47; refine G.out.mono ?_; rintro e w' ⟨rfl, hww⟩; cases hww)
    go_ret
    exact ⟨rfl, rfl⟩
  | some o =>
    obtain ⟨i, hi, rfl⟩ := objZ_idx e
    obtain ⟨g, cap, u, el, hu, c0, c1, c2, c3, -⟩ := h.obj hi
    have G := hidIt (ufind_some h hi el)
    obtain ⟨uo, uc, eu⟩ := own_slice (h.fo i u o hu hi)
    subst eu
    unfold RB.ptr at G ⊢
    clear h e hu el hi c0
    generalize (usedN (l.take i) : Int) + 1 = v at *
    go_enter Try.func27, Try.ntmps27
    go_wp2_with (go_at_call 47; refine G.out.mono ?_; rintro e w' ⟨rfl, hww⟩; cases hww)
    go_ret
    exact ⟨rfl, rfl⟩
/-- Where a field of the document's own object lies. -/
theorem RV.field (h : RV n0 w R most l ss) {v n : Int} (hn : hasZ l v n = true) : ∃ (i k : Nat) (o : Ob) (g cap fb uc : Nat), l[i]? = some o ∧ v = (usedN (l.take i) : Int) + 1 ∧ n = (k : Int) ∧ k < o.f.length ∧ R.lv = .slice (some ⟨g, 0, none⟩) l.length cap ∧ R.fvs[i]? = some (.slice (some ⟨fb, 0, none⟩) o.f.length uc) ∧ w.cell? ⟨g, i * 4 + 1, none⟩ = some (.int .i64 o.sh) ∧ w.cell? ⟨g, i * 4 + 2, none⟩ = some (.slice (some ⟨fb, 0, none⟩) o.f.length uc) ∧ w.cell? ⟨fb, k, none⟩ = some (.int .i64 (getZ l v n)) ∧ w.frozen? ⟨fb, k, none⟩ = false ∧ o.f.length ≤ 16384 := by
  obtain ⟨o, e, h0, h1⟩ := hasZ_some hn
  obtain ⟨i, hi, rfl⟩ := objZ_idx e
  obtain ⟨g, cap, u, el, hu, c0, c1, c2, c3, -⟩ := h.obj hi
  obtain ⟨uo, uc, eu⟩ := own_slice (h.fo i u o hu hi)
  have ho := h.fo i u o hu hi
  subst eu
  obtain ⟨x, hx⟩ : ∃ x, o.f[n.toNat]? = some x := ⟨o.f[n.toNat]'(by omega), List.getElem?_eq_getElem _⟩
  obtain ⟨fb, rfl, -, -, hc, hz⟩ := own_cell ho (icells_at hx)
  have hg : getZ l ((usedN (l.take i) : Int) + 1) n = x := by unfold getZ; rw [e]; simp [hx]
  have := usedN_take l i o hi
  have := h.few
  have := h.most
  exact ⟨i, n.toNat, o, g, cap, fb, uc, hi, rfl, by omega, by omega, el, hu, c1, c2, by rw [hg]; exact hc, hz, by omega⟩
end Go.Proofs.Ytbdeflpjplhafaa.J

