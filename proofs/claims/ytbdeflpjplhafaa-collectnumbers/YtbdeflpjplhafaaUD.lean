/- IsRef, Used, All of the document's own heap: walked. -/
import Derived.Test.YtbdeflpjplhafaaUC
namespace Go.Proofs.Ytbdeflpjplhafaa.J
open Go.RowKit Go.MapKept Go.ChangeMaps
set_option linter.unusedVariables false

variable {n0 : Nat} {w : World} {R : RB} {most : Nat} {l : List Ob} {ss : List (List Bool)}
theorem uisref_no (h : RV n0 w R most l ss) (v n : Int) (hn : hasZ l v n = false) : Calls Try.prog 28 #[R.ptr, .int .i64 v, .int .i64 n] w fun e w' => e = .returned (.bool false) ∧ ∃ q, w' = w.drewN q := by
  cases e : objZ l v with
  | none =>
    have G := hidIt (ufind_none h v e)
    unfold RB.ptr at G ⊢
    clear h e hn
    go_enter Try.func28, Try.ntmps28
    go_wp2_with (go_at_call 47; refine G.out.mono ?_; rintro e w' ⟨rfl, hww⟩; cases hww)
    go_ret
    exact ⟨rfl, 0, rfl⟩
  | some o =>
    have hn2 : ¬ (0 ≤ n ∧ n < (o.f.length : Int)) := fun ⟨a, b⟩ => by rw [hasZ_of e a b] at hn; cases hn
    obtain ⟨i, hi, rfl⟩ := objZ_idx e
    obtain ⟨g, cap, u, el, hu, c0, c1, c2, c3, -⟩ := h.obj hi
    have G := hidIt (ufind_some h hi el)
    obtain ⟨uo, uc, eu⟩ := own_slice (h.fo i u o hu hi)
    subst eu
    unfold RB.ptr at G ⊢
    clear h e hu el hi c0 c1 c3 hn
    generalize (usedN (l.take i) : Int) + 1 = v at *
    generalize o.f.length = N at *
    by_cases h0 : n < 0
    · go_enter Try.func28, Try.ntmps28
      go_wp2_with (go_at_call 47; refine G.out.mono ?_; rintro e w' ⟨rfl, hww⟩; cases hww)
      go_ret
      exact ⟨rfl, 0, rfl⟩
    · have h1 : (N : Int) ≤ n := by omega
      clear hn2
      go_enter Try.func28, Try.ntmps28
      go_wp2_with (go_at_call 47; refine G.out.mono ?_; rintro e w' ⟨rfl, hww⟩; cases hww)
      go_ret
      exact ⟨rfl, 0, rfl⟩
set_option maxRecDepth 8000 in
set_option maxHeartbeats 2000000 in
theorem uisref_yes (h : RV n0 w R most l ss) (v n : Int) (hn : hasZ l v n = true) : Calls Try.prog 28 #[R.ptr, .int .i64 v, .int .i64 n] w fun e w' => e = .returned (.bool (refZ ss l v n)) ∧ ∃ q, w' = w.drewN q := by
  obtain ⟨i, k, o, g, cap, fb, uc, hi, hv, rfl, hk, el, hu, c1, c2, -, -, hf⟩ := h.field hn
  have hr : refZ ss l v (k : Int) = rb ss o.sh k := by rw [hv]; exact refZ_rb (objZ_nth hi) hk
  rw [hr]
  have G := hidIt (ufind_some h hi el)
  rw [← hv] at G
  have hk' : (k : Int) < (o.f.length : Int) := by omega
  have hk2 : ¬ (o.f.length : Int) ≤ (k : Int) := by omega
  have x2 : w.cell? ⟨R.rb, 2, none⟩ = some R.sv := h.box.cell 2
  obtain ⟨so, sc, es⟩ := own_slice h.so
  have hso := h.so
  rw [es] at x2 hso
  obtain ⟨hs1, hs2⟩ := h.wf.obj (objZ_nth hi)
  unfold rb
  unfold RB.ptr at G ⊢
  by_cases h2 : o.sh < 0
  · rw [if_pos h2]
    clear h hv hu el hi hn hr hso es hs2
    by_cases h3 : o.sh = -2
    · rw [h3] at c1 ⊢
      generalize o.f.length = N at *
      go_enter Try.func28, Try.ntmps28
      go_wp2_with (go_at_call 47; refine G.out.mono ?_; rintro e w' ⟨rfl, hww⟩; cases hww)
      go_quiet (fail)
      go_wp2_with fail
      go_ret
      exact ⟨rfl, _, rfl⟩
    · have h4 : o.sh = -1 := by omega
      rw [h4] at c1 ⊢
      generalize o.f.length = N at *
      go_enter Try.func28, Try.ntmps28
      go_wp2_with (go_at_call 47; refine G.out.mono ?_; rintro e w' ⟨rfl, hww⟩; cases hww)
      go_quiet (fail)
      go_wp2_with fail
      go_ret
      exact ⟨rfl, _, rfl⟩
  · rw [if_neg h2]
    obtain ⟨r, hr1, hr2⟩ := hs2 (by omega)
    rw [hr1, Option.getD_some]
    obtain ⟨b, hb⟩ : ∃ b, r[k]? = some b := ⟨r[k]'(by omega), List.getElem?_eq_getElem _⟩
    rw [hb, Option.getD_some]
    have hsl := (List.getElem?_eq_some_iff.1 hr1).1
    obtain ⟨gv, hgv⟩ : ∃ gv, R.gvs[o.sh.toNat]? = some gv := ⟨R.gvs[o.sh.toNat]'(by rw [h.gl]; exact hsl), List.getElem?_eq_getElem _⟩
    have hgo := h.go _ _ _ hgv hr1
    obtain ⟨go_, gc, eg⟩ := own_slice hgo
    subst eg
    obtain ⟨gg, rfl, -, -, d1, -⟩ := own_cell hgo (tcells_at hb)
    obtain ⟨sg, rfl, -, -, d2, -⟩ := own_cell hso hgv
    obtain ⟨s, hs⟩ : ∃ s : Nat, o.sh = (s : Int) := ⟨o.sh.toNat, by omega⟩
    rw [hs] at c1 d2 hsl
    simp only [Int.toNat_natCast] at d2 hsl
    have hsl' : (s : Int) < (ss.length : Int) := by omega
    have hkr : k < r.length := by omega
    have hkr' : (k : Int) < (r.length : Int) := by omega
    have hs0 : ¬ ((s : Int) = -2) := by omega
    clear h hv hu el hi hn hr hso es hgo hgv hr1 hb h2 hs hs1
    generalize o.f.length = N at *
    generalize ss.length = S at *
    clear hr2
    generalize r.length = RN at *
    cases b with
    | false =>
      go_enter Try.func28, Try.ntmps28
      go_wp2_with (go_at_call 47; refine G.out.mono ?_; rintro e w' ⟨rfl, hww⟩; cases hww)
      go_quiet (fail)
      go_wp2_with fail
      go_ret
      exact ⟨rfl, _, rfl⟩
    | true =>
      go_enter Try.func28, Try.ntmps28
      go_wp2_with (go_at_call 47; refine G.out.mono ?_; rintro e w' ⟨rfl, hww⟩; cases hww)
      go_quiet (fail)
      go_wp2_with fail
      go_ret
      exact ⟨rfl, _, rfl⟩
end Go.Proofs.Ytbdeflpjplhafaa.J

