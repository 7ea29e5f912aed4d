/-
  CodeWrites: for every list of instructions the function that holds what is written of its first four hundred, or refused, against the document returns true and leaves its argument, and all that was there, as it was.
  Conditions: none but the row's own.
-/
import Derived.Test.YtcmneinhcfejhaaOp
import Derived.Test.YtcmneinhcfejhaaWri
import Derived.Test.YtcmneinhcfejhaaRN
namespace Go.Proofs.Ytcmneinhcfejhaa.CodeWrites
open Go.ChangeShapes Go.WideShapes Go.ChangeAt Go.RowKit

theorem own : ownKnob Try.prog.godebug = none := by kernel_rfl

set_option maxRecDepth 100000 in
theorem lifted (os : Os) (started : os.Started) (H : Type) (enc : TypeId × Value → H) :
    ReturnsInHanded {} Try.checked os 5 .any (Rows.codeWritesSpec.pre6 enc Try.prog Try.f5 Rows.codeWritesRow.domain false) (Rows.codeWritesSpec.post enc Try.prog Try.f5 false true false false) := by
  refine returnsInHanded_of_change_sized (C := Try.checked) own started (by kernel_rfl) Try.func5
    (ChangeSpec.witness6 (enc := enc) (C := Try.checked) false ⟨#[], #[.slice none 0 0], []⟩ 8 (by kernel_rfl) (by kernel_rfl) (by kernel_rfl) (by kernel_rfl)) ?_
  intro W base args ds gs before hval0 hW _ hk _
  have hval : ∀ (j : Nat) t v, Try.f5.params[j]? = some t → args[j]? = some v → Value.okWide Try.prog W .any base t v := hval0
  have hW' := hW
  obtain ⟨p, q, hA0, hV, rfl, hfz, hnd⟩ := hW
  have hA : DataW.TrodAll enc Try.prog W 0 (fun _ => true) true Try.f5.params.toList args.toList ds p := hA0
  rw [Try.params5] at hA hval
  obtain ⟨v0, vs0, d0, ds0, p0, q0, hargs, rfl, rfl, h0, r0⟩ := trodAll_cons hA
  obtain ⟨rfl, rfl, rfl⟩ := trodAll_nil r0
  obtain rfl : args = #[v0] := by cases args; simp_all
  obtain ⟨rfl, rfl⟩ := trodVars_none hV
  have k0 := h0
  have lt0 : ∀ x ∈ p0, x.block < W.heap.size := by obtain ⟨m, hm⟩ := k0; exact DataW.trod_lt m _ _ _ hm
  have hr0 : ∀ x ∈ DataW.weights Try.prog 25 d0, x ≤ reachBytes := by
    intro x hx
    rw [Try.params5] at hk
    have := List.all_eq_true.1 hk x (by
      show x ∈ DataW.weightsEach Try.prog (25 :: _) (d0 :: _)
      rw [DataW.weightsEach]
      exact List.mem_append_left _ hx)
    exact of_decide_eq_true this
  obtain ⟨l0, hl0, -⟩ := open_insts (hval 0 25 v0 rfl rfl) h0 hr0
  clear hA0 hval0 hk
  simp only [List.append_nil] at hW'
  refine (writes_any rname5 v0 l0 W hl0).mono fun e W' ⟨he, bel⟩ => ?_
  subst he
  exact ⟨_, rfl, _, _, _, [], _, [], hW', trodAll_mk1 (shut_bool Try.underlying4 _), trodAll_cons_mk (Below.trod laidOut (by kernel_rfl) (of_decide_eq_true (by kernel_rfl)) k0 bel lt0) trodAll_mk0, rfl, bel.frame _, fun h => by cases h⟩

theorem over : Rows.codeWritesRow.holds Try.pinned (OpenSpec.ofChange Rows.codeWritesSpec) :=
  OpenClaim.holds_of_wide 5 Try.f5 rfl rfl rfl rfl rfl rfl rfl ⟨rfl, rfl, rfl, rfl, rfl⟩ rfl rfl rfl rfl rfl (by kernel_rfl) Try.func5 (by kernel_rfl)
    (of_decide_eq_true (by kernel_rfl)) (by unfold Func.isWrapper; first | (rw [if_pos (by decide +kernel)]; kernel_rfl) | (rw [if_neg (by decide +kernel)]; exact ⟨rfl, rfl⟩))
    (fun os started H enc _ => lifted os started H enc)
end Go.Proofs.Ytcmneinhcfejhaa.CodeWrites
namespace Go.Proofs.Ytcmneinhcfejhaa
theorem codeWrites_holds : Rows.CodeWritesSaid := CodeWrites.over
end Go.Proofs.Ytcmneinhcfejhaa
