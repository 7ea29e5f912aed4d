/-
  FramesBack, for every list of numbers, frame, list of texts and number: the function that pushes up to five of the texts on the frame and pops them again, sets a local, and asks whether the frame fits itself among the classes that are made of the numbers, returns true and leaves its arguments, and all that was there, as it was.
  Conditions: none but the row's own.
-/
import Derived.Test.YtccbgdbipihoaaaGreatRows
import Derived.Test.YtccbgdbipihoaaaGreatBw40
import Derived.Test.YtccbgdbipihoaaaGreatBw41
import Derived.SizedLaws
namespace Go.Proofs.YtccbgdbipihoaaaGreat.FramesBack
open Go.ChangeShapes Go.WideShapes Go.ChangeAt Go.RowKit

theorem own : ownKnob Tryz.prog.godebug = none := by kernel_rfl
theorem laidOut : laidOutB Tryz.prog = true := by kernel_rfl

set_option maxRecDepth 100000 in
theorem lifted (os : Os) (started : os.Started) (H : Type) (enc : TypeId × Value → H) :
    ReturnsInHanded {} Tryz.checked os 4 .any (Rows.framesBackSpec.pre6 enc Tryz.prog Tryz.f4 Rows.framesBackRow.domain false) (Rows.framesBackSpec.post enc Tryz.prog Tryz.f4 false true false false) := by
  refine returnsInHanded_of_change_sized (C := Tryz.checked) own started (by kernel_rfl) Tryz.func4
    (ChangeSpec.witness6 (enc := enc) (C := Tryz.checked) false ⟨#[], #[.slice none 0 0, .agg #[.int .i64 0, .slice none 0 0, .slice none 0 0], .slice none 0 0, .int .i64 0], []⟩ 8 (by kernel_rfl) (by kernel_rfl) (by kernel_rfl) (by kernel_rfl)) ?_
  intro W base args ds gs before hval0 hW _ hk _
  have hval : ∀ (j : Nat) t v, Tryz.f4.params[j]? = some t → args[j]? = some v → Value.okWide Tryz.prog W .any base t v := hval0
  have hW' := hW
  obtain ⟨p, q, hA0, hV, rfl, hfz, hnd⟩ := hW
  have hA : DataW.TrodAll enc Tryz.prog W 0 (fun _ => true) true Tryz.f4.params.toList args.toList ds p := hA0
  rw [Tryz.params4] at hA hval hk
  obtain ⟨v0, vs0, d0, ds0, p0, q0, hargs0, rfl, rfl, h0, r0⟩ := trodAll_cons hA
  obtain ⟨v1, vs1, d1, ds1, p1, q1, hargs1, rfl, rfl, h1, r1⟩ := trodAll_cons r0
  obtain ⟨v2, vs2, d2, ds2, p2, q2, hargs2, rfl, rfl, h2, r2⟩ := trodAll_cons r1
  obtain ⟨v3, vs3, d3, ds3, p3, q3, hargs3, rfl, rfl, h3, r3⟩ := trodAll_cons r2
  obtain ⟨rfl, rfl, rfl⟩ := trodAll_nil r3
  obtain rfl : args = #[v0, v1, v2, v3] := by cases args; simp_all
  have k0 := h0
  have k1 := h1
  have k2 := h2
  have lt0 : ∀ x ∈ p0, x.block < W.heap.size := by obtain ⟨m, hm⟩ := k0; exact DataW.trod_lt m _ _ _ hm
  have lt1 : ∀ x ∈ p1, x.block < W.heap.size := by obtain ⟨m, hm⟩ := k1; exact DataW.trod_lt m _ _ _ hm
  have lt2 : ∀ x ∈ p2, x.block < W.heap.size := by obtain ⟨m, hm⟩ := k2; exact DataW.trod_lt m _ _ _ hm
  have hr1 : ∀ x ∈ DataW.weights Tryz.prog 25 d1, x ≤ reachBytes := fun x hx => of_decide_eq_true (List.all_eq_true.1 hk x (DataW.weights_mem_each (j := 1) rfl rfl x hx))
  have hr2 : ∀ x ∈ DataW.weights Tryz.prog 23 d2, x ≤ reachBytes := fun x hx => of_decide_eq_true (List.all_eq_true.1 hk x (DataW.weights_mem_each (j := 2) rfl rfl x hx))
  obtain ⟨rl, hrl⟩ := Q.open_nums (hval 0 _ v0 rfl rfl) h0
  obtain ⟨f, hf, ⟨z1, z2⟩, y1, y2⟩ := Fr.open_frame (hval 1 _ v1 rfl rfl) h1 hr1
  obtain ⟨ao, c, l, rfl, hl, _, _⟩ := Fr.open_texts (hval 2 _ v2 rfl rfl) h2 hr2
  obtain ⟨a3, rfl, rfl, rfl, w3⟩ := open_int Tryz.underlying3 (hval 3 3 v3 rfl rfl) h3
  obtain ⟨rfl, rfl⟩ := trodVars_none hV
  clear hA0
  refine (Fr.back_any W v0 rl v1 f ao c l a3 hrl hf hl z1 z2 (fun s hs => Nat.le_trans (y1 s hs) (by decide)) (fun s hs => Nat.le_trans (y2 s hs) (by decide)) ?_).mono fun e W' ⟨he, hb⟩ => ?_
  · have h := w3
    simp [Lit.wf] at h
    exact ⟨h.1, h.2⟩
  subst he
  exact ⟨_, rfl, _, _, _, [], _, [], hW', trodAll_mk1 (shut_bool Tryz.underlying4 _), trodAll_cons_mk (Below.trod laidOut (by kernel_rfl) (of_decide_eq_true (by kernel_rfl)) k0 hb lt0) (trodAll_cons_mk (Below.trod laidOut (by kernel_rfl) (of_decide_eq_true (by kernel_rfl)) k1 hb lt1) (trodAll_cons_mk (Below.trod laidOut (by kernel_rfl) (of_decide_eq_true (by kernel_rfl)) k2 hb lt2) (trodAll_cons_mk (shut_int Tryz.underlying3 w3) trodAll_mk0))), rfl, hb.frame _, fun h => by cases h⟩

theorem over : Rows.framesBackRow.holds Tryz.pinned (OpenSpec.ofChange Rows.framesBackSpec) :=
  OpenClaim.holds_of_wide 4 Tryz.f4 rfl rfl rfl rfl rfl rfl rfl ⟨rfl, rfl, rfl, rfl, rfl⟩ rfl rfl rfl rfl rfl (by kernel_rfl) Tryz.func4 (by kernel_rfl)
    (of_decide_eq_true (by kernel_rfl)) (by unfold Func.isWrapper; first | (rw [if_pos (by decide +kernel)]; kernel_rfl) | (rw [if_neg (by decide +kernel)]; exact ⟨rfl, rfl⟩))
    (fun os started H enc _ => lifted os started H enc)
end Go.Proofs.YtccbgdbipihoaaaGreat.FramesBack
namespace Go.Proofs.YtccbgdbipihoaaaGreat
theorem framesBack_holds : Rows.FramesBackSaid := FramesBack.over
end Go.Proofs.YtccbgdbipihoaaaGreat
