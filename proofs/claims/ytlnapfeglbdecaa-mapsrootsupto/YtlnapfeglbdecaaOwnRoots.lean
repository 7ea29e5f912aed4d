/-
  MapsRoots, where what it reads is of bulk at most 1048576 (values): the function that looks whether the roots that package maps tells of a map rise and are what the document says returns true and leaves its argument as it was.
  Conditions: the bound of the second form.
-/
import Derived.Test.YtlnapfeglbdecaaRows
import Derived.Test.YtlnapfeglbdecaaBr05
import Derived.Test.YtlnapfeglbdecaaBr06
import Derived.Deep.Grids
import Derived.WalkKit
import Derived.ProofKit
import Derived.OpenShut
import Derived.JoinedCond
namespace Go.Proofs.Ytlnapfeglbdecaa.MapsRoots
open Go.ChangeShapes Go.WideShapes Go.ChangeAt Go.RowKit Go.Deep

theorem own : ownKnob Try.prog.godebug = none := by kernel_rfl
theorem laidOut : laidOutB Try.prog = true := by kernel_rfl
theorem celB : Try.prog.cellsOf 4 = 1 := by kernel_rfl
theorem celL : Try.prog.cellsOf 22 = 1 := by kernel_rfl
theorem celI : Try.prog.cellsOf 3 = 1 := by kernel_rfl
theorem celM : Try.prog.cellsOf 24 = 4 := by kernel_rfl
theorem bulk_lits {H : Type} (B : Nat → Bool) : ∀ l : List Nat, Rows.uptoBulkAll (H := H) (l.map fun i => .lit (.bool (B i))) = l.length
  | [] => by simp [Rows.uptoBulkAll]
  | a :: l => by rw [List.map_cons, Rows.uptoBulkAll, bulk_lits B l, List.length_cons, Rows.uptoBulk]; omega; all_goals simp
set_option maxRecDepth 20000 in
theorem trod_bools {H : Type} {enc : TypeId × Value → H} {W : World} {fuel : Nat} {k : Value} {y : DataW H × List MemPlace}
    (ht : DataW.trod enc Try.prog W 0 (fun _ => true) true fuel 22 [k] = some y) : ∃ l, BView W k l ∧ l.length ≤ Rows.uptoBulk y.1 := by
  rcases open_bools Try.underlying22 Try.underlying4 celB ht with ⟨e, _⟩ | ⟨a, len, cap, B, e, _, hl, hm, hx, hcell⟩
  · simp only [List.cons.injEq, and_true] at e
    subst e
    exact ⟨[], ⟨none, 0, rfl, Nat.le_refl _, by unfold maxLen; omega, .inl rfl⟩, Nat.zero_le _⟩
  · simp only [List.cons.injEq, and_true] at e
    subst e
    refine ⟨(List.range len).map B, ?_, ?_⟩
    · refine ⟨some a, cap, by simp, by simpa using hl, hm, ?_⟩
      by_cases h0 : len = 0
      · left; simp [h0]
      · right
        have h00 := hcell 0 (by omega)
        obtain ⟨b, o, sp⟩ := a
        have hsp : sp = none := by
          have e : (⟨b, o, sp⟩ : Addr).add 0 = ⟨b, o, sp⟩ := by unfold Addr.add; simp
          rw [e] at h00
          exact cell_spot h00
        subst hsp
        refine ⟨b, o, rfl, fun j x hj => ?_⟩
        have hj1 : j < len := by
          have := (List.getElem?_eq_some_iff.1 hj).1
          simpa using this
        have hc := hcell j (by omega)
        have e : (⟨b, o, none⟩ : Addr).add j = ⟨b, o + j, none⟩ := by unfold Addr.add; split <;> simp_all
        rw [e] at hc
        rw [hc]
        simp [hj1] at hj
        rw [hj]
    · rw [hx]
      unfold boolRow
      show _ ≤ Rows.uptoBulk (.slice _ _)
      rw [Rows.uptoBulk, bulk_lits]
      simp
      omega
set_option maxRecDepth 20000 in
theorem open_map {H : Type} {enc : TypeId × Value → H} {W : World} {base : Nat} {v : Value} {d : DataW H} {p : List MemPlace} (hval : Value.okWide Try.prog W .any base 24 v)
    (h : DataW.Trod enc Try.prog W 0 (fun _ => true) true 24 v d p) : ∃ (n : Int) (v1 v2 v3 : Value) (l1 l2 l3 : List Bool), v = .agg #[.int .i64 n, v1, v2, v3] ∧ BView W v1 l1 ∧ BView W v2 l2 ∧ BView W v3 l3 ∧ l1.length + l2.length ≤ Rows.uptoBulk d := by
  obtain ⟨cs, rfl, hcs⟩ := okWide_struct Try.underlying24 hval
  obtain ⟨fuel, hf⟩ := h
  rw [show (Value.agg cs).cells = cs from rfl] at hf
  obtain ⟨xs, n, -, hx, hl, hxl, hall⟩ := DataW.trod_struct Try.underlying24 hf
  rw [celM] at hl
  have hxl5 : xs.length = 4 := by simpa using hxl
  obtain ⟨cs⟩ := cs
  simp only at hl hall ⊢
  match cs, hl with
  | [k0, k1, k2, k3], _ =>
    match xs, hxl5 with
    | [x0, x1, x2, x3], _ =>
      have t0 : DataW.trod enc Try.prog W 0 (fun _ => true) true n 3 [k0] = some x0 := by simpa [celI] using hall 0 _ rfl
      have t1 : DataW.trod enc Try.prog W 0 (fun _ => true) true n 22 [k1] = some x1 := by simpa [celL, celI] using hall 1 _ rfl
      have t2 : DataW.trod enc Try.prog W 0 (fun _ => true) true n 22 [k2] = some x2 := by simpa [celL, celI] using hall 2 _ rfl
      have t3 : DataW.trod enc Try.prog W 0 (fun _ => true) true n 22 [k3] = some x3 := by simpa [celL, celI] using hall 3 _ rfl
      have hd : d = .agg [x0.1, x1.1, x2.1, x3.1] := by
        have := congrArg Prod.fst hx
        simpa using this
      obtain ⟨n0, e0, -, -⟩ := DataW.trod_int Try.underlying3 t0
      obtain ⟨l1, L1, z1⟩ := trod_bools t1
      obtain ⟨l2, L2, z2⟩ := trod_bools t2
      obtain ⟨l3, L3, -⟩ := trod_bools t3
      simp only [List.cons.injEq, and_true] at e0
      subst e0
      refine ⟨n0, k1, k2, k3, l1, l2, l3, rfl, L1, L2, L3, ?_⟩
      rw [hd]
      simp only [Rows.uptoBulk, Rows.uptoBulkAll]
      omega
set_option maxRecDepth 100000 in
theorem contract (H : Type) (enc : TypeId × Value → H) (W : World) (base : Nat) (args : Array Value) (ds gs : List (DataW H)) (before : List MemPlace)
    (hval0 : ∀ (j : Nat) t v, Try.f3.params[j]? = some t → args[j]? = some v → Value.okWide Try.prog W .any base t v)
    (hW : DataW.Whole enc Try.prog Try.f3.params.toList Rows.mapsRootsSpec.vars false W args.toList ds gs before) (hk : Rows.uptoSmall H (ds ++ gs) = true) :
    Calls Try.prog 3 args W fun e W' => ∃ v, e = .returned v ∧ Rows.mapsRootsSpec.post enc Try.prog Try.f3 false true false false W args v W' := by
  have hval : ∀ (j : Nat) t v, Try.f3.params[j]? = some t → args[j]? = some v → Value.okWide Try.prog W .any base t v := hval0
  have hW' := hW
  obtain ⟨p, q, hA0, hV, rfl, hfz, hnd⟩ := hW
  have hA : DataW.TrodAll enc Try.prog W 0 (fun _ => true) true Try.f3.params.toList args.toList ds p := hA0
  rw [Try.params3] at hA hval
  obtain ⟨v0, vs0, d0, ds0, p0, q0, hargs0, rfl, rfl, h0, r0⟩ := trodAll_cons hA
  obtain ⟨rfl, rfl, rfl⟩ := trodAll_nil r0
  obtain rfl : args = #[v0] := by cases args; simp_all
  have k0 := h0
  have lt0 : ∀ x ∈ p0, x.block < W.heap.size := by obtain ⟨m, hm⟩ := k0; exact DataW.trod_lt m _ _ _ hm
  obtain ⟨n, v1, v2, v3, l1, l2, l3, rfl, L1, L2, L3, hb⟩ := open_map (hval 0 _ v0 rfl rfl) h0
  obtain ⟨rfl, rfl⟩ := trodVars_none hV
  have hkk := of_decide_eq_true hk
  simp only [List.append_nil, Rows.uptoBulkAll] at hkk
  clear hA0
  refine (mapsRoots_any n v1 v2 v3 l1 l2 l3 W L1 L2 L3 (by omega)).mono fun e W' ⟨he, hb⟩ => ?_
  subst he
  exact ⟨_, rfl, _, _, _, [], _, [], hW', trodAll_mk1 (shut_bool Try.underlying4 _), trodAll_cons_mk (Below.trod laidOut (by kernel_rfl) (of_decide_eq_true (by kernel_rfl)) k0 hb lt0) trodAll_mk0, rfl, hb.frame _, fun h => by cases h⟩
set_option maxRecDepth 100000 in
theorem lifted (os : Os) (started : os.Started) (H : Type) (enc : TypeId × Value → H) (F : Stop.Interp) :
    ReturnsInHanded {} Try.checked os 3 .any ((Rows.OpenSpec.upto Rows.mapsRootsSpec).pre6 enc Try.prog Try.f3 Rows.mapsRootsUptoRow.domain false) (((Rows.OpenSpec.upto Rows.mapsRootsSpec).at F).post enc Try.prog Try.f3 false true false false) := by
  refine returnsInHanded_of_cond (C := Try.checked) (s := Rows.OpenSpec.upto Rows.mapsRootsSpec) (k := Rows.uptoSmall) rfl own started (by kernel_rfl) Try.func3
    (OpenSpec.witness (enc := enc) (C := Try.checked) (s := Rows.OpenSpec.upto Rows.mapsRootsSpec) (k := Rows.uptoSmall) rfl false ⟨#[], #[.agg #[.int .i64 0, .slice none 0 0, .slice none 0 0, .slice none 0 0]], []⟩ 8 (by kernel_rfl) (by kernel_rfl) (by kernel_rfl)
      (x := ([.agg [.lit (.int .i64 0), .nil, .nil, .nil]], [], [])) (by kernel_rfl) rfl (by kernel_rfl)) ?_
  intro W base args ds gs before hval hW _ hk _
  exact contract H enc W base args ds gs before hval hW hk
theorem over : Rows.mapsRootsUptoRow.holds Try.pinned (Rows.OpenSpec.upto Rows.mapsRootsSpec) :=
  OpenClaim.holds_of_cond 3 Try.f3 rfl rfl rfl rfl rfl rfl rfl ⟨rfl, rfl, rfl, rfl, rfl⟩ rfl rfl rfl rfl rfl (by kernel_rfl) Try.func3 (by kernel_rfl)
    (of_decide_eq_true (by kernel_rfl)) (by unfold Func.isWrapper; first | (rw [if_pos (by decide +kernel)]; kernel_rfl) | (rw [if_neg (by decide +kernel)]; exact ⟨rfl, rfl⟩))
    (fun os started H enc _ F => lifted os started H enc F)
end Go.Proofs.Ytlnapfeglbdecaa.MapsRoots
namespace Go.Proofs.Ytlnapfeglbdecaa
theorem mapsRoots_upto_holds : Rows.MapsRootsUptoSaid := MapsRoots.over
end Go.Proofs.Ytlnapfeglbdecaa
