/- Lists of asks that came in. -/
import Derived.Test.YtacmooknfbjpeaaGOp
namespace Go.Proofs.Ytacmooknfbjpeaa.J
open Go.ChangeShapes Go.WideShapes Go.ChangeAt Go.RowKit Go.Deep

structure Ak where
  k : Int
  n : Int
  m : Int
  id : Int
  nm : ByteArray
  sp : ByteArray
def akR (x : Ak) : List Value := [.int .i64 x.k, .int .i64 x.n, .int .i64 x.m, .int .i64 x.id, .string x.nm, .string x.sp]
def AkV (w : World) (v : Value) (l : List Ak) : Prop :=
  ∃ ao cap, v = .slice ao l.length cap ∧ l.length ≤ cap ∧ cap ≤ maxLen ∧ (∀ x ∈ l, -9223372036854775808 ≤ x.id ∧ x.id ≤ 9223372036854775807) ∧ (l = [] ∨ ∃ g off, ao = some ⟨g, off, none⟩ ∧ g < w.heap.size ∧ ∀ (j : Nat) x, l[j]? = some x → ∀ i u, (akR x)[i]? = some u → w.cell? ⟨g, off + j * 6 + i, none⟩ = some u)
theorem celAk : Try.prog.cellsOf 38 = 6 := by kernel_rfl
theorem celStr : Try.prog.cellsOf 9 = 1 := by kernel_rfl
def AkRow (_ : World) (r : List Value) (x : Ak) : Prop := r = akR x ∧ -9223372036854775808 ≤ x.id ∧ x.id ≤ 9223372036854775807
set_option maxRecDepth 20000 in
theorem trod_ask {H : Type} {enc : TypeId × Value → H} {W : World} (fuel : Nat) (cs : List Value) (y : DataW H × List MemPlace)
    (ht : DataW.trod enc Try.prog W 0 (fun _ => true) true fuel 38 cs = some y) : ∃ x : Ak, AkRow W cs x := by
  obtain ⟨xs, n, -, -, hl, hxl, hall⟩ := DataW.trod_struct Try.underlying38 ht
  rw [celAk] at hl
  have hxl5 : xs.length = 6 := by simpa using hxl
  match cs, hl with
  | [k0, k1, k2, k3, k4, k5], _ =>
    match xs, hxl5 with
    | [x0, x1, x2, x3, x4, x5], _ =>
      have t0 : DataW.trod enc Try.prog W 0 (fun _ => true) true n 3 [k0] = some x0 := by simpa [cells3] using hall 0 _ rfl
      have t1 : DataW.trod enc Try.prog W 0 (fun _ => true) true n 3 [k1] = some x1 := by simpa [cells3] using hall 1 _ rfl
      have t2 : DataW.trod enc Try.prog W 0 (fun _ => true) true n 3 [k2] = some x2 := by simpa [cells3] using hall 2 _ rfl
      have t3 : DataW.trod enc Try.prog W 0 (fun _ => true) true n 3 [k3] = some x3 := by simpa [cells3] using hall 3 _ rfl
      have t4 : DataW.trod enc Try.prog W 0 (fun _ => true) true n 9 [k4] = some x4 := by simpa [celStr] using hall 4 _ rfl
      have t5 : DataW.trod enc Try.prog W 0 (fun _ => true) true n 9 [k5] = some x5 := by simpa [celStr] using hall 5 _ rfl
      obtain ⟨n0, e0, -, -⟩ := DataW.trod_int Try.underlying3 t0
      obtain ⟨n1, e1, -, -⟩ := DataW.trod_int Try.underlying3 t1
      obtain ⟨n2, e2, -, -⟩ := DataW.trod_int Try.underlying3 t2
      obtain ⟨n3, e3, -, w3⟩ := DataW.trod_int Try.underlying3 t3
      obtain ⟨s4, e4, -, -⟩ := DataW.trod_string Try.underlying9 t4
      obtain ⟨s5, e5, -, -⟩ := DataW.trod_string Try.underlying9 t5
      simp only [List.cons.injEq, and_true] at e0 e1 e2 e3 e4 e5
      subst e0 e1 e2 e3 e4 e5
      simp only [Lit.wf, Bool.and_eq_true, decide_eq_true_eq] at w3
      exact ⟨⟨n0, n1, n2, n3, s4, s5⟩, rfl, w3⟩
set_option maxRecDepth 20000 in
theorem open_asks {H : Type} {enc : TypeId × Value → H} {W : World} {base : Nat} {v : Value} {d : DataW H} {p : List MemPlace} (hval : Value.okWide Try.prog W .any base 34 v)
    (h : DataW.Trod enc Try.prog W 0 (fun _ => true) true 34 v d p) : ∃ xs, AkV W v xs := by
  obtain ⟨a, len, cap, rfl⟩ := okWide_slice Try.underlying34 hval
  obtain ⟨fuel, hf⟩ := h
  obtain ⟨ao, c, l, e, h1, h2, rows, h3, h4⟩ := trod_list (R := AkRow) Try.underlying34 celAk (by decide) trod_ask hf
  simp [Value.cells] at e
  obtain ⟨rfl, rfl, rfl⟩ := e
  refine ⟨l, a, cap, rfl, h1, h2, fun x hx => ?_, ?_⟩
  · obtain ⟨j, hj⟩ := List.getElem?_of_mem hx
    exact (h4 j x hj).2
  by_cases h0 : l = []
  · exact .inl h0
  · obtain ⟨b, off, e, hlt, hc⟩ := h3 (by cases l; exact absurd rfl h0; simp)
    refine .inr ⟨b, off, e, hlt, fun j x hj i u hu => ?_⟩
    have hj' := (List.getElem?_eq_some_iff.1 hj).1
    exact hc j hj' i u (by rw [(h4 j x hj).1]; exact hu)
end Go.Proofs.Ytacmooknfbjpeaa.J
