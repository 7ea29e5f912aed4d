/- Lists of asks of HeapPlays that came in. -/
import Derived.Test.YtepegebkjegjiaaVJ
import Derived.Test.YtepegebkjegjiaaJOp
import Derived.Test.YtepegebkjegjiaaJOq
namespace Go.Proofs.Ytepegebkjegjiaa.J
open Go.ChangeShapes Go.WideShapes Go.ChangeAt Go.RowKit Go.Deep

structure Pk where
  k : Int
  n : Int
  of : Int
  to_ : Int
  refs : List Bool
  v : Int
  bits : List Bool
def PkRow (w : World) (r : List Value) (x : Pk) : Prop := (∃ a b, r = [.int .i64 x.k, .int .i64 x.n, .int .i64 x.of, .int .i64 x.to_, a, .int .i64 x.v, b] ∧ BView w a x.refs ∧ BView w b x.bits) ∧ -9223372036854775808 ≤ x.to_ ∧ x.to_ ≤ 9223372036854775807
def PkV (w : World) (v : Value) (l : List Pk) : Prop :=
  ∃ ao cap, v = .slice ao l.length cap ∧ l.length ≤ cap ∧ cap ≤ maxLen ∧ (l = [] ∨ ∃ g off, ao = some ⟨g, off, none⟩ ∧ g < w.heap.size ∧ ∀ (j : Nat) x, l[j]? = some x → (∃ a b, (∀ i u, ([.int .i64 x.k, .int .i64 x.n, .int .i64 x.of, .int .i64 x.to_, a, .int .i64 x.v, b] : List Value)[i]? = some u → w.cell? ⟨g, off + j * 7 + i, none⟩ = some u) ∧ BView w a x.refs ∧ BView w b x.bits) ∧ -9223372036854775808 ≤ x.to_ ∧ x.to_ ≤ 9223372036854775807)
theorem celPk : Try.prog.cellsOf 33 = 7 := by kernel_rfl
theorem celBs : Try.prog.cellsOf 31 = 1 := by kernel_rfl
theorem celI64 : Try.prog.cellsOf 2 = 1 := by kernel_rfl
set_option maxRecDepth 20000 in
theorem trod_pk {H : Type} {enc : TypeId × Value → H} {W : World} (fuel : Nat) (cs : List Value) (y : DataW H × List MemPlace)
    (ht : DataW.trod enc Try.prog W 0 (fun _ => true) true fuel 33 cs = some y) : ∃ x : Pk, PkRow W cs x := by
  obtain ⟨xs, n, -, -, hl, hxl, hall⟩ := DataW.trod_struct Try.underlying33 ht
  rw [celPk] at hl
  have hxl5 : xs.length = 7 := by simpa using hxl
  match cs, hl with
  | [k0, k1, k2, k3, k4, k5, k6], _ =>
    match xs, hxl5 with
    | [x0, x1, x2, x3, x4, x5, x6], _ =>
      have t0 : DataW.trod enc Try.prog W 0 (fun _ => true) true n 3 [k0] = some x0 := by simpa [cells3] using hall 0 _ rfl
      have t1 : DataW.trod enc Try.prog W 0 (fun _ => true) true n 3 [k1] = some x1 := by simpa [cells3] using hall 1 _ rfl
      have t2 : DataW.trod enc Try.prog W 0 (fun _ => true) true n 3 [k2] = some x2 := by simpa [cells3] using hall 2 _ rfl
      have t3 : DataW.trod enc Try.prog W 0 (fun _ => true) true n 3 [k3] = some x3 := by simpa [cells3] using hall 3 _ rfl
      have t4 : DataW.trod enc Try.prog W 0 (fun _ => true) true n 31 [k4] = some x4 := by simpa [celBs] using hall 4 _ rfl
      have t5 : DataW.trod enc Try.prog W 0 (fun _ => true) true n 2 [k5] = some x5 := by simpa [celI64] using hall 5 _ rfl
      have t6 : DataW.trod enc Try.prog W 0 (fun _ => true) true n 31 [k6] = some x6 := by simpa [celBs] using hall 6 _ rfl
      obtain ⟨n0, e0, -, -⟩ := DataW.trod_int Try.underlying3 t0
      obtain ⟨n1, e1, -, -⟩ := DataW.trod_int Try.underlying3 t1
      obtain ⟨n2, e2, -, -⟩ := DataW.trod_int Try.underlying3 t2
      obtain ⟨n3, e3, -, w3⟩ := DataW.trod_int Try.underlying3 t3
      obtain ⟨l4, v4⟩ := trod_bools t4
      obtain ⟨n5, e5, -, -⟩ := DataW.trod_int Try.underlying2 t5
      obtain ⟨l6, v6⟩ := trod_bools t6
      simp only [List.cons.injEq, and_true] at e0 e1 e2 e3 e5
      subst e0 e1 e2 e3 e5
      simp only [Lit.wf, Bool.and_eq_true, decide_eq_true_eq] at w3
      exact ⟨⟨n0, n1, n2, n3, l4, n5, l6⟩, ⟨_, _, rfl, v4, v6⟩, w3⟩
set_option maxRecDepth 20000 in
theorem open_pks {H : Type} {enc : TypeId × Value → H} {W : World} {base : Nat} {v : Value} {d : DataW H} {p : List MemPlace} (hval : Value.okWide Try.prog W .any base 22 v)
    (h : DataW.Trod enc Try.prog W 0 (fun _ => true) true 22 v d p) : ∃ xs, PkV W v xs := by
  obtain ⟨a, len, cap, rfl⟩ := okWide_slice Try.underlying22 hval
  obtain ⟨fuel, hf⟩ := h
  obtain ⟨ao, c, l, e, h1, h2, rows, h3, h4⟩ := trod_list (R := PkRow) Try.underlying22 celPk (by decide) trod_pk hf
  simp [Value.cells] at e
  obtain ⟨rfl, rfl, rfl⟩ := e
  refine ⟨l, a, cap, rfl, h1, h2, ?_⟩
  by_cases h0 : l = []
  · exact .inl h0
  · obtain ⟨b, off, e, hlt, hc⟩ := h3 (by cases l; exact absurd rfl h0; simp)
    refine .inr ⟨b, off, e, hlt, fun j x hj => ?_⟩
    have hj' := (List.getElem?_eq_some_iff.1 hj).1
    obtain ⟨⟨u1, u2, e1, v1, v2⟩, hb⟩ := h4 j x hj
    exact ⟨⟨u1, u2, fun i u hu => hc j hj' i u (by rw [e1]; exact hu), v1, v2⟩, hb⟩
end Go.Proofs.Ytepegebkjegjiaa.J
