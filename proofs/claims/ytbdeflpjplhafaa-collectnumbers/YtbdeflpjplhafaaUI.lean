/- Object, Array of the document's own heap: walked. -/
import Derived.Test.YtbdeflpjplhafaaUH
namespace Go.Proofs.Ytbdeflpjplhafaa.J
open Go.RowKit Go.MapKept Go.ChangeMaps
set_option linter.unusedVariables false

variable {n0 : Nat} {w : World} {R : RB} {most : Nat} {l : List Ob} {ss : List (List Bool)}
set_option maxRecDepth 8000 in
theorem uobject_bad (h : RV n0 w R most l ss) (s : Int) (hs : s < 0 ∨ (ss.length : Int) ≤ s) : Calls Try.prog 25 #[R.ptr, .int .i64 s] w fun e w' => e = .returned (.tuple #[.int .i64 0, .int .i64 1]) ∧ w' = w := by
  have c2 : w.cell? ⟨R.rb, 2, none⟩ = some R.sv := h.box.cell 2
  obtain ⟨ao, cap, e⟩ := own_slice h.so
  rw [e] at c2
  unfold RB.ptr
  clear h e
  generalize ss.length = S at *
  by_cases h1 : s < 0
  · go_enter Try.func25, Try.ntmps25
    go_wp2
    go_ret2
    exact ⟨rfl, rfl⟩
  · have h2 : (S : Int) ≤ s := by omega
    go_enter Try.func25, Try.ntmps25
    go_wp2
    go_ret2
    exact ⟨rfl, rfl⟩
set_option maxRecDepth 8000 in
theorem uobject_then (h : RV n0 w R most l ss) (s : Nat) (r : List Bool) (hr : ss[s]? = some r) (a b : Int) (Q : World → Prop) (G0 : Calls Try.prog 46 #[R.ptr, .int .i64 (s : Int), .int .i64 (r.length : Int)] w fun e w' => e = .returned (.tuple #[.int .i64 a, .int .i64 b]) ∧ Q w') :
    Calls Try.prog 25 #[R.ptr, .int .i64 (s : Int)] w fun e w' => e = .returned (.tuple #[.int .i64 a, .int .i64 b]) ∧ Q w' := by
  have c2 : w.cell? ⟨R.rb, 2, none⟩ = some R.sv := h.box.cell 2
  obtain ⟨ao, cap, e⟩ := own_slice h.so
  have ho := h.so
  rw [e] at c2 ho
  have hsl := (List.getElem?_eq_some_iff.1 hr).1
  obtain ⟨gv, hgv⟩ : ∃ gv, R.gvs[s]? = some gv := ⟨R.gvs[s]'(by rw [h.gl]; exact hsl), List.getElem?_eq_getElem _⟩
  obtain ⟨ga, gc, eg⟩ := own_slice (h.go _ _ _ hgv hr)
  subst eg
  obtain ⟨g, rfl, -, -, hc, -⟩ := own_cell ho hgv
  have hsl' : (s : Int) < (ss.length : Int) := by omega
  have hs0 : ¬ (s : Int) < 0 := by omega
  have hs1 : ¬ (ss.length : Int) ≤ (s : Int) := by omega
  have G := hidIt G0
  unfold RB.ptr at G ⊢
  clear h e ho hgv hr G0
  generalize ss.length = S at *
  generalize r.length = N at *
  go_enter Try.func25, Try.ntmps25
  go_wp2_with (go_at_call 46; refine G.out.mono ?_; rintro e w' ⟨rfl, hb⟩)
  go_ret2
  exact ⟨rfl, hb⟩
def PutQ (n0 : Nat) (w : World) (R : RB) (most : Nat) (l : List Ob) (ss : List (List Bool)) (o : Ob) (w' : World) : Prop := ∃ R', RV n0 w' R' most (l ++ [o]) ss ∧ RStep R R' w w'
theorem uobject_any (h : RV n0 w R most l ss) (s : Nat) (r : List Bool) (hr : ss[s]? = some r) (hn : r.length ≤ 100000) (hf : usedN l + (r.length + 3) ≤ most) : Calls Try.prog 25 #[R.ptr, .int .i64 (s : Int)] w fun e w' => e = .returned (.tuple #[.int .i64 ((usedN l : Int) + 1), .int .i64 0]) ∧ PutQ n0 w R most l ss ⟨(s : Int), 0, List.replicate r.length 0⟩ w' :=
  uobject_then h s r hr _ _ _ (put_any h (s : Int) r.length hn hf ⟨by omega, fun _ => ⟨r, by simpa using hr, rfl⟩⟩)
theorem uobject_full (h : RV n0 w R most l ss) (s : Nat) (r : List Bool) (hr : ss[s]? = some r) (hn : r.length ≤ 100000) (hf : most < usedN l + (r.length + 3)) : Calls Try.prog 25 #[R.ptr, .int .i64 (s : Int)] w fun e w' => e = .returned (.tuple #[.int .i64 0, .int .i64 26]) ∧ ∃ q, w' = w.drewN q :=
  uobject_then h s r hr _ _ _ (put_full h (s : Int) r.length hn hf)
theorem uarray_bad (refs : Bool) (n : Int) (hn : n < 0 ∨ 256 < n) (p : Value) (w : World) : Calls Try.prog 23 #[p, .bool refs, .int .i64 n] w fun e w' => e = .returned (.tuple #[.int .i64 0, .int .i64 1]) ∧ w' = w := by
  by_cases h1 : n < 0
  · go_enter Try.func23, Try.ntmps23
    go_wp2
    go_ret2
    exact ⟨rfl, rfl⟩
  · have h2 : 256 < n := by omega
    go_enter Try.func23, Try.ntmps23
    go_wp2
    go_ret2
    exact ⟨rfl, rfl⟩
theorem uarray_then (refs : Bool) (n : Nat) (hn : n ≤ 256) (a b : Int) (Q : World → Prop) (G0 : Calls Try.prog 46 #[R.ptr, .int .i64 (arrS refs), .int .i64 (n : Int)] w fun e w' => e = .returned (.tuple #[.int .i64 a, .int .i64 b]) ∧ Q w') :
    Calls Try.prog 23 #[R.ptr, .bool refs, .int .i64 (n : Int)] w fun e w' => e = .returned (.tuple #[.int .i64 a, .int .i64 b]) ∧ Q w' := by
  have h1 : ¬ (n : Int) < 0 := by omega
  have h2 : ¬ 256 < (n : Int) := by omega
  have G := hidIt G0
  clear G0
  cases refs with
  | true =>
    rw [show arrS true = -2 from rfl] at G
    unfold RB.ptr at G ⊢
    go_enter Try.func23, Try.ntmps23
    go_wp2_with (go_at_call 46; refine G.out.mono ?_; rintro e w' ⟨rfl, hb⟩)
    go_ret2
    exact ⟨rfl, hb⟩
  | false =>
    rw [show arrS false = -1 from rfl] at G
    unfold RB.ptr at G ⊢
    go_enter Try.func23, Try.ntmps23
    go_wp2_with (go_at_call 46; refine G.out.mono ?_; rintro e w' ⟨rfl, hb⟩)
    go_ret2
    exact ⟨rfl, hb⟩
theorem uarray_any (h : RV n0 w R most l ss) (refs : Bool) (n : Nat) (hn : n ≤ 256) (hf : usedN l + (n + 3) ≤ most) : Calls Try.prog 23 #[R.ptr, .bool refs, .int .i64 (n : Int)] w fun e w' => e = .returned (.tuple #[.int .i64 ((usedN l : Int) + 1), .int .i64 0]) ∧ PutQ n0 w R most l ss ⟨arrS refs, 0, List.replicate n 0⟩ w' :=
  uarray_then refs n hn _ _ _ (put_any h (arrS refs) n (by omega) hf ⟨by cases refs <;> decide, fun h0 => absurd h0 (by cases refs <;> decide)⟩)
theorem uarray_full (h : RV n0 w R most l ss) (refs : Bool) (n : Nat) (hn : n ≤ 256) (hf : most < usedN l + (n + 3)) : Calls Try.prog 23 #[R.ptr, .bool refs, .int .i64 (n : Int)] w fun e w' => e = .returned (.tuple #[.int .i64 0, .int .i64 26]) ∧ ∃ q, w' = w.drewN q :=
  uarray_then refs n hn _ _ _ (put_full h (arrS refs) n (by omega) hf)
theorem unew_any (m : Nat) (h1 : m ≤ 16384) (w : World) : Calls Try.prog 19 #[.int .i64 (m : Int)] w fun e w' => ∃ R : RB, e = .returned R.ptr ∧ RV w.heap.size w' R m [] [] ∧ Below w.heap.size w w' := by
  go_enter Try.func19, Try.ntmps19
  go_wp2
  go_ret
  refine ⟨⟨w.heap.size, .slice none 0 0, .slice none 0 0, [], []⟩, rfl, ⟨Nat.le_refl _, Blk.new w _ _, World.ownsRow_nil _ _ _ _, rfl, fun i v o h => by simp at h, World.ownsRow_nil _ _ _ _, fun i v o h => by simp at h, fun i j v u b _ h => by simp at h, Wf.nil _, by simp [usedN], h1⟩, balloc _ _⟩
end Go.Proofs.Ytbdeflpjplhafaa.J

