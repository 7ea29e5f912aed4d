/- Writer: numbers, texts and bytes are written behind one another. -/
import Derived.Test.YtknppdpcgdncdaaQKnown
import Derived.Deep.RegionHeld3
import Derived.Deep.RegionLaw
import Derived.Deep.DrawnRows
namespace Go.Proofs.Ytknppdpcgdncdaa.Q
open Go.RowKit
theorem eql_nil (w : World) (a : Option Addr) (l c : Nat) : (binOp .eql 37 (.slice a l c) (.slice none 0 0)).run Try.prog w = .ok (.bool a.isNone) w := by
  simp [binOp, run_equal_slice_nil w 37 5 a l c Try.underlying37]

theorem bcells_cell {w : World} {g off : Nat} {l : List Int} (h : Lies w g off l) (j : Nat) (u : Value) (hj : (bcells l)[j]? = some u) : w.cell? ((⟨g, off, none⟩ : Addr).add j) = some u := by
  have e : (⟨g, off, none⟩ : Addr).add j = ⟨g, off + j, none⟩ := by unfold Addr.add; split <;> simp_all
  rw [e]
  simp only [bcells, List.getElem?_map, Option.map_eq_some_iff] at hj
  obtain ⟨x, hx, rfl⟩ := hj
  exact h j x hx
theorem bcells_one (l : List Int) : ∀ u ∈ bcells l, u.oneCell' = true := by
  intro u hu
  simp only [bcells, List.mem_map] at hu
  obtain ⟨x, _, rfl⟩ := hu
  rfl
theorem bcells_len (l : List Int) : (bcells l).length = l.length := by simp [bcells]

set_option maxRecDepth 8000 in
set_option maxHeartbeats 800000 in
theorem clone_any (v : Value) (l : List Int) (w : World) (hv : View w v l) (hlen : l.length ≤ 140737488355328) :
    Calls Try.prog 57 #[v] w fun e w' => Below w.heap.size w w' ∧ ∃ v', e = .returned v' ∧ w'.ownsRow w.heap.size 5 1 v' l.length (bcells l) := by
  obtain ⟨i0, hi, hz0, hz1, hz2⟩ := info_parts Try.info5
  obtain ⟨ao, cap, rfl, hc, hm, hy, hl⟩ := hv
  cases ao with
  | none =>
    obtain rfl : l = [] := by
      rcases hl with h | ⟨g, off, h, _⟩
      · exact h
      · cases h
    have hq := eql_nil w none 0 cap
    go_enter Try.func57, Try.ntmps57
    go_wp2
    go_ret
    exact ⟨Below.refl _ _, _, rfl, World.ownsRow_nil _ _ _ _⟩
  | some a =>
    have hq := eql_nil w (some a) l.length cap
    have hown0 : (w.alloc (.cells #[] 5)).ownsRow w.heap.size 5 1 (.slice (some ⟨w.heap.size, 0, none⟩) 0 0) 0 [] := World.ownsRow_made w #[] 0 (Nat.le_refl _) (by unfold maxLen; omega) rfl
    have hcells : ∀ j u, (bcells l)[j]? = some u → (w.alloc (.cells #[] 5)).cell? (a.add j) = some u := by
      intro j u hj
      rcases hl with rfl | ⟨g, off, e, hl⟩
      · simp [bcells] at hj
      · cases e
        exact cell_later ((Below.refl _ w).alloc (Nat.le_refl _) _) (bcells_cell hl j u hj)
    go_enter Try.func57, Try.ntmps57
    go_wp2_with (at_builtin; refine wpList_append_own_at _ rfl _ _ 37 rfl w.heap.size 5 i0 (.int .u8 0) 1 1 Try.underlying37 hi hz0 hz1 hz2 rfl (by decide) _ _ _ rfl hown0 _ _ _ (bcells l) rfl (by simp [bcells]) hcells (bcells_one l) (by unfold maxLen; omega) (by omega) (by simp) ?_; intro v1 w1 ho1 hg1 _ hat1)
    go_wp2
    go_ret
    refine ⟨((Below.refl _ _).alloc (Nat.le_refl _) _).grown hg1 (by simp) (fun k h => (hown0.lt k h).1), _, rfl, ?_⟩
    simpa using ho1

/-- Every old block but pw and v's own row stands; the new row lies where v did or in new memory. -/
structure WStep (pw : Nat) (v : Value) (w : World) (v' : Value) (w' : World) : Prop where
  os : w'.os = w.os
  tape : w'.tape = w.tape
  output : w'.output = w.output
  size : w.heap.size ≤ w'.heap.size
  block : ∀ k, k < w.heap.size → k ≠ pw → some k ≠ v.ownBlock → w'.heap[k]? = w.heap[k]?
  moved : Moved w.heap.size v v'

theorem WStep.refl (pw : Nat) (v : Value) (w : World) : WStep pw v w v w := ⟨rfl, rfl, rfl, Nat.le_refl _, fun _ _ _ _ => rfl, .inl rfl⟩
theorem WStep.trans {pw : Nat} {v v1 v2 : Value} {w w1 w2 : World} (h : WStep pw v w v1 w1) (k : WStep pw v1 w1 v2 w2) : WStep pw v w v2 w2 := by
  refine ⟨k.os.trans h.os, k.tape.trans h.tape, k.output.trans h.output, Nat.le_trans h.size k.size, ?_, ?_⟩
  · intro i hi hp hne
    have h1 := h.block i hi hp hne
    rw [k.block i (Nat.lt_of_lt_of_le hi h.size) hp ?_, h1]
    rcases h.moved with e | ⟨g, e, hg⟩
    · rw [e]; exact hne
    · rw [e]; intro e2; cases e2; omega
  · rcases k.moved with e | ⟨g, e, hg⟩
    · rcases h.moved with e1 | ⟨g1, e1, hg1⟩
      · exact .inl (e.trans e1)
      · exact .inr ⟨g1, e.trans e1, hg1⟩
    · exact .inr ⟨g, e, Nat.le_trans h.size hg⟩
/-- What makes new memory alone, seen as a step of the writer's. -/
theorem WStep.of_below {pw : Nat} {v : Value} {w w' : World} (h : Below w.heap.size w w') : WStep pw v w v w' :=
  ⟨h.os, h.tape, h.output, h.size, fun k hk _ _ => h.block k hk, .inl rfl⟩

theorem frozen_row {w : World} {b : Nat} {cs : Array Value} {T : TypeId} (hb : w.heap[b]? = some (.cells cs T (0, 0))) (j : Nat) : w.frozen? ⟨b, j, none⟩ = false := by
  simp [World.frozen?, hb]

end Go.Proofs.Ytknppdpcgdncdaa.Q
