/- rightMethod: walked. -/
import Derived.Test.YtknppdpcgdncdaaQCT
namespace Go.Proofs.Ytknppdpcgdncdaa.Q
open Go.RowKit D
set_option maxRecDepth 8000 in
set_option maxHeartbeats 4000000 in
theorem meth_right (m : MD) (o1 : Option Addr) (c1 : Nat) (o2 : Option Addr) (c2 : Nat) (o3 : Option Addr) (c3 : Nat) (ao : Option Addr) (c : Nat) (l : List MD) (w : World) (hs : m.ds.size ≤ 9223372036854775807) (k2 : LAt 4 HandR w o2 c2 m.hs) (k3 : LAt 3 FrameR w o3 c3 m.rs) (h : LAt 9 MethR w ao c l) :
    Calls Try.prog 65 #[.agg #[.string m.nm, .string m.ds, .bool m.st, .bool m.nat, .int .i64 m.stk, .int .i64 m.loc, .slice o1 m.code.length c1, .slice o2 m.hs.length c2, .slice o3 m.rs.length c3], .slice ao l.length c] w fun e w' => e = .returned (.int .i64 (methZ m l)) ∧ Below w.heap.size w w' := by
  have B0 := balloc w (.cells #[.string m.nm, .string m.ds, .bool m.st, .bool m.nat, .int .i64 m.stk, .int .i64 m.loc, .slice o1 m.code.length c1, .slice o2 m.hs.length c2, .slice o3 m.rs.length c3] 41)
  have hA := fun W (hW : Below (w.alloc (.cells #[.string m.nm, .string m.ds, .bool m.st, .bool m.nat, .int .i64 m.stk, .int .i64 m.loc, .slice o1 m.code.length c1, .slice o2 m.hs.length c2, .slice o3 m.rs.length c3] 41)).heap.size (w.alloc (.cells #[.string m.nm, .string m.ds, .bool m.st, .bool m.nat, .int .i64 m.stk, .int .i64 m.loc, .slice o1 m.code.length c1, .slice o2 m.hs.length c2, .slice o3 m.rs.length c3] 41)) W) => D.hidIt (anyM m w.heap.size ao c l W (h.below (next B0 hW) (fun _ _ h => h.below (next B0 hW))) (cell_later hW (by simp)) (cell_later hW (by simp)))
  have hN := fun W => D.hidIt (name_any m.nm W)
  have hD := fun W => D.hidIt (methodDesc_any m.ds W hs)
  have hW1 := fun W => D.hidIt (within_in m.stk 16 W)
  have hW2 := fun W => D.hidIt (within_in m.loc 16 W)
  have hBd := fun W => D.hidIt (hasBody_any m o1 c1 o2 c2 o3 c3 W)
  have hM := fun W (hW : Below w.heap.size w W) => D.hidIt (marks_any m o1 m.code.length c1 o2 c2 o3 c3 W (k2.below hW (fun _ _ h => h)) (k3.below hW (fun _ _ h => h.below hW)))
  unfold methZ bsB
  generalize l.any (sameM m) = x3 at *
  generalize nameB m.nm.data.toList = x1 at *
  generalize methodB m.ds = x2 at *
  generalize inB m.stk 16 = x4 at *
  generalize inB m.loc 16 = x5 at *
  generalize bodyB m = x6 at *
  generalize marksZ m = Z at *
  clear h k2 k3
  generalize l.length = n at *
  generalize m.code.length = n1 at *
  generalize m.hs.length = n2 at *
  generalize m.rs.length = n3 at *
  obtain ⟨nm, ds, st, nat, stk, loc, code, hh, rr⟩ := m
  simp only at *
  have hcell : ∀ W, Below (w.alloc (.cells #[.string nm, .string ds, .bool st, .bool nat, .int .i64 stk, .int .i64 loc, .slice o1 n1 c1, .slice o2 n2 c2, .slice o3 n3 c3] 41)).heap.size (w.alloc (.cells #[.string nm, .string ds, .bool st, .bool nat, .int .i64 stk, .int .i64 loc, .slice o1 n1 c1, .slice o2 n2 c2, .slice o3 n3 c3] 41)) W → W.heap[w.heap.size]? = some (.cells #[.string nm, .string ds, .bool st, .bool nat, .int .i64 stk, .int .i64 loc, .slice o1 n1 c1, .slice o2 n2 c2, .slice o3 n3 c3] 41 (0, 0)) := fun W hW => (hW.block _ (by simp)).trans (heap_alloc_new _ _)
  have cells : ∀ W : World, W.heap[w.heap.size]? = some (.cells #[.string nm, .string ds, .bool st, .bool nat, .int .i64 stk, .int .i64 loc, .slice o1 n1 c1, .slice o2 n2 c2, .slice o3 n3 c3] 41 (0, 0)) → (W.cell? ⟨w.heap.size, 0, none⟩ = some (.string nm) ∧ W.cell? ⟨w.heap.size, 1, none⟩ = some (.string ds) ∧ W.cell? ⟨w.heap.size, 2, none⟩ = some (.bool st) ∧ W.cell? ⟨w.heap.size, 3, none⟩ = some (.bool nat)) ∧ (W.cell? ⟨w.heap.size, 4, none⟩ = some (.int .i64 stk) ∧ W.cell? ⟨w.heap.size, 5, none⟩ = some (.int .i64 loc) ∧ W.cell? ⟨w.heap.size, 6, none⟩ = some (.slice o1 n1 c1) ∧ W.cell? ⟨w.heap.size, 7, none⟩ = some (.slice o2 n2 c2) ∧ W.cell? ⟨w.heap.size, 8, none⟩ = some (.slice o3 n3 c3)) := by
    intro W hW
    refine ⟨⟨?_, ?_, ?_, ?_⟩, ?_, ?_, ?_, ?_, ?_⟩ <;> (rw [cell_of_row _ _ _ _ 41 (0, 0) hW]; rfl)
  generalize e1 : decide (n1 ≤ 1024) = y1
  generalize e2 : decide (n2 ≤ 64) = y2
  generalize e3 : decide (n3 ≤ 64) = y3
  have E1 := D.hidIt e1
  have E2 := D.hidIt e2
  have E3 := D.hidIt e3
  clear e1 e2 e3
  go_enter Try.func65, Try.ntmps65
  go_wp2_with fail
  refine (hN _).out.mono ?_
  rintro e w' ⟨rfl, hww⟩; cases hww
  cases x1
  · go_wp2
    go_ret
    exact ⟨rfl, B0⟩
  go_wp2_with fail
  refine (hD _).out.mono ?_
  rintro e w1 ⟨rfl, b1⟩
  cases x2
  · go_wp2
    go_ret
    exact ⟨rfl, next B0 b1⟩
  have hA' := hA w1 b1
  clear hA hD hN
  go_wp2_with fail
  refine hA'.out.mono ?_
  rintro e w2 ⟨rfl, b2⟩
  clear hA'
  cases x3
  rotate_left
  · go_wp2
    go_ret
    exact ⟨rfl, next B0 (next b1 b2)⟩
  have hb2 := next b1 b2
  obtain ⟨⟨l0, l1, l2, l3⟩, l4, l5, l6, l7, l8⟩ := cells _ (hcell _ hb2)
  go_wp2_with fail
  refine (hW1 _).out.mono ?_
  rintro e w' ⟨rfl, hww⟩; cases hww
  cases x4
  · go_wp2
    go_ret
    exact ⟨rfl, next B0 hb2⟩
  go_wp2_with fail
  refine (hW2 _).out.mono ?_
  rintro e w' ⟨rfl, hww⟩; cases hww
  cases x5
  · go_wp2
    go_ret
    exact ⟨rfl, next B0 hb2⟩
  cases y1
  · have q1' : (1024 : Int) < n1 := by have := of_decide_eq_false E1.out; omega
    go_wp2
    go_ret
    exact ⟨rfl, next B0 hb2⟩
  have q1' : ¬ (1024 : Int) < n1 := by have := of_decide_eq_true E1.out; omega
  clear hW1 hW2
  cases nat
  · cases y2
    · have q2' : (64 : Int) < n2 := by have := of_decide_eq_false E2.out; omega
      go_wp2
      go_ret
      exact ⟨rfl, next B0 hb2⟩
    have q2' : ¬ (64 : Int) < n2 := by have := of_decide_eq_true E2.out; omega
    cases y3
    · have q3' : (64 : Int) < n3 := by have := of_decide_eq_false E3.out; omega
      go_wp2
      go_ret
      exact ⟨rfl, next B0 hb2⟩
    have q3' : ¬ (64 : Int) < n3 := by have := of_decide_eq_true E3.out; omega
    have hM' := hM w2 (next B0 hb2)
    clear hM hBd
    go_wp2_with fail
    refine hM'.out.mono ?_
    rintro e w3 ⟨rfl, b3⟩
    go_wp2
    go_ret
    exact ⟨rfl, next B0 (next hb2 b3)⟩
  · have hB' := hBd w2
    clear hBd
    cases x6
    rotate_left
    · go_wp2_with fail
      refine hB'.out.mono ?_
      rintro e w3 ⟨rfl, b3⟩
      go_wp2
      go_ret
      exact ⟨rfl, next B0 (next hb2 b3)⟩
    · go_wp2_with fail
      refine hB'.out.mono ?_
      rintro e w3 ⟨rfl, b3⟩
      have hb3 := next hb2 b3
      obtain ⟨⟨j0, j1, j2, j3⟩, j4, j5, j6, j7, j8⟩ := cells _ (hcell _ hb3)
      cases y2
      · have q2' : (64 : Int) < n2 := by have := of_decide_eq_false E2.out; omega
        go_wp2
        go_ret
        exact ⟨rfl, next B0 hb3⟩
      have q2' : ¬ (64 : Int) < n2 := by have := of_decide_eq_true E2.out; omega
      cases y3
      · have q3' : (64 : Int) < n3 := by have := of_decide_eq_false E3.out; omega
        go_wp2
        go_ret
        exact ⟨rfl, next B0 hb3⟩
      have q3' : ¬ (64 : Int) < n3 := by have := of_decide_eq_true E3.out; omega
      have hM' := hM w3 (next B0 hb3)
      clear hM
      go_wp2_with fail
      refine hM'.out.mono ?_
      rintro e w4 ⟨rfl, b4⟩
      go_wp2
      go_ret
      exact ⟨rfl, next B0 (next hb3 b4)⟩
end Go.Proofs.Ytknppdpcgdncdaa.Q
