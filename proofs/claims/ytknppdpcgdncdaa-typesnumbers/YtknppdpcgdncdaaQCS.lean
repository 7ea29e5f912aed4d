/- rightMarks, hasBody: walked. -/
import Derived.Test.YtknppdpcgdncdaaQCR
namespace Go.Proofs.Ytknppdpcgdncdaa.Q
open Go.RowKit D
set_option maxRecDepth 8000 in
set_option maxHeartbeats 2000000 in
theorem marks_any (m : MD) (o1 : Option Addr) (n1 c1 : Nat) (o2 : Option Addr) (c2 : Nat) (o3 : Option Addr) (c3 : Nat) (w : World) (k2 : LAt 4 HandR w o2 c2 m.hs) (k3 : LAt 3 FrameR w o3 c3 m.rs) :
    Calls Try.prog 78 #[.agg #[.string m.nm, .string m.ds, .bool m.st, .bool m.nat, .int .i64 m.stk, .int .i64 m.loc, .slice o1 n1 c1, .slice o2 m.hs.length c2, .slice o3 m.rs.length c3]] w fun e w' => e = .returned (.int .i64 (marksZ m)) ∧ Below w.heap.size w w' := by
  have h1 := fun o => D.hidIt (allHandlers o2 c2 m.hs (w.alloc o) (k2.below (balloc _ _) (fun _ _ h => h)))
  have h2 := fun W (hW : Below w.heap.size w W) => D.hidIt (allPlaces o3 c3 m.rs W (k3.below hW (fun _ _ h => h.below hW)))
  have h3 := fun W (hW : Below w.heap.size w W) => D.hidIt (allSizes o3 c3 m.rs W (k3.below hW (fun _ _ h => h.below hW)))
  have h4 := fun W (hW : Below w.heap.size w W) => D.hidIt (allTypes o3 c3 m.rs W (k3.below hW (fun _ _ h => h.below hW)))
  unfold marksZ
  generalize m.hs.all handB = x1 at *
  generalize m.rs.all placeB = x2 at *
  generalize m.rs.all sizeB = x3 at *
  generalize m.rs.all slotsB = x4 at *
  clear k2 k3
  generalize m.hs.length = n2 at *
  generalize m.rs.length = n3 at *
  obtain ⟨nm, ds, st, nat, stk, loc, code, hs, rs⟩ := m
  simp only at h1 h2 h3 h4 ⊢
  have hcell : ∀ W, Below (w.alloc (.cells #[.string nm, .string ds, .bool st, .bool nat, .int .i64 stk, .int .i64 loc, .slice o1 n1 c1, .slice o2 n2 c2, .slice o3 n3 c3] 41)).heap.size (w.alloc (.cells #[.string nm, .string ds, .bool st, .bool nat, .int .i64 stk, .int .i64 loc, .slice o1 n1 c1, .slice o2 n2 c2, .slice o3 n3 c3] 41)) W → W.cell? ⟨w.heap.size, 8, none⟩ = some (.slice o3 n3 c3) := fun W hW => cell_later hW (by simp)
  unfold fnv at h1 h2 h3 h4
  have B0 := balloc w (.cells #[.string nm, .string ds, .bool st, .bool nat, .int .i64 stk, .int .i64 loc, .slice o1 n1 c1, .slice o2 n2 c2, .slice o3 n3 c3] 41)
  cases x1
  · go_enter Try.func78, Try.ntmps78
    go_wp2_with fail
    refine (h1 _).out.mono ?_
    rintro e w1 ⟨rfl, b1⟩
    go_wp2
    go_ret
    exact ⟨rfl, next B0 b1⟩
  go_enter Try.func78, Try.ntmps78
  go_wp2_with fail
  refine (h1 _).out.mono ?_
  rintro e w1 ⟨rfl, b1⟩
  have l1 := hcell _ b1
  have g2 := h2 w1 (next B0 b1)
  clear h1 h2
  cases x2
  · go_wp2_with fail
    refine g2.out.mono ?_
    rintro e w2 ⟨rfl, b2⟩
    go_wp2
    go_ret
    exact ⟨rfl, next B0 (next b1 b2)⟩
  go_wp2_with fail
  refine g2.out.mono ?_
  rintro e w2 ⟨rfl, b2⟩
  have l2 := hcell _ (next b1 b2)
  have g3 := h3 w2 (next B0 (next b1 b2))
  clear h3 g2
  cases x3
  · go_wp2_with fail
    refine g3.out.mono ?_
    rintro e w3 ⟨rfl, b3⟩
    go_wp2
    go_ret
    exact ⟨rfl, next B0 (next b1 (next b2 b3))⟩
  go_wp2_with fail
  refine g3.out.mono ?_
  rintro e w3 ⟨rfl, b3⟩
  have l3 := hcell _ (next b1 (next b2 b3))
  have g4 := h4 w3 (next B0 (next b1 (next b2 b3)))
  clear h4 g3
  cases x4
  · go_wp2_with fail
    refine g4.out.mono ?_
    rintro e w4 ⟨rfl, b4⟩
    go_wp2
    go_ret
    exact ⟨rfl, next B0 (next b1 (next b2 (next b3 b4)))⟩
  go_wp2_with fail
  refine g4.out.mono ?_
  rintro e w4 ⟨rfl, b4⟩
  go_wp2
  go_ret
  exact ⟨rfl, next B0 (next b1 (next b2 (next b3 b4)))⟩

set_option maxRecDepth 8000 in
set_option maxHeartbeats 2000000 in
theorem hasBody_any (m : MD) (o1 : Option Addr) (c1 : Nat) (o2 : Option Addr) (c2 : Nat) (o3 : Option Addr) (c3 : Nat) (w : World) :
    Calls Try.prog 77 #[.agg #[.string m.nm, .string m.ds, .bool m.st, .bool m.nat, .int .i64 m.stk, .int .i64 m.loc, .slice o1 m.code.length c1, .slice o2 m.hs.length c2, .slice o3 m.rs.length c3]] w fun e w' => e = .returned (.bool (bodyB m)) ∧ Below w.heap.size w w' := by
  unfold bodyB
  generalize m.code.length = n1 at *
  generalize m.hs.length = n2 at *
  generalize m.rs.length = n3 at *
  obtain ⟨nm, ds, st, nat, stk, loc, code, hs, rs⟩ := m
  simp only
  have B0 := balloc w (.cells #[.string nm, .string ds, .bool st, .bool nat, .int .i64 stk, .int .i64 loc, .slice o1 n1 c1, .slice o2 n2 c2, .slice o3 n3 c3] 41)
  by_cases h1 : 0 < n1
  · have h1' : (0 : Int) < n1 := by omega
    rw [decide_eq_true h1]
    go_enter Try.func77, Try.ntmps77
    go_wp2
    go_ret
    exact ⟨rfl, B0⟩
  have h1' : ¬ (0 : Int) < n1 := by omega
  rw [decide_eq_false h1]
  by_cases h2 : 0 < n2
  · have h2' : (0 : Int) < n2 := by omega
    rw [decide_eq_true h2]
    go_enter Try.func77, Try.ntmps77
    go_wp2
    go_ret
    exact ⟨rfl, B0⟩
  have h2' : ¬ (0 : Int) < n2 := by omega
  rw [decide_eq_false h2]
  by_cases h3 : 0 < n3
  · have h3' : (0 : Int) < n3 := by omega
    rw [decide_eq_true h3]
    go_enter Try.func77, Try.ntmps77
    go_wp2
    go_ret
    exact ⟨rfl, B0⟩
  have h3' : ¬ (0 : Int) < n3 := by omega
  rw [decide_eq_false h3]
  by_cases h4 : 0 < stk
  · rw [decide_eq_true h4]
    go_enter Try.func77, Try.ntmps77
    go_wp2
    go_ret
    exact ⟨rfl, B0⟩
  rw [decide_eq_false h4]
  by_cases h5 : 0 < loc
  · rw [decide_eq_true h5]
    go_enter Try.func77, Try.ntmps77
    go_wp2
    go_ret
    exact ⟨rfl, B0⟩
  · rw [decide_eq_false h5]
    go_enter Try.func77, Try.ntmps77
    go_wp2
    go_ret
    exact ⟨rfl, B0⟩
end Go.Proofs.Ytknppdpcgdncdaa.Q
