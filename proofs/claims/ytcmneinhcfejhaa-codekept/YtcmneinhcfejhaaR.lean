/- pair and read of package code: walked. -/
import Derived.Test.YtcmneinhcfejhaaZ
import Derived.Deep.QuietTactic
import Derived.BigQuiet
import Derived.Deep.RegionHeld3
namespace Go.Proofs.Ytcmneinhcfejhaa
open Go.RowKit

theorem wraps_u16 (n : Int) (h0 : 0 ≤ n) (h1 : n < 2 ^ 16) : IntKind.u16.wrap n = n := by
  simp [IntKind.wrap, IntKind.bits, IntKind.signed]; omega
theorem u16_or8 (x z : Int) (hx0 : 0 ≤ x) (hx1 : x ≤ 255) (hz0 : 0 ≤ z) (hz1 : z ≤ 255) : bits .or .u16 (x * 256) z = x * 256 + z :=
  bits_join .u16 16 (by decide) wraps_u16 8 (x * 256) z (by omega) (by omega) (by omega) hz0 (by omega) (by omega)
theorem wrap_s8 (x : Int) (h0 : 0 ≤ x) (h1 : x ≤ 255) : IntKind.i8.wrap x = s8 x := by
  unfold s8
  simp [IntKind.wrap, IntKind.bits, IntKind.signed]; split <;> omega
theorem wrap_s16 (x : Int) (h0 : 0 ≤ x) (h1 : x ≤ 65535) : IntKind.i16.wrap x = s16 x := by
  unfold s16
  simp [IntKind.wrap, IntKind.bits, IntKind.signed]; split <;> omega
set_option maxRecDepth 8000 in
set_option maxHeartbeats 1000000 in
theorem pair_any (g off cap : Nat) (x z : Int) (w : World) (c1 : w.cell? ⟨g, off + 1, none⟩ = some (.int .u8 x)) (c2 : w.cell? ⟨g, off + 2, none⟩ = some (.int .u8 z))
    (hx0 : 0 ≤ x) (hx1 : x ≤ 255) (hz0 : 0 ≤ z) (hz1 : z ≤ 255) :
    Calls Try.prog 40 #[.slice (some ⟨g, off, none⟩) 3 cap] w fun e w' => e = .returned (.int .u16 (x * 256 + z)) ∧ ∃ q, w' = w.drewN q := by
  have e1 := u16_or8 x z hx0 hx1 hz0 hz1
  go_enter Try.func40, Try.ntmps40
  go_wp2
  go_quiet (fail)
  go_wp2
  go_ret
  exact ⟨rfl, _, rfl⟩

theorem set_below {B g : Nat} {w w1 : World} (h : Below B w w1) (hB : B ≤ g) (o : Nat) (u : Value) : Below B w (w1.setCell ⟨g, o, none⟩ u) :=
  h.trans ⟨rfl, rfl, rfl, by simp [World.setCell], fun k hk => Below.heap_setCell _ _ _ _ (fun e => by simp only at e; omega)⟩
/-- A result of four cells, written. -/
theorem fin4 {w1 : World} {r k o : Nat} {x0 x1 x2 x3 u : Value} (h : w1.heap[r]? = some (.cells #[x0, x1, x2, x3] 33 (0, 0))) (hk : r ≠ k) (a b c d : Value) :
    (((((w1.setCell ⟨k, o, none⟩ u).setCell ⟨r, 0, none⟩ a).setCell ⟨r, 1, none⟩ b).setCell ⟨r, 2, none⟩ c).setCell ⟨r, 3, none⟩ d).heap[r]? = some (.cells #[a, b, c, d] 33 (0, 0)) := by
  have h0 : (w1.setCell ⟨k, o, none⟩ u).heap[r]? = some (.cells #[x0, x1, x2, x3] 33 (0, 0)) := (Below.heap_setCell _ _ _ _ hk).trans h
  have h1 := set_row (j := 0) (u := a) h0
  have h2 := set_row (j := 1) (u := b) h1
  have h3 := set_row (j := 2) (u := c) h2
  have h4 := set_row (j := 3) (u := d) h3
  exact h4
theorem below4 {w w1 : World} {k o : Nat} {u a b c d : Value} (h : Below w.heap.size w w1) (hk : w.heap.size ≤ k) :
    Below w.heap.size w (((((w1.setCell ⟨k, o, none⟩ u).setCell ⟨w.heap.size, 0, none⟩ a).setCell ⟨w.heap.size, 1, none⟩ b).setCell ⟨w.heap.size, 2, none⟩ c).setCell ⟨w.heap.size, 3, none⟩ d) :=
  set_below (set_below (set_below (set_below (set_below h hk _ _) (Nat.le_refl _) _ _) (Nat.le_refl _) _ _) (Nat.le_refl _) _ _) (Nat.le_refl _) _ _
set_option maxRecDepth 8000 in
set_option maxHeartbeats 2000000 in
theorem read_k1 (g off cap : Nat) (op p : Int) (w : World) (c0 : w.cell? ⟨g, off, none⟩ = some (.int .u8 op)) (hg : g < w.heap.size) (h0 : 0 ≤ op) (h1 : op ≤ 255) (m16 : op ≠ 16) (m17 : op ≠ 17) (m132 : op ≠ 132) (h6 : kd op ≠ 6) :
    Calls Try.prog 33 #[.slice (some ⟨g, off, none⟩) 1 cap, .int .i64 p] w fun e w' => e = .returned (.agg #[.int .i64 p, .int .i64 op, .int .i64 0, .int .i64 0]) ∧ Below w.heap.size w w' := by
  have n16 : (op == 16) = false := by simpa using m16
  have n17 : (op == 17) = false := by simpa using m17
  have n132 : (op == 132) = false := by simpa using m132
  have gB := hidIt (fun W => branch_any op W)
  rw [decide_eq_false h6] at gB
  go_enter Try.func33, Try.ntmps33
  go_wp2_with (go_at_call 13; refine (gB.out _).mono ?_; rintro e w1 ⟨rfl, hww⟩; cases hww)
  refine bodyPost_ret (results_cell_row rfl _ _ w.heap.size 33 #[.int .i64 p, .int .i64 op, .int .i64 0, .int .i64 0] (0, 0) _ rfl ((heap_alloc_old _ _ (by simp)).trans (heap_alloc_new w _)) Try.underlying33 rfl (by kernel_rfl)) rfl ⟨rfl, ?_⟩
  first | exact ((Below.refl _ _).alloc (Nat.le_refl _) _).alloc (by simp) _ | exact below_drewN (((Below.refl _ _).alloc (Nat.le_refl _) _).alloc (by simp) _) 1
set_option maxRecDepth 8000 in
set_option maxHeartbeats 2000000 in
theorem read_k2 (g off cap : Nat) (op x p : Int) (w : World) (c0 : w.cell? ⟨g, off, none⟩ = some (.int .u8 op)) (c1 : w.cell? ⟨g, off + 1, none⟩ = some (.int .u8 x)) (hx0 : 0 ≤ x) (hx1 : x ≤ 255) (hg : g < w.heap.size) (h0 : 0 ≤ op) (h1 : op ≤ 255) (m16 : op ≠ 16) (m17 : op ≠ 17) (m132 : op ≠ 132) (h6 : kd op ≠ 6) :
    Calls Try.prog 33 #[.slice (some ⟨g, off, none⟩) 2 cap, .int .i64 p] w fun e w' => e = .returned (.agg #[.int .i64 p, .int .i64 op, .int .i64 x, .int .i64 0]) ∧ Below w.heap.size w w' := by
  have n16 : (op == 16) = false := by simpa using m16
  have n17 : (op == 17) = false := by simpa using m17
  have n132 : (op == 132) = false := by simpa using m132
  have gB := hidIt (fun W => branch_any op W)
  rw [decide_eq_false h6] at gB
  go_enter Try.func33, Try.ntmps33
  go_wp2_with (go_at_call 13; refine (gB.out _).mono ?_; rintro e w1 ⟨rfl, hww⟩; cases hww)
  refine bodyPost_ret (results_cell_row rfl _ _ w.heap.size 33 #[.int .i64 p, .int .i64 op, .int .i64 x, .int .i64 0] (0, 0) _ rfl ((heap_alloc_old _ _ (by simp)).trans (heap_alloc_new w _)) Try.underlying33 rfl (by kernel_rfl)) rfl ⟨rfl, ?_⟩
  first | exact ((Below.refl _ _).alloc (Nat.le_refl _) _).alloc (by simp) _ | exact below_drewN (((Below.refl _ _).alloc (Nat.le_refl _) _).alloc (by simp) _) 1
set_option maxRecDepth 8000 in
set_option maxHeartbeats 2000000 in
theorem read_k3 (g off cap : Nat) (x p : Int) (w : World) (c0 : w.cell? ⟨g, off, none⟩ = some (.int .u8 16)) (c1 : w.cell? ⟨g, off + 1, none⟩ = some (.int .u8 x)) (hx0 : 0 ≤ x) (hx1 : x ≤ 255) (hg : g < w.heap.size) :
    Calls Try.prog 33 #[.slice (some ⟨g, off, none⟩) 2 cap, .int .i64 p] w fun e w' => e = .returned (.agg #[.int .i64 p, .int .i64 16, .int .i64 (s8 x), .int .i64 0]) ∧ Below w.heap.size w w' := by
  have hw := wrap_s8 x hx0 hx1
  have hs : -128 ≤ s8 x ∧ s8 x ≤ 127 := by unfold s8; split <;> omega
  obtain ⟨hs0, hs1⟩ := hs
  generalize s8 x = S at *
  go_enter Try.func33, Try.ntmps33
  go_wp2
  refine bodyPost_ret (results_cell_row rfl _ _ w.heap.size 33 #[.int .i64 p, .int .i64 16, .int .i64 S, .int .i64 0] (0, 0) _ rfl ((heap_alloc_old _ _ (by simp)).trans (heap_alloc_new w _)) Try.underlying33 rfl (by kernel_rfl)) rfl ⟨rfl, ?_⟩
  first | exact ((Below.refl _ _).alloc (Nat.le_refl _) _).alloc (by simp) _ | exact below_drewN (((Below.refl _ _).alloc (Nat.le_refl _) _).alloc (by simp) _) 1
set_option maxRecDepth 8000 in
set_option maxHeartbeats 2000000 in
theorem read_k4 (g off cap : Nat) (op x z p : Int) (w : World) (c0 : w.cell? ⟨g, off, none⟩ = some (.int .u8 op)) (c1 : w.cell? ⟨g, off + 1, none⟩ = some (.int .u8 x)) (hx0 : 0 ≤ x) (hx1 : x ≤ 255) (c2 : w.cell? ⟨g, off + 2, none⟩ = some (.int .u8 z)) (hz0 : 0 ≤ z) (hz1 : z ≤ 255) (hg : g < w.heap.size) (h0 : 0 ≤ op) (h1 : op ≤ 255) (m16 : op ≠ 16) (m17 : op ≠ 17) (m132 : op ≠ 132) (h6 : kd op ≠ 6) :
    Calls Try.prog 33 #[.slice (some ⟨g, off, none⟩) 3 cap, .int .i64 p] w fun e w' => e = .returned (.agg #[.int .i64 p, .int .i64 op, .int .i64 (x * 256 + z), .int .i64 0]) ∧ Below w.heap.size w w' := by
  have n16 : (op == 16) = false := by simpa using m16
  have n17 : (op == 17) = false := by simpa using m17
  have n132 : (op == 132) = false := by simpa using m132
  have gB := hidIt (fun W => branch_any op W)
  rw [decide_eq_false h6] at gB
  have HBw : Hid (Below w.heap.size w ((w.alloc (.cells #[.int .i64 0, .int .i64 0, .int .i64 0, .int .i64 0] 33)).alloc (.cells #[.int .i64 p, .int .i64 op, .int .i64 0, .int .i64 0] 33))) := ((Below.refl _ _).alloc (Nat.le_refl _) _).alloc (by simp) _
  have c1' := cell_later HBw.out c1
  have c2' := cell_later HBw.out c2
  have GP := hidIt (pair_any g off cap x z _ c1' c2' hx0 hx1 hz0 hz1)
  clear c1' c2'
  go_enter Try.func33, Try.ntmps33
  go_wp2_with fail
  refine (gB.out _).mono ?_
  rintro e w1 ⟨rfl, hww⟩; cases hww
  go_wp2_with fail
  refine GP.out.mono ?_
  rintro e w1 ⟨rfl, q, hww⟩
  have H0 : Hid (w1.heap[w.heap.size]? = some (.cells #[.int .i64 0, .int .i64 0, .int .i64 0, .int .i64 0] 33 (0, 0))) := by show _ = _; rw [hww]; exact (heap_alloc_old _ _ (by simp)).trans (heap_alloc_new w _)
  have H1 : Hid (w1.heap[w.heap.size + 1]? = some (.cells #[.int .i64 p, .int .i64 op, .int .i64 0, .int .i64 0] 33 (0, 0))) := by
    show _ = _; rw [hww]
    have := heap_alloc_new (w.alloc (.cells #[.int .i64 0, .int .i64 0, .int .i64 0, .int .i64 0] 33)) (.cells #[.int .i64 p, .int .i64 op, .int .i64 0, .int .i64 0] 33)
    simpa using this
  have HB1 : Hid (Below w.heap.size w w1) := by show Below _ _ _; rw [hww]; exact below_drewN HBw.out q
  clear hww GP HBw
  have d0 := cell_row H1.out 0 rfl
  have d1 := cell_row H1.out 1 rfl
  have d2 := cell_row H1.out 2 rfl
  have d3 := cell_row H1.out 3 rfl
  have f1 := frozen_row H1.out
  have r0 := cell_row H0.out 0 rfl
  have r1 := cell_row H0.out 1 rfl
  have r2 := cell_row H0.out 2 rfl
  have r3 := cell_row H0.out 3 rfl
  have f0 := frozen_row H0.out
  go_wp2_with fail
  exact bodyPost_ret (results_cell_row rfl _ _ w.heap.size 33 #[.int .i64 p, .int .i64 op, .int .i64 (x * 256 + z), .int .i64 0] (0, 0) _ rfl (fin4 H0.out (by omega) _ _ _ _) Try.underlying33 rfl (by kernel_rfl)) rfl ⟨rfl, below4 HB1.out (by omega)⟩
set_option maxRecDepth 8000 in
set_option maxHeartbeats 2000000 in
theorem read_k5 (g off cap : Nat) (x z p : Int) (w : World) (c0 : w.cell? ⟨g, off, none⟩ = some (.int .u8 17)) (c1 : w.cell? ⟨g, off + 1, none⟩ = some (.int .u8 x)) (hx0 : 0 ≤ x) (hx1 : x ≤ 255) (c2 : w.cell? ⟨g, off + 2, none⟩ = some (.int .u8 z)) (hz0 : 0 ≤ z) (hz1 : z ≤ 255) (hg : g < w.heap.size) :
    Calls Try.prog 33 #[.slice (some ⟨g, off, none⟩) 3 cap, .int .i64 p] w fun e w' => e = .returned (.agg #[.int .i64 p, .int .i64 17, .int .i64 (s16 (x * 256 + z)), .int .i64 0]) ∧ Below w.heap.size w w' := by
  have hw := wrap_s16 (x * 256 + z) (by omega) (by omega)
  have HBw : Hid (Below w.heap.size w ((w.alloc (.cells #[.int .i64 0, .int .i64 0, .int .i64 0, .int .i64 0] 33)).alloc (.cells #[.int .i64 p, .int .i64 17, .int .i64 0, .int .i64 0] 33))) := ((Below.refl _ _).alloc (Nat.le_refl _) _).alloc (by simp) _
  have c1' := cell_later HBw.out c1
  have c2' := cell_later HBw.out c2
  have GP := hidIt (pair_any g off cap x z _ c1' c2' hx0 hx1 hz0 hz1)
  clear c1' c2'
  have hs : -32768 ≤ s16 (x * 256 + z) ∧ s16 (x * 256 + z) ≤ 32767 := by unfold s16; split <;> omega
  obtain ⟨hs0, hs1⟩ := hs
  generalize s16 (x * 256 + z) = S at *
  go_enter Try.func33, Try.ntmps33
  go_wp2_with fail
  refine GP.out.mono ?_
  rintro e w1 ⟨rfl, q, hww⟩
  have H0 : Hid (w1.heap[w.heap.size]? = some (.cells #[.int .i64 0, .int .i64 0, .int .i64 0, .int .i64 0] 33 (0, 0))) := by show _ = _; rw [hww]; exact (heap_alloc_old _ _ (by simp)).trans (heap_alloc_new w _)
  have H1 : Hid (w1.heap[w.heap.size + 1]? = some (.cells #[.int .i64 p, .int .i64 17, .int .i64 0, .int .i64 0] 33 (0, 0))) := by
    show _ = _; rw [hww]
    have := heap_alloc_new (w.alloc (.cells #[.int .i64 0, .int .i64 0, .int .i64 0, .int .i64 0] 33)) (.cells #[.int .i64 p, .int .i64 17, .int .i64 0, .int .i64 0] 33)
    simpa using this
  have HB1 : Hid (Below w.heap.size w w1) := by show Below _ _ _; rw [hww]; exact below_drewN HBw.out q
  clear hww GP HBw
  have d0 := cell_row H1.out 0 rfl
  have d1 := cell_row H1.out 1 rfl
  have d2 := cell_row H1.out 2 rfl
  have d3 := cell_row H1.out 3 rfl
  have f1 := frozen_row H1.out
  have r0 := cell_row H0.out 0 rfl
  have r1 := cell_row H0.out 1 rfl
  have r2 := cell_row H0.out 2 rfl
  have r3 := cell_row H0.out 3 rfl
  have f0 := frozen_row H0.out
  go_wp2_with fail
  exact bodyPost_ret (results_cell_row rfl _ _ w.heap.size 33 #[.int .i64 p, .int .i64 17, .int .i64 S, .int .i64 0] (0, 0) _ rfl (fin4 H0.out (by omega) _ _ _ _) Try.underlying33 rfl (by kernel_rfl)) rfl ⟨rfl, below4 HB1.out (by omega)⟩
set_option maxRecDepth 8000 in
set_option maxHeartbeats 2000000 in
theorem read_k6 (g off cap : Nat) (op x z p : Int) (w : World) (c0 : w.cell? ⟨g, off, none⟩ = some (.int .u8 op)) (c1 : w.cell? ⟨g, off + 1, none⟩ = some (.int .u8 x)) (hx0 : 0 ≤ x) (hx1 : x ≤ 255) (c2 : w.cell? ⟨g, off + 2, none⟩ = some (.int .u8 z)) (hz0 : 0 ≤ z) (hz1 : z ≤ 255) (hp0 : 0 ≤ p) (hp1 : p ≤ 140737488355328) (hg : g < w.heap.size) (h0 : 0 ≤ op) (h1 : op ≤ 255) (m16 : op ≠ 16) (m17 : op ≠ 17) (m132 : op ≠ 132) (h6 : kd op = 6) :
    Calls Try.prog 33 #[.slice (some ⟨g, off, none⟩) 3 cap, .int .i64 p] w fun e w' => e = .returned (.agg #[.int .i64 p, .int .i64 op, .int .i64 (s16 (x * 256 + z) + p), .int .i64 0]) ∧ Below w.heap.size w w' := by
  have n16 : (op == 16) = false := by simpa using m16
  have n17 : (op == 17) = false := by simpa using m17
  have n132 : (op == 132) = false := by simpa using m132
  have gB := hidIt (fun W => branch_any op W)
  rw [decide_eq_true h6] at gB
  have HBw : Hid (Below w.heap.size w ((w.alloc (.cells #[.int .i64 0, .int .i64 0, .int .i64 0, .int .i64 0] 33)).alloc (.cells #[.int .i64 p, .int .i64 op, .int .i64 0, .int .i64 0] 33))) := ((Below.refl _ _).alloc (Nat.le_refl _) _).alloc (by simp) _
  have c1' := cell_later HBw.out c1
  have c2' := cell_later HBw.out c2
  have GP := hidIt (pair_any g off cap x z _ c1' c2' hx0 hx1 hz0 hz1)
  clear c1' c2'
  have hw := wrap_s16 (x * 256 + z) (by omega) (by omega)
  have hs : -32768 ≤ s16 (x * 256 + z) ∧ s16 (x * 256 + z) ≤ 32767 := by unfold s16; split <;> omega
  obtain ⟨hs0, hs1⟩ := hs
  generalize s16 (x * 256 + z) = S at *
  rw [Int.add_comm S p]
  go_enter Try.func33, Try.ntmps33
  go_wp2_with fail
  refine (gB.out _).mono ?_
  rintro e w1 ⟨rfl, hww⟩; cases hww
  go_wp2_with fail
  refine GP.out.mono ?_
  rintro e w1 ⟨rfl, q, hww⟩
  have H0 : Hid (w1.heap[w.heap.size]? = some (.cells #[.int .i64 0, .int .i64 0, .int .i64 0, .int .i64 0] 33 (0, 0))) := by show _ = _; rw [hww]; exact (heap_alloc_old _ _ (by simp)).trans (heap_alloc_new w _)
  have H1 : Hid (w1.heap[w.heap.size + 1]? = some (.cells #[.int .i64 p, .int .i64 op, .int .i64 0, .int .i64 0] 33 (0, 0))) := by
    show _ = _; rw [hww]
    have := heap_alloc_new (w.alloc (.cells #[.int .i64 0, .int .i64 0, .int .i64 0, .int .i64 0] 33)) (.cells #[.int .i64 p, .int .i64 op, .int .i64 0, .int .i64 0] 33)
    simpa using this
  have HB1 : Hid (Below w.heap.size w w1) := by show Below _ _ _; rw [hww]; exact below_drewN HBw.out q
  clear hww GP HBw
  have d0 := cell_row H1.out 0 rfl
  have d1 := cell_row H1.out 1 rfl
  have d2 := cell_row H1.out 2 rfl
  have d3 := cell_row H1.out 3 rfl
  have f1 := frozen_row H1.out
  have r0 := cell_row H0.out 0 rfl
  have r1 := cell_row H0.out 1 rfl
  have r2 := cell_row H0.out 2 rfl
  have r3 := cell_row H0.out 3 rfl
  have f0 := frozen_row H0.out
  go_wp2_with fail
  exact bodyPost_ret (results_cell_row rfl _ _ w.heap.size 33 #[.int .i64 p, .int .i64 op, .int .i64 (p + S), .int .i64 0] (0, 0) _ rfl (fin4 H0.out (by omega) _ _ _ _) Try.underlying33 rfl (by kernel_rfl)) rfl ⟨rfl, below4 HB1.out (by omega)⟩
set_option maxRecDepth 8000 in
set_option maxHeartbeats 2000000 in
theorem read_k7 (g off cap : Nat) (x z p : Int) (w : World) (c0 : w.cell? ⟨g, off, none⟩ = some (.int .u8 132)) (c1 : w.cell? ⟨g, off + 1, none⟩ = some (.int .u8 x)) (hx0 : 0 ≤ x) (hx1 : x ≤ 255) (c2 : w.cell? ⟨g, off + 2, none⟩ = some (.int .u8 z)) (hz0 : 0 ≤ z) (hz1 : z ≤ 255) (hg : g < w.heap.size) :
    Calls Try.prog 33 #[.slice (some ⟨g, off, none⟩) 3 cap, .int .i64 p] w fun e w' => e = .returned (.agg #[.int .i64 p, .int .i64 132, .int .i64 x, .int .i64 (s8 z)]) ∧ Below w.heap.size w w' := by
  have hw := wrap_s8 z hz0 hz1
  have hs : -128 ≤ s8 z ∧ s8 z ≤ 127 := by unfold s8; split <;> omega
  obtain ⟨hs0, hs1⟩ := hs
  generalize s8 z = S at *
  go_enter Try.func33, Try.ntmps33
  go_wp2
  go_region
  all_goals
    go_wp2
    refine bodyPost_ret (results_cell_row rfl _ _ w.heap.size 33 #[.int .i64 p, .int .i64 132, .int .i64 x, .int .i64 S] (0, 0) _ rfl ((heap_alloc_old _ _ (by simp)).trans (heap_alloc_new w _)) Try.underlying33 rfl (by kernel_rfl)) rfl ⟨rfl, ?_⟩
    first | exact ((Below.refl _ _).alloc (Nat.le_refl _) _).alloc (by simp) _ | exact below_drewN (((Below.refl _ _).alloc (Nat.le_refl _) _).alloc (by simp) _) 1

theorem cell_lt {W : World} {b o : Nat} {u : Value} (h : W.cell? ⟨b, o, none⟩ = some u) : b < W.heap.size := by
  apply Nat.lt_of_not_le
  intro hle
  have hn : W.heap[b]? = none := Array.getElem?_eq_none (by omega)
  simp [World.cell?, hn] at h
theorem kd_three (op : Int) : kd op = 3 ↔ op = 16 := by
  unfold kd
  constructor
  · intro h
    repeat' split at h
    all_goals first | assumption | omega
  · rintro rfl; decide
theorem kd_five (op : Int) : kd op = 5 ↔ op = 17 := by
  unfold kd
  constructor
  · intro h
    repeat' split at h
    all_goals first | assumption | omega
  · rintro rfl; decide
theorem kd_seven (op : Int) : kd op = 7 ↔ op = 132 := by
  unfold kd
  constructor
  · intro h
    repeat' split at h
    all_goals first | assumption | omega
  · rintro rfl; decide
theorem kd_not (op : Int) (h3 : kd op ≠ 3) (h5 : kd op ≠ 5) (h7 : kd op ≠ 7) : op ≠ 16 ∧ op ≠ 17 ∧ op ≠ 132 :=
  ⟨fun e => h3 ((kd_three op).2 e), fun e => h5 ((kd_five op).2 e), fun e => h7 ((kd_seven op).2 e)⟩
/-- read gives the instruction that the bytes say. -/
theorem read_any (v : Value) (op : Int) (t : List Int) (p : Nat) (w : World) (hv : View w v (op :: t)) (hk : kd op ≠ 0) (hl : t.length + 1 = sz op) (hp : p ≤ 140737488355328) :
    Calls Try.prog 33 #[v, .int .i64 (p : Int)] w fun e w' => e = .returned (inst p op t).val ∧ Below w.heap.size w w' := by
  obtain ⟨ao, cap, rfl, hc, hm, hy, hz⟩ := hv
  rcases hz with h | ⟨g, off, rfl, hz⟩
  · cases h
  have c0 : w.cell? ⟨g, off, none⟩ = some (.int .u8 op) := hz 0 op rfl
  have hg := cell_lt c0
  obtain ⟨o0, o1⟩ := kd_byte hk
  unfold sz at hl
  unfold inst IN.val
  have hkc := kd_cases op
  rcases hkc with e | e | e | e | e | e | e | e
  · exact absurd e hk
  · rw [e] at hl ⊢
    have ht : t = [] := by simpa [szK] using hl
    subst ht
    obtain ⟨m1, m2, m3⟩ := kd_not op (by omega) (by omega) (by omega)
    exact read_k1 g off cap op p w c0 hg o0 o1 m1 m2 m3 (by omega)
  · rw [e] at hl ⊢
    obtain ⟨x, rfl⟩ := List.length_eq_one_iff.1 (by simp [szK] at hl; omega : t.length = 1)
    obtain ⟨x0, x1⟩ := hy x (by simp)
    obtain ⟨m1, m2, m3⟩ := kd_not op (by omega) (by omega) (by omega)
    exact read_k2 g off cap op x p w c0 (hz 1 x rfl) x0 x1 hg o0 o1 m1 m2 m3 (by omega)
  · rw [e] at hl ⊢
    obtain rfl := (kd_three op).1 e
    obtain ⟨x, rfl⟩ := List.length_eq_one_iff.1 (by simp [szK] at hl; omega : t.length = 1)
    obtain ⟨x0, x1⟩ := hy x (by simp)
    exact read_k3 g off cap x p w c0 (hz 1 x rfl) x0 x1 hg
  all_goals
    rw [e] at hl ⊢
    match t, (by simp [szK] at hl; omega : t.length = 2) with
    | [x, z], _ =>
      obtain ⟨x0, x1⟩ := hy x (by simp)
      obtain ⟨z0, z1⟩ := hy z (by simp)
      first
        | (obtain rfl := (kd_five op).1 e; exact read_k5 g off cap x z p w c0 (hz 1 x rfl) x0 x1 (hz 2 z rfl) z0 z1 hg)
        | (obtain rfl := (kd_seven op).1 e; exact read_k7 g off cap x z p w c0 (hz 1 x rfl) x0 x1 (hz 2 z rfl) z0 z1 hg)
        | (obtain ⟨m1, m2, m3⟩ := kd_not op (by omega) (by omega) (by omega); exact read_k4 g off cap op x z p w c0 (hz 1 x rfl) x0 x1 (hz 2 z rfl) z0 z1 hg o0 o1 m1 m2 m3 (by omega))
        | (obtain ⟨m1, m2, m3⟩ := kd_not op (by omega) (by omega) (by omega); exact read_k6 g off cap op x z p w c0 (hz 1 x rfl) x0 x1 (hz 2 z rfl) z0 z1 (by omega) (by omega) hg o0 o1 m1 m2 m3 e)
end Go.Proofs.Ytcmneinhcfejhaa
