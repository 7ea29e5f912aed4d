/- ArithReckons walked. -/
import Derived.Test.YtbhlmafiemjljaaAN
namespace Go.Proofs.Ytbhlmafiemjljaa
open Go.RowKit
set_option maxRecDepth 8000 in
set_option maxHeartbeats 4000000 in
theorem reckons_any (op a b p o x y : Int) (w : World) (ha : -2147483648 ≤ a) (ha2 : a ≤ 2147483647) (hb : -2147483648 ≤ b) (hb2 : b ≤ 2147483647) :
    Calls Try.prog 4 #[.int .i64 op, .int .i32 a, .int .i32 b, .agg #[.int .i64 p, .int .i64 o, .int .i64 x, .int .i64 y]] w fun e w' => e = .returned (.bool true) ∧ Below w.heap.size w w' := by
  have C1 := fun W => two_any op a b W ha ha2 hb hb2
  have D1 := fun W => uwo_any op a b W ha ha2 hb hb2
  have C2 := fun W => tone_any op a W ha ha2
  have D2 := fun W => uone_any op a W ha ha2
  have C3 := fun W => ttest_any op a b W ha ha2 hb hb2
  have D3 := fun W => utest_any op a b W ha ha2 hb hb2
  have i1 := twoE_in op b
  have i2 := oneE_in op
  have i3 := testE_in op
  generalize twoZ op a b = x1 at *
  generalize twoE op b = y1 at *
  generalize oneZ op a = x2 at *
  generalize oneE op = y2 at *
  generalize testZ op a b = x3 at *
  generalize testE op = y3 at *
  replace C1 := hidIt C1
  replace D1 := hidIt D1
  replace C2 := hidIt C2
  replace D2 := hidIt D2
  replace C3 := hidIt C3
  replace D3 := hidIt D3
  have j1 := i1.1
  have j2 := i1.2
  have j3 := i2.1
  have j4 := i2.2
  have j5 := i3.1
  have j6 := i3.2
  clear i1 i2 i3
  have K1 := hidIt (fun W => tconst_any p o x y W)
  have K2 := hidIt (fun W => uconst_any p o x y W)
  generalize constZ o x = z1 at *
  generalize constB o = z2 at *
  go_enter Try.func4, Try.ntmps4
  go_wp2_with fail
  have b0 : Below w.heap.size w (w.alloc (Obj.cells #[Value.int IntKind.i64 p, Value.int IntKind.i64 o, Value.int IntKind.i64 x, Value.int IntKind.i64 y] 36)) := by go_grown
  have z0 : w.heap.size < (w.alloc (Obj.cells #[Value.int IntKind.i64 p, Value.int IntKind.i64 o, Value.int IntKind.i64 x, Value.int IntKind.i64 y] 36)).heap.size := by simp
  have c0 : (w.alloc (Obj.cells #[Value.int IntKind.i64 p, Value.int IntKind.i64 o, Value.int IntKind.i64 x, Value.int IntKind.i64 y] 36)).cell? ⟨w.heap.size, 0, none⟩ = some (.int .i64 p) := by go_cell
  have c1 : (w.alloc (Obj.cells #[Value.int IntKind.i64 p, Value.int IntKind.i64 o, Value.int IntKind.i64 x, Value.int IntKind.i64 y] 36)).cell? ⟨w.heap.size, 1, none⟩ = some (.int .i64 o) := by go_cell
  have c2 : (w.alloc (Obj.cells #[Value.int IntKind.i64 p, Value.int IntKind.i64 o, Value.int IntKind.i64 x, Value.int IntKind.i64 y] 36)).cell? ⟨w.heap.size, 2, none⟩ = some (.int .i64 x) := by go_cell
  have c3 : (w.alloc (Obj.cells #[Value.int IntKind.i64 p, Value.int IntKind.i64 o, Value.int IntKind.i64 x, Value.int IntKind.i64 y] 36)).cell? ⟨w.heap.size, 3, none⟩ = some (.int .i64 y) := by go_cell
  generalize (w.alloc (Obj.cells #[Value.int IntKind.i64 p, Value.int IntKind.i64 o, Value.int IntKind.i64 x, Value.int IntKind.i64 y] 36)) = W0 at *
  refine (C1.out _).mono ?_
  rintro e w' ⟨rfl, hww⟩; cases hww
  go_wp2_with fail
  refine (D1.out _).mono ?_
  rintro e w' ⟨rfl, hww⟩; cases hww
  go_wp2_with fail
  refine (C2.out _).mono ?_
  rintro e w' ⟨rfl, hww⟩; cases hww
  go_wp2_with fail
  refine (D2.out _).mono ?_
  rintro e w' ⟨rfl, hww⟩; cases hww
  go_wp2_with fail
  refine (C3.out _).mono ?_
  rintro e w' ⟨rfl, hww⟩; cases hww
  go_wp2_with fail
  refine (D3.out _).mono ?_
  rintro e w' ⟨rfl, hww⟩; cases hww
  go_wp2_with fail
  refine (K1.out _).mono ?_
  rintro e w1 ⟨rfl, g1⟩
  replace c0 := (g1.cell (p := ⟨w.heap.size, 0, none⟩) z0).trans c0
  replace c1 := (g1.cell (p := ⟨w.heap.size, 1, none⟩) z0).trans c1
  replace c2 := (g1.cell (p := ⟨w.heap.size, 2, none⟩) z0).trans c2
  replace c3 := (g1.cell (p := ⟨w.heap.size, 3, none⟩) z0).trans c3
  go_wp2_with fail
  refine (K2.out _).mono ?_
  rintro e w2 ⟨rfl, g2⟩
  have K := hidIt (known_any w2)
  cases x3 <;> cases z2
  all_goals
    go_wp2_with fail
    refine K.out.mono ?_
    rintro e w' ⟨rfl, hww⟩; cases hww
    go_wp2_with fail
    go_ret
    exact ⟨rfl, (b0.trans (g1.mono b0.size)).trans (g2.mono (Nat.le_trans b0.size g1.size))⟩
end Go.Proofs.Ytbhlmafiemjljaa
