/- The closed sentence of chapter 12: walked. -/
import Derived.Test.YtbhlmafiemjljaaAK
import Derived.LoopTactic
import Derived.Handy
namespace Go.Proofs.Ytbhlmafiemjljaa
open Go.RowKit
theorem twoE_in (op b : Int) : 0 ≤ twoE op b ∧ twoE op b ≤ 22 := by unfold twoE; repeat' split <;> omega
theorem oneE_in (op : Int) : 0 ≤ oneE op ∧ oneE op ≤ 22 := by unfold oneE; repeat' split <;> omega
theorem testE_in (op : Int) : 0 ≤ testE op ∧ testE op ≤ 22 := by unfold testE; repeat' split <;> omega
def roundW (k : Int) (w : World) : Prop :=
  (∃ x y, 0 ≤ y ∧ y ≤ 22 ∧ Calls Try.prog 7 #[.int .i64 k, .int .i32 5, .int .i32 3] w (fun e w' => e = .returned (.tuple #[.int .i32 x, .int .i64 y]) ∧ w' = w) ∧ Calls Try.prog 8 #[.int .i64 k, .int .i32 5, .int .i32 3] w (fun e w' => e = .returned (.tuple #[.int .i32 x, .int .i64 y]) ∧ w' = w)) ∧
  (∃ x y, 0 ≤ y ∧ y ≤ 22 ∧ Calls Try.prog 9 #[.int .i64 k, .int .i32 5] w (fun e w' => e = .returned (.tuple #[.int .i32 x, .int .i64 y]) ∧ w' = w) ∧ Calls Try.prog 10 #[.int .i64 k, .int .i32 5] w (fun e w' => e = .returned (.tuple #[.int .i32 x, .int .i64 y]) ∧ w' = w)) ∧
  (∃ x y, 0 ≤ y ∧ y ≤ 22 ∧ Calls Try.prog 11 #[.int .i64 k, .int .i32 5, .int .i32 3] w (fun e w' => e = .returned (.tuple #[.bool x, .int .i64 y]) ∧ w' = w) ∧ Calls Try.prog 12 #[.int .i64 k, .int .i32 5, .int .i32 3] w (fun e w' => e = .returned (.tuple #[.bool x, .int .i64 y]) ∧ w' = w))
theorem roundW_any (k : Int) (w : World) : roundW k w :=
  ⟨⟨_, _, (twoE_in k 3).1, (twoE_in k 3).2, two_any k 5 3 w (by decide) (by decide) (by decide) (by decide), uwo_any k 5 3 w (by decide) (by decide) (by decide) (by decide)⟩,
   ⟨_, _, (oneE_in k).1, (oneE_in k).2, tone_any k 5 w (by decide) (by decide), uone_any k 5 w (by decide) (by decide)⟩,
   ⟨_, _, (testE_in k).1, (testE_in k).2, ttest_any k 5 3 w (by decide) (by decide) (by decide) (by decide), utest_any k 5 3 w (by decide) (by decide) (by decide) (by decide)⟩⟩
set_option maxRecDepth 8000 in
set_option maxHeartbeats 4000000 in
theorem numbers_any (w : World) : Calls Try.prog 3 #[] w fun e w' => e = .returned (.bool true) ∧ Below w.heap.size w w' := by
  have R := hidIt (fun k => roundW_any k w)
  go_enter Try.func3, Try.ntmps3
  go_wp2_with fail
  go_loop [1] (fun v => ∃ k : Int, -2 ≤ k ∧ k ≤ 300 ∧ v = .int .i64 k) (fun v => (300 - intOf v).toNat)
  case atStart => exact ⟨-2, by omega, by omega, rfl⟩
  case round =>
    obtain ⟨k, hk1, hk2, rfl⟩ := hrel
    by_cases h3 : k < 300
    · obtain ⟨⟨x1, y1, p1, q1, c1, d1⟩, ⟨x2, y2, p2, q2, c2, d2⟩, ⟨x3, y3, p3, q3, c3, d3⟩⟩ := R.out k
      have C1 := hidIt c1
      have D1 := hidIt d1
      have C2 := hidIt c2
      have D2 := hidIt d2
      have C3 := hidIt c3
      have D3 := hidIt d3
      clear c1 d1 c2 d2 c3 d3
      go_wp2_with fail
      refine C1.out.mono ?_
      rintro e w' ⟨rfl, hww⟩; cases hww
      go_wp2_with fail
      refine D1.out.mono ?_
      rintro e w' ⟨rfl, hww⟩; cases hww
      go_wp2_with fail
      refine C2.out.mono ?_
      rintro e w' ⟨rfl, hww⟩; cases hww
      go_wp2_with fail
      refine D2.out.mono ?_
      rintro e w' ⟨rfl, hww⟩; cases hww
      go_wp2_with fail
      refine C3.out.mono ?_
      rintro e w' ⟨rfl, hww⟩; cases hww
      go_wp2_with fail
      refine D3.out.mono ?_
      rintro e w' ⟨rfl, hww⟩; cases hww
      go_wp2_with fail
      exact ⟨⟨k + 1, by omega, by omega, by go_num⟩, by simp [intOf]; omega⟩
    · obtain rfl : k = 300 := by omega
      clear R
      have e1 : twoZ 96 2147483647 1 = -2147483648 := by unfold twoZ wrap32; decide +kernel
      have e2 : twoZ 108 (-2147483648) (-1) = -2147483648 := by unfold twoZ wrap32; decide +kernel
      have e3 : twoZ 112 (-2147483648) (-1) = 0 := by unfold twoZ wrap32; decide +kernel
      have e4 : twoZ 122 (-8) 1 = -4 := by unfold twoZ wrap32; decide +kernel
      have e5 : oneZ 116 (-2147483648) = -2147483648 := by unfold oneZ wrap32; decide +kernel
      have G1 := two_any 96 2147483647 1 w (by decide) (by decide) (by decide) (by decide)
      have G2 := two_any 108 (-2147483648) (-1) w (by decide) (by decide) (by decide) (by decide)
      have G3 := two_any 112 (-2147483648) (-1) w (by decide) (by decide) (by decide) (by decide)
      have G4 := two_any 122 (-8) 1 w (by decide) (by decide) (by decide) (by decide)
      have G5 := tone_any 116 (-2147483648) w (by decide) (by decide)
      have G6 := two_any 112 1 0 w (by decide) (by decide) (by decide) (by decide)
      rw [e1] at G1
      rw [e2] at G2
      rw [e3] at G3
      rw [e4] at G4
      rw [e5] at G5
      rw [show twoE 112 0 = 22 from rfl] at G6
      have H1 := hidIt G1
      have H2 := hidIt G2
      have H3 := hidIt G3
      have H4 := hidIt G4
      have H5 := hidIt G5
      have H6 := hidIt G6
      clear G1 G2 G3 G4 G5 G6 e1 e2 e3 e4 e5
      go_wp2_with fail
      refine H1.out.mono ?_
      rintro e w' ⟨rfl, hww⟩; cases hww
      go_wp2_with fail
      refine H2.out.mono ?_
      rintro e w' ⟨rfl, hww⟩; cases hww
      go_wp2_with fail
      refine H3.out.mono ?_
      rintro e w' ⟨rfl, hww⟩; cases hww
      go_wp2_with fail
      refine H4.out.mono ?_
      rintro e w' ⟨rfl, hww⟩; cases hww
      go_wp2_with fail
      refine H5.out.mono ?_
      rintro e w' ⟨rfl, hww⟩; cases hww
      go_wp2_with fail
      refine H6.out.mono ?_
      rintro e w' ⟨rfl, hww⟩; cases hww
      go_wp2_with fail
      refine (tconst_any 0 2 0 0 _).mono ?_
      rintro e w1 ⟨rfl, g1⟩
      go_wp2_with fail
      refine (tconst_any 0 18 0 0 _).mono ?_
      rintro e w2 ⟨rfl, g2⟩
      go_wp2_with fail
      refine (tconst_any 0 17 (-300) 0 _).mono ?_
      rintro e w3 ⟨rfl, g3⟩
      have K := hidIt (known_any w3)
      have f1 : constZ 2 0 = -1 := by decide +kernel
      have f2 : constZ 17 (-300) = -300 := by unfold constZ wrap32; decide +kernel
      have f3 : constB 2 = true := by decide +kernel
      have f4 : constB 18 = false := by decide +kernel
      have f5 : constB 17 = true := by decide +kernel
      rw [f1, f2, f3, f4, f5]
      go_wp2_with fail
      refine K.out.mono ?_
      rintro e w' ⟨rfl, hww⟩; cases hww
      go_wp2_with fail
      go_ret
      exact ⟨rfl, (g1.trans (g2.mono g1.size)).trans (g3.mono (Nat.le_trans g1.size g2.size))⟩
end Go.Proofs.Ytbhlmafiemjljaa
