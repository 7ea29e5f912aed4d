/- known and two of the statements' package: walked. -/
import Derived.Test.YtbhlmafiemjljaaAW
import Derived.Test.YtbhlmafiemjljaaAX
namespace Go.Proofs.Ytbhlmafiemjljaa
open Go.RowKit
set_option maxRecDepth 8000 in
set_option maxHeartbeats 2000000 in
theorem two_law (op a b : Int) (w : World) (ha : -2147483648 ≤ a) (ha2 : a ≤ 2147483647) (hb : -2147483648 ≤ b) (hb2 : b ≤ 2147483647) :
    Calls Try.prog 16 #[.int .i64 op, .int .i32 a, .int .i32 b] w fun e w' => e = .returned (.int .i32 (twoZ op a b)) ∧ w' = w := by
  have G := hidIt (two_any op a b w ha ha2 hb hb2)
  go_enter Try.func16, Try.ntmps16
  go_wp2_with fail
  refine G.out.mono ?_
  rintro e w' ⟨rfl, hww⟩; cases hww
  go_wp2
  go_ret
  exact ⟨rfl, rfl⟩
set_option maxRecDepth 8000 in
set_option maxHeartbeats 2000000 in
theorem known_any (w : World) : Calls Try.prog 14 #[] w fun e w' => e = .returned (.bool true) ∧ w' = w := by
  have e1 : twoZ 108 (-7) 2 = -3 := by unfold twoZ wrap32; decide +kernel
  have e2 : twoZ 124 (-1) 33 = 2147483647 := by unfold twoZ wrap32; decide +kernel
  have e3 : testZ 155 (-1) 9 = true := by decide +kernel
  have G1 := two_any 108 (-7) 2 w (by decide) (by decide) (by decide) (by decide)
  have G2 := two_any 124 (-1) 33 w (by decide) (by decide) (by decide) (by decide)
  have G3 := ttest_any 155 (-1) 9 w (by decide) (by decide) (by decide) (by decide)
  rw [e1, show twoE 108 2 = 0 from rfl] at G1
  rw [e2, show twoE 124 33 = 0 from rfl] at G2
  rw [e3, show testE 155 = 0 from rfl] at G3
  have H1 := hidIt G1
  have H2 := hidIt G2
  have H3 := hidIt G3
  clear G1 G2 G3 e1 e2 e3
  go_enter Try.func14, Try.ntmps14
  go_wp2_with fail
  refine H1.out.mono ?_
  rintro e w' ⟨rfl, hww⟩; cases hww
  go_wp2_with fail
  refine H2.out.mono ?_
  rintro e w' ⟨rfl, hww⟩; cases hww
  go_wp2_with fail
  refine H3.out.mono ?_
  rintro e w' ⟨rfl, hww⟩; cases hww
  go_wp2
  go_ret
  exact ⟨rfl, rfl⟩
end Go.Proofs.Ytbhlmafiemjljaa
