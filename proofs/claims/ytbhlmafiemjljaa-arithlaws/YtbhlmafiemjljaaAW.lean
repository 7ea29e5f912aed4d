/- Two of package arith and the document's own: walked. -/
import Derived.Test.YtbhlmafiemjljaaAP
namespace Go.Proofs.Ytbhlmafiemjljaa
open Go.RowKit
set_option linter.unusedVariables false
set_option maxRecDepth 8000 in
set_option maxHeartbeats 2000000 in
theorem t_add (a b : Int) (w : World) (ha : -2147483648 ≤ a) (ha2 : a ≤ 2147483647) (hb : -2147483648 ≤ b) (hb2 : b ≤ 2147483647) :
    Calls Try.prog 7 #[.int .i64 96, .int .i32 a, .int .i32 b] w fun e w' => e = .returned (.tuple #[.int .i32 (wrap32 (a + b)), .int .i64 0]) ∧ w' = w := by
  go_enter Try.func7, Try.ntmps7
  go_wp2
  go_ret2
  exact ⟨fin2 (rfl) rfl, rfl⟩
set_option maxRecDepth 8000 in
set_option maxHeartbeats 2000000 in
theorem t_sub (a b : Int) (w : World) (ha : -2147483648 ≤ a) (ha2 : a ≤ 2147483647) (hb : -2147483648 ≤ b) (hb2 : b ≤ 2147483647) :
    Calls Try.prog 7 #[.int .i64 100, .int .i32 a, .int .i32 b] w fun e w' => e = .returned (.tuple #[.int .i32 (wrap32 (a - b)), .int .i64 0]) ∧ w' = w := by
  go_enter Try.func7, Try.ntmps7
  go_wp2
  go_ret2
  exact ⟨fin2 (by rw [wrap32_eq, wrap32_eq, wrap32_eq]; omega) rfl, rfl⟩
set_option maxRecDepth 8000 in
set_option maxHeartbeats 2000000 in
theorem t_mul (a b : Int) (w : World) (ha : -2147483648 ≤ a) (ha2 : a ≤ 2147483647) (hb : -2147483648 ≤ b) (hb2 : b ≤ 2147483647) :
    Calls Try.prog 7 #[.int .i64 104, .int .i32 a, .int .i32 b] w fun e w' => e = .returned (.tuple #[.int .i32 (wrap32 (a * b)), .int .i64 0]) ∧ w' = w := by
  go_enter Try.func7, Try.ntmps7
  go_wp2
  go_ret2
  exact ⟨fin2 (rfl) rfl, rfl⟩
set_option maxRecDepth 8000 in
set_option maxHeartbeats 2000000 in
theorem t_div (a b : Int) (w : World) (ha : -2147483648 ≤ a) (ha2 : a ≤ 2147483647) (hb : -2147483648 ≤ b) (hb2 : b ≤ 2147483647) (h0 : b ≠ 0) :
    Calls Try.prog 7 #[.int .i64 108, .int .i32 a, .int .i32 b] w fun e w' => e = .returned (.tuple #[.int .i32 (wrap32 (a.tdiv b)), .int .i64 0]) ∧ w' = w := by
  have h1 : (b == 0) = false := by simpa using h0
  go_enter Try.func7, Try.ntmps7
  go_wp2
  go_ret2
  exact ⟨fin2 (rfl) rfl, rfl⟩
set_option maxRecDepth 8000 in
set_option maxHeartbeats 2000000 in
theorem t_div0 (a b : Int) (w : World) (ha : -2147483648 ≤ a) (ha2 : a ≤ 2147483647) (hb : -2147483648 ≤ b) (hb2 : b ≤ 2147483647) (h0 : b = 0) :
    Calls Try.prog 7 #[.int .i64 108, .int .i32 a, .int .i32 b] w fun e w' => e = .returned (.tuple #[.int .i32 0, .int .i64 22]) ∧ w' = w := by
  have h1 : (b == 0) = true := by simpa using h0
  clear h0
  go_enter Try.func7, Try.ntmps7
  go_wp2
  go_ret2
  exact ⟨fin2 (rfl) rfl, rfl⟩
set_option maxRecDepth 8000 in
set_option maxHeartbeats 2000000 in
theorem t_rem (a b : Int) (w : World) (ha : -2147483648 ≤ a) (ha2 : a ≤ 2147483647) (hb : -2147483648 ≤ b) (hb2 : b ≤ 2147483647) (h0 : b ≠ 0) :
    Calls Try.prog 7 #[.int .i64 112, .int .i32 a, .int .i32 b] w fun e w' => e = .returned (.tuple #[.int .i32 (a.tmod b), .int .i64 0]) ∧ w' = w := by
  have h1 : (b == 0) = false := by simpa using h0
  go_enter Try.func7, Try.ntmps7
  go_wp2
  go_ret2
  exact ⟨fin2 (rfl) rfl, rfl⟩
set_option maxRecDepth 8000 in
set_option maxHeartbeats 2000000 in
theorem t_rem0 (a b : Int) (w : World) (ha : -2147483648 ≤ a) (ha2 : a ≤ 2147483647) (hb : -2147483648 ≤ b) (hb2 : b ≤ 2147483647) (h0 : b = 0) :
    Calls Try.prog 7 #[.int .i64 112, .int .i32 a, .int .i32 b] w fun e w' => e = .returned (.tuple #[.int .i32 0, .int .i64 22]) ∧ w' = w := by
  have h1 : (b == 0) = true := by simpa using h0
  clear h0
  go_enter Try.func7, Try.ntmps7
  go_wp2
  go_ret2
  exact ⟨fin2 (rfl) rfl, rfl⟩
set_option maxRecDepth 8000 in
set_option maxHeartbeats 2000000 in
theorem t_shl (a b : Int) (w : World) (ha : -2147483648 ≤ a) (ha2 : a ≤ 2147483647) (hb : -2147483648 ≤ b) (hb2 : b ≤ 2147483647) :
    Calls Try.prog 7 #[.int .i64 120, .int .i32 a, .int .i32 b] w fun e w' => e = .returned (.tuple #[.int .i32 (wrap32 (a * 2 ^ (b % 32).toNat)), .int .i64 0]) ∧ w' = w := by
  have hk := and31_u32 b
  have hk1 : 0 ≤ b % 32 := by omega
  have hk2 : b % 32 < 32 := by omega
  generalize b % 32 = k at *
  have hs := run_shl Try.prog .i32 .u32 a k hk1 hk2 (by decide)
  go_enter Try.func7, Try.ntmps7
  go_wp2
  go_ret2
  exact ⟨fin2 (rfl) rfl, rfl⟩
set_option maxRecDepth 8000 in
set_option maxHeartbeats 2000000 in
theorem t_shr (a b : Int) (w : World) (ha : -2147483648 ≤ a) (ha2 : a ≤ 2147483647) (hb : -2147483648 ≤ b) (hb2 : b ≤ 2147483647) :
    Calls Try.prog 7 #[.int .i64 122, .int .i32 a, .int .i32 b] w fun e w' => e = .returned (.tuple #[.int .i32 (a / 2 ^ (b % 32).toNat), .int .i64 0]) ∧ w' = w := by
  have hk := and31_u32 b
  have hk1 : 0 ≤ b % 32 := by omega
  have hk2 : b % 32 < 32 := by omega
  generalize b % 32 = k at *
  have hs := run_shr Try.prog .i32 .u32 a k hk1 hk2 (by decide)
  go_enter Try.func7, Try.ntmps7
  go_wp2
  go_ret2
  exact ⟨fin2 (rfl) rfl, rfl⟩
set_option maxRecDepth 8000 in
set_option maxHeartbeats 2000000 in
theorem t_ushr (a b : Int) (w : World) (ha : -2147483648 ≤ a) (ha2 : a ≤ 2147483647) (hb : -2147483648 ≤ b) (hb2 : b ≤ 2147483647) :
    Calls Try.prog 7 #[.int .i64 124, .int .i32 a, .int .i32 b] w fun e w' => e = .returned (.tuple #[.int .i32 (wrap32 (a % 4294967296 / 2 ^ (b % 32).toNat)), .int .i64 0]) ∧ w' = w := by
  have hk := and31_u32 b
  have hk1 : 0 ≤ b % 32 := by omega
  have hk2 : b % 32 < 32 := by omega
  generalize b % 32 = k at *
  have hs := run_shr Try.prog .u32 .u32 (a % 4294967296) k hk1 hk2 (by decide)
  go_enter Try.func7, Try.ntmps7
  go_wp2
  go_ret2
  exact ⟨fin2 (rfl) rfl, rfl⟩
set_option maxRecDepth 8000 in
set_option maxHeartbeats 2000000 in
theorem t_and (a b : Int) (w : World) (ha : -2147483648 ≤ a) (ha2 : a ≤ 2147483647) (hb : -2147483648 ≤ b) (hb2 : b ≤ 2147483647) :
    Calls Try.prog 7 #[.int .i64 126, .int .i32 a, .int .i32 b] w fun e w' => e = .returned (.tuple #[.int .i32 (bits .and .i32 a b), .int .i64 0]) ∧ w' = w := by
  go_enter Try.func7, Try.ntmps7
  go_wp2
  go_ret2
  exact ⟨fin2 (rfl) rfl, rfl⟩
set_option maxRecDepth 8000 in
set_option maxHeartbeats 2000000 in
theorem t_or (a b : Int) (w : World) (ha : -2147483648 ≤ a) (ha2 : a ≤ 2147483647) (hb : -2147483648 ≤ b) (hb2 : b ≤ 2147483647) :
    Calls Try.prog 7 #[.int .i64 128, .int .i32 a, .int .i32 b] w fun e w' => e = .returned (.tuple #[.int .i32 (bits .or .i32 a b), .int .i64 0]) ∧ w' = w := by
  go_enter Try.func7, Try.ntmps7
  go_wp2
  go_ret2
  exact ⟨fin2 (rfl) rfl, rfl⟩
set_option maxRecDepth 8000 in
set_option maxHeartbeats 2000000 in
theorem t_xor (a b : Int) (w : World) (ha : -2147483648 ≤ a) (ha2 : a ≤ 2147483647) (hb : -2147483648 ≤ b) (hb2 : b ≤ 2147483647) :
    Calls Try.prog 7 #[.int .i64 130, .int .i32 a, .int .i32 b] w fun e w' => e = .returned (.tuple #[.int .i32 (bits .xor .i32 a b), .int .i64 0]) ∧ w' = w := by
  go_enter Try.func7, Try.ntmps7
  go_wp2
  go_ret2
  exact ⟨fin2 (rfl) rfl, rfl⟩
set_option maxRecDepth 8000 in
set_option maxHeartbeats 2000000 in
theorem t_none (op a b : Int) (w : World) (h96 : op ≠ 96) (h100 : op ≠ 100) (h104 : op ≠ 104) (h108 : op ≠ 108) (h112 : op ≠ 112) (h120 : op ≠ 120) (h122 : op ≠ 122) (h124 : op ≠ 124) (h126 : op ≠ 126) (h128 : op ≠ 128) (h130 : op ≠ 130) :
    Calls Try.prog 7 #[.int .i64 op, .int .i32 a, .int .i32 b] w fun e w' => e = .returned (.tuple #[.int .i32 0, .int .i64 15]) ∧ w' = w := by
  have g96 : (op == 96) = false := by simpa using h96
  have g100 : (op == 100) = false := by simpa using h100
  have g104 : (op == 104) = false := by simpa using h104
  have g108 : (op == 108) = false := by simpa using h108
  have g112 : (op == 112) = false := by simpa using h112
  have g120 : (op == 120) = false := by simpa using h120
  have g122 : (op == 122) = false := by simpa using h122
  have g124 : (op == 124) = false := by simpa using h124
  have g126 : (op == 126) = false := by simpa using h126
  have g128 : (op == 128) = false := by simpa using h128
  have g130 : (op == 130) = false := by simpa using h130
  clear h96 h100 h104 h108 h112 h120 h122 h124 h126 h128 h130
  go_enter Try.func7, Try.ntmps7
  go_wp2
  go_ret2
  exact ⟨rfl, rfl⟩
theorem two_any (op a b : Int) (w : World) (ha : -2147483648 ≤ a) (ha2 : a ≤ 2147483647) (hb : -2147483648 ≤ b) (hb2 : b ≤ 2147483647) :
    Calls Try.prog 7 #[.int .i64 op, .int .i32 a, .int .i32 b] w fun e w' => e = .returned (.tuple #[.int .i32 (twoZ op a b), .int .i64 (twoE op b)]) ∧ w' = w := by
  by_cases h96 : op = 96
  · subst h96
    exact t_add a b w ha ha2 hb hb2
  by_cases h100 : op = 100
  · subst h100
    exact t_sub a b w ha ha2 hb hb2
  by_cases h104 : op = 104
  · subst h104
    exact t_mul a b w ha ha2 hb hb2
  by_cases h108 : op = 108
  · subst h108
    by_cases h0 : b = 0
    · have e1 : twoZ 108 a b = 0 := by subst h0; rfl
      have e2 : twoE 108 b = 22 := by subst h0; rfl
      rw [e1, e2]
      exact t_div0 a b w ha ha2 hb hb2 h0
    · have e1 : twoZ 108 a b = wrap32 (a.tdiv b) := if_neg h0
      have e2 : twoE 108 b = 0 := if_neg h0
      rw [e1, e2]
      exact t_div a b w ha ha2 hb hb2 h0
  by_cases h112 : op = 112
  · subst h112
    by_cases h0 : b = 0
    · have e1 : twoZ 112 a b = 0 := by subst h0; rfl
      have e2 : twoE 112 b = 22 := by subst h0; rfl
      rw [e1, e2]
      exact t_rem0 a b w ha ha2 hb hb2 h0
    · have e1 : twoZ 112 a b = a.tmod b := if_neg h0
      have e2 : twoE 112 b = 0 := if_neg h0
      rw [e1, e2]
      exact t_rem a b w ha ha2 hb hb2 h0
  by_cases h120 : op = 120
  · subst h120
    exact t_shl a b w ha ha2 hb hb2
  by_cases h122 : op = 122
  · subst h122
    exact t_shr a b w ha ha2 hb hb2
  by_cases h124 : op = 124
  · subst h124
    exact t_ushr a b w ha ha2 hb hb2
  by_cases h126 : op = 126
  · subst h126
    exact t_and a b w ha ha2 hb hb2
  by_cases h128 : op = 128
  · subst h128
    exact t_or a b w ha ha2 hb hb2
  by_cases h130 : op = 130
  · subst h130
    exact t_xor a b w ha ha2 hb hb2
  have e1 : twoZ op a b = 0 := by unfold twoZ; simp only [*, ↓reduceIte]
  have e2 : twoE op b = 15 := by unfold twoE; rw [if_neg (by omega), if_neg (by omega)]
  rw [e1, e2]
  exact t_none op a b w h96 h100 h104 h108 h112 h120 h122 h124 h126 h128 h130
set_option maxRecDepth 8000 in
set_option maxHeartbeats 2000000 in
theorem u_add (a b : Int) (w : World) (ha : -2147483648 ≤ a) (ha2 : a ≤ 2147483647) (hb : -2147483648 ≤ b) (hb2 : b ≤ 2147483647) :
    Calls Try.prog 8 #[.int .i64 96, .int .i32 a, .int .i32 b] w fun e w' => e = .returned (.tuple #[.int .i32 (wrap32 (a + b)), .int .i64 0]) ∧ w' = w := by
  go_enter Try.func8, Try.ntmps8
  go_wp2
  go_ret2
  exact ⟨fin2 (rfl) rfl, rfl⟩
set_option maxRecDepth 8000 in
set_option maxHeartbeats 2000000 in
theorem u_sub (a b : Int) (w : World) (ha : -2147483648 ≤ a) (ha2 : a ≤ 2147483647) (hb : -2147483648 ≤ b) (hb2 : b ≤ 2147483647) :
    Calls Try.prog 8 #[.int .i64 100, .int .i32 a, .int .i32 b] w fun e w' => e = .returned (.tuple #[.int .i32 (wrap32 (a - b)), .int .i64 0]) ∧ w' = w := by
  go_enter Try.func8, Try.ntmps8
  go_wp2
  go_ret2
  exact ⟨fin2 (rfl) rfl, rfl⟩
set_option maxRecDepth 8000 in
set_option maxHeartbeats 2000000 in
theorem u_mul (a b : Int) (w : World) (ha : -2147483648 ≤ a) (ha2 : a ≤ 2147483647) (hb : -2147483648 ≤ b) (hb2 : b ≤ 2147483647) :
    Calls Try.prog 8 #[.int .i64 104, .int .i32 a, .int .i32 b] w fun e w' => e = .returned (.tuple #[.int .i32 (wrap32 (a * b)), .int .i64 0]) ∧ w' = w := by
  go_enter Try.func8, Try.ntmps8
  go_wp2
  go_ret2
  exact ⟨fin2 (congrArg wrap32 (wrap_mul ha (by omega) hb (by omega))) rfl, rfl⟩
set_option maxRecDepth 8000 in
set_option maxHeartbeats 2000000 in
theorem u_div (a b : Int) (w : World) (ha : -2147483648 ≤ a) (ha2 : a ≤ 2147483647) (hb : -2147483648 ≤ b) (hb2 : b ≤ 2147483647) (h0 : b ≠ 0) :
    Calls Try.prog 8 #[.int .i64 108, .int .i32 a, .int .i32 b] w fun e w' => e = .returned (.tuple #[.int .i32 (wrap32 (a.tdiv b)), .int .i64 0]) ∧ w' = w := by
  have h1 : (b == 0) = false := by simpa using h0
  go_enter Try.func8, Try.ntmps8
  go_wp2
  go_ret2
  exact ⟨fin2 (congrArg wrap32 (wrap_tdiv ha ha2)) rfl, rfl⟩
set_option maxRecDepth 8000 in
set_option maxHeartbeats 2000000 in
theorem u_div0 (a b : Int) (w : World) (ha : -2147483648 ≤ a) (ha2 : a ≤ 2147483647) (hb : -2147483648 ≤ b) (hb2 : b ≤ 2147483647) (h0 : b = 0) :
    Calls Try.prog 8 #[.int .i64 108, .int .i32 a, .int .i32 b] w fun e w' => e = .returned (.tuple #[.int .i32 0, .int .i64 22]) ∧ w' = w := by
  have h1 : (b == 0) = true := by simpa using h0
  clear h0
  go_enter Try.func8, Try.ntmps8
  go_wp2
  go_ret2
  exact ⟨fin2 (rfl) rfl, rfl⟩
set_option maxRecDepth 8000 in
set_option maxHeartbeats 2000000 in
theorem u_rem (a b : Int) (w : World) (ha : -2147483648 ≤ a) (ha2 : a ≤ 2147483647) (hb : -2147483648 ≤ b) (hb2 : b ≤ 2147483647) (h0 : b ≠ 0) :
    Calls Try.prog 8 #[.int .i64 112, .int .i32 a, .int .i32 b] w fun e w' => e = .returned (.tuple #[.int .i32 (a.tmod b), .int .i64 0]) ∧ w' = w := by
  have h1 : (b == 0) = false := by simpa using h0
  go_enter Try.func8, Try.ntmps8
  go_wp2
  go_ret2
  exact ⟨fin2 (wrap_tmod hb hb2 h0) rfl, rfl⟩
set_option maxRecDepth 8000 in
set_option maxHeartbeats 2000000 in
theorem u_rem0 (a b : Int) (w : World) (ha : -2147483648 ≤ a) (ha2 : a ≤ 2147483647) (hb : -2147483648 ≤ b) (hb2 : b ≤ 2147483647) (h0 : b = 0) :
    Calls Try.prog 8 #[.int .i64 112, .int .i32 a, .int .i32 b] w fun e w' => e = .returned (.tuple #[.int .i32 0, .int .i64 22]) ∧ w' = w := by
  have h1 : (b == 0) = true := by simpa using h0
  clear h0
  go_enter Try.func8, Try.ntmps8
  go_wp2
  go_ret2
  exact ⟨fin2 (rfl) rfl, rfl⟩
set_option maxRecDepth 8000 in
set_option maxHeartbeats 2000000 in
theorem u_shl (a b : Int) (w : World) (ha : -2147483648 ≤ a) (ha2 : a ≤ 2147483647) (hb : -2147483648 ≤ b) (hb2 : b ≤ 2147483647) :
    Calls Try.prog 8 #[.int .i64 120, .int .i32 a, .int .i32 b] w fun e w' => e = .returned (.tuple #[.int .i32 (wrap32 (a * 2 ^ (b % 32).toNat)), .int .i64 0]) ∧ w' = w := by
  have hk := and31_u64 b
  have hk1 : 0 ≤ b % 32 := by omega
  have hk2 : b % 32 < 32 := by omega
  generalize b % 32 = k at *
  have hs := run_shl Try.prog .i64 .u64 a k hk1 hk2 (by decide)
  go_enter Try.func8, Try.ntmps8
  go_wp2
  go_ret2
  exact ⟨fin2 (congrArg wrap32 (wrap_mul ha (by omega) (by have := (pow_le hk2 hk1).1; omega) (pow_le hk2 hk1).2)) rfl, rfl⟩
set_option maxRecDepth 8000 in
set_option maxHeartbeats 2000000 in
theorem u_shr (a b : Int) (w : World) (ha : -2147483648 ≤ a) (ha2 : a ≤ 2147483647) (hb : -2147483648 ≤ b) (hb2 : b ≤ 2147483647) :
    Calls Try.prog 8 #[.int .i64 122, .int .i32 a, .int .i32 b] w fun e w' => e = .returned (.tuple #[.int .i32 (a / 2 ^ (b % 32).toNat), .int .i64 0]) ∧ w' = w := by
  have hk := and31_u64 b
  have hk1 : 0 ≤ b % 32 := by omega
  have hk2 : b % 32 < 32 := by omega
  generalize b % 32 = k at *
  have hs := run_shr Try.prog .i64 .u64 a k hk1 hk2 (by decide)
  have hin := hidIt (shr_in ha ha2 hk1 hk2)
  go_enter Try.func8, Try.ntmps8
  go_wp2
  go_ret2
  exact ⟨fin2 (by have := hin.out; rw [wrap32_eq]; omega) rfl, rfl⟩
set_option maxRecDepth 8000 in
set_option maxHeartbeats 2000000 in
theorem u_ushr (a b : Int) (w : World) (ha : -2147483648 ≤ a) (ha2 : a ≤ 2147483647) (hb : -2147483648 ≤ b) (hb2 : b ≤ 2147483647) :
    Calls Try.prog 8 #[.int .i64 124, .int .i32 a, .int .i32 b] w fun e w' => e = .returned (.tuple #[.int .i32 (wrap32 (a % 4294967296 / 2 ^ (b % 32).toNat)), .int .i64 0]) ∧ w' = w := by
  have hm := mask32 a
  generalize hA : a % 4294967296 = A at *
  have hk := and31_u64 b
  have hk1 : 0 ≤ b % 32 := by omega
  have hk2 : b % 32 < 32 := by omega
  generalize b % 32 = k at *
  have hs := run_shr Try.prog .i64 .u64 A k hk1 hk2 (by decide)
  go_enter Try.func8, Try.ntmps8
  go_wp2
  go_ret2
  exact ⟨fin2 (rfl) rfl, rfl⟩
set_option maxRecDepth 8000 in
set_option maxHeartbeats 2000000 in
theorem u_and (a b : Int) (w : World) (ha : -2147483648 ≤ a) (ha2 : a ≤ 2147483647) (hb : -2147483648 ≤ b) (hb2 : b ≤ 2147483647) :
    Calls Try.prog 8 #[.int .i64 126, .int .i32 a, .int .i32 b] w fun e w' => e = .returned (.tuple #[.int .i32 (bits .and .i32 a b), .int .i64 0]) ∧ w' = w := by
  go_enter Try.func8, Try.ntmps8
  go_wp2
  go_ret2
  exact ⟨fin2 (rfl) rfl, rfl⟩
set_option maxRecDepth 8000 in
set_option maxHeartbeats 2000000 in
theorem u_or (a b : Int) (w : World) (ha : -2147483648 ≤ a) (ha2 : a ≤ 2147483647) (hb : -2147483648 ≤ b) (hb2 : b ≤ 2147483647) :
    Calls Try.prog 8 #[.int .i64 128, .int .i32 a, .int .i32 b] w fun e w' => e = .returned (.tuple #[.int .i32 (bits .or .i32 a b), .int .i64 0]) ∧ w' = w := by
  go_enter Try.func8, Try.ntmps8
  go_wp2
  go_ret2
  exact ⟨fin2 (rfl) rfl, rfl⟩
set_option maxRecDepth 8000 in
set_option maxHeartbeats 2000000 in
theorem u_xor (a b : Int) (w : World) (ha : -2147483648 ≤ a) (ha2 : a ≤ 2147483647) (hb : -2147483648 ≤ b) (hb2 : b ≤ 2147483647) :
    Calls Try.prog 8 #[.int .i64 130, .int .i32 a, .int .i32 b] w fun e w' => e = .returned (.tuple #[.int .i32 (bits .xor .i32 a b), .int .i64 0]) ∧ w' = w := by
  go_enter Try.func8, Try.ntmps8
  go_wp2
  go_ret2
  exact ⟨fin2 (rfl) rfl, rfl⟩
set_option maxRecDepth 8000 in
set_option maxHeartbeats 2000000 in
theorem u_none (op a b : Int) (w : World) (h96 : op ≠ 96) (h100 : op ≠ 100) (h104 : op ≠ 104) (h108 : op ≠ 108) (h112 : op ≠ 112) (h120 : op ≠ 120) (h122 : op ≠ 122) (h124 : op ≠ 124) (h126 : op ≠ 126) (h128 : op ≠ 128) (h130 : op ≠ 130) :
    Calls Try.prog 8 #[.int .i64 op, .int .i32 a, .int .i32 b] w fun e w' => e = .returned (.tuple #[.int .i32 0, .int .i64 15]) ∧ w' = w := by
  have g96 : (op == 96) = false := by simpa using h96
  have g100 : (op == 100) = false := by simpa using h100
  have g104 : (op == 104) = false := by simpa using h104
  have g108 : (op == 108) = false := by simpa using h108
  have g112 : (op == 112) = false := by simpa using h112
  have g120 : (op == 120) = false := by simpa using h120
  have g122 : (op == 122) = false := by simpa using h122
  have g124 : (op == 124) = false := by simpa using h124
  have g126 : (op == 126) = false := by simpa using h126
  have g128 : (op == 128) = false := by simpa using h128
  have g130 : (op == 130) = false := by simpa using h130
  clear h96 h100 h104 h108 h112 h120 h122 h124 h126 h128 h130
  go_enter Try.func8, Try.ntmps8
  go_wp2
  go_ret2
  exact ⟨rfl, rfl⟩
theorem uwo_any (op a b : Int) (w : World) (ha : -2147483648 ≤ a) (ha2 : a ≤ 2147483647) (hb : -2147483648 ≤ b) (hb2 : b ≤ 2147483647) :
    Calls Try.prog 8 #[.int .i64 op, .int .i32 a, .int .i32 b] w fun e w' => e = .returned (.tuple #[.int .i32 (twoZ op a b), .int .i64 (twoE op b)]) ∧ w' = w := by
  by_cases h96 : op = 96
  · subst h96
    exact u_add a b w ha ha2 hb hb2
  by_cases h100 : op = 100
  · subst h100
    exact u_sub a b w ha ha2 hb hb2
  by_cases h104 : op = 104
  · subst h104
    exact u_mul a b w ha ha2 hb hb2
  by_cases h108 : op = 108
  · subst h108
    by_cases h0 : b = 0
    · have e1 : twoZ 108 a b = 0 := by subst h0; rfl
      have e2 : twoE 108 b = 22 := by subst h0; rfl
      rw [e1, e2]
      exact u_div0 a b w ha ha2 hb hb2 h0
    · have e1 : twoZ 108 a b = wrap32 (a.tdiv b) := if_neg h0
      have e2 : twoE 108 b = 0 := if_neg h0
      rw [e1, e2]
      exact u_div a b w ha ha2 hb hb2 h0
  by_cases h112 : op = 112
  · subst h112
    by_cases h0 : b = 0
    · have e1 : twoZ 112 a b = 0 := by subst h0; rfl
      have e2 : twoE 112 b = 22 := by subst h0; rfl
      rw [e1, e2]
      exact u_rem0 a b w ha ha2 hb hb2 h0
    · have e1 : twoZ 112 a b = a.tmod b := if_neg h0
      have e2 : twoE 112 b = 0 := if_neg h0
      rw [e1, e2]
      exact u_rem a b w ha ha2 hb hb2 h0
  by_cases h120 : op = 120
  · subst h120
    exact u_shl a b w ha ha2 hb hb2
  by_cases h122 : op = 122
  · subst h122
    exact u_shr a b w ha ha2 hb hb2
  by_cases h124 : op = 124
  · subst h124
    exact u_ushr a b w ha ha2 hb hb2
  by_cases h126 : op = 126
  · subst h126
    exact u_and a b w ha ha2 hb hb2
  by_cases h128 : op = 128
  · subst h128
    exact u_or a b w ha ha2 hb hb2
  by_cases h130 : op = 130
  · subst h130
    exact u_xor a b w ha ha2 hb hb2
  have e1 : twoZ op a b = 0 := by unfold twoZ; simp only [*, ↓reduceIte]
  have e2 : twoE op b = 15 := by unfold twoE; rw [if_neg (by omega), if_neg (by omega)]
  rw [e1, e2]
  exact u_none op a b w h96 h100 h104 h108 h112 h120 h122 h124 h126 h128 h130
end Go.Proofs.Ytbhlmafiemjljaa
