/- One, Test and Const of package arith and the document's own: walked. -/
import Derived.Test.YtbhlmafiemjljaaAP
import Derived.Handy
namespace Go.Proofs.Ytbhlmafiemjljaa
open Go.RowKit
set_option linter.unusedVariables false
set_option maxRecDepth 8000 in
set_option maxHeartbeats 2000000 in
theorem tone_any (op a : Int) (w : World) (ha : -2147483648 ≤ a) (ha2 : a ≤ 2147483647) :
    Calls Try.prog 9 #[.int .i64 op, .int .i32 a] w fun e w' => e = .returned (.tuple #[.int .i32 (oneZ op a), .int .i64 (oneE op)]) ∧ w' = w := by
  by_cases h : op = 116
  · subst h
    go_enter Try.func9, Try.ntmps9
    go_wp2
    go_ret2
    exact ⟨fin2 (by unfold oneZ; rw [if_pos rfl]) rfl, rfl⟩
  · have e1 : oneZ op a = 0 := if_neg h
    have e2 : oneE op = 15 := if_neg h
    rw [e1, e2]
    have g : (op == 116) = false := by simpa using h
    clear h e1 e2
    go_enter Try.func9, Try.ntmps9
    go_wp2
    go_ret2
    exact ⟨rfl, rfl⟩
set_option maxRecDepth 8000 in
set_option maxHeartbeats 2000000 in
theorem uone_any (op a : Int) (w : World) (ha : -2147483648 ≤ a) (ha2 : a ≤ 2147483647) :
    Calls Try.prog 10 #[.int .i64 op, .int .i32 a] w fun e w' => e = .returned (.tuple #[.int .i32 (oneZ op a), .int .i64 (oneE op)]) ∧ w' = w := by
  by_cases h : op = 116
  · subst h
    go_enter Try.func10, Try.ntmps10
    go_wp2
    go_ret2
    exact ⟨fin2 (by unfold oneZ; rw [if_pos rfl]) rfl, rfl⟩
  · have e1 : oneZ op a = 0 := if_neg h
    have e2 : oneE op = 15 := if_neg h
    rw [e1, e2]
    have g : (op == 116) = false := by simpa using h
    clear h e1 e2
    go_enter Try.func10, Try.ntmps10
    go_wp2
    go_ret2
    exact ⟨rfl, rfl⟩
set_option maxRecDepth 8000 in
set_option maxHeartbeats 2000000 in
theorem ttest_153 (a b : Int) (w : World) (ha : -2147483648 ≤ a) (ha2 : a ≤ 2147483647) (hb : -2147483648 ≤ b) (hb2 : b ≤ 2147483647) :
    Calls Try.prog 11 #[.int .i64 153, .int .i32 a, .int .i32 b] w fun e w' => e = .returned (.tuple #[.bool (testZ 153 a b), .int .i64 (testE 153)]) ∧ w' = w := by
  go_enter Try.func11, Try.ntmps11
  go_wp2
  go_ret2
  exact ⟨fin2b rfl rfl, rfl⟩
set_option maxRecDepth 8000 in
set_option maxHeartbeats 2000000 in
theorem ttest_154 (a b : Int) (w : World) (ha : -2147483648 ≤ a) (ha2 : a ≤ 2147483647) (hb : -2147483648 ≤ b) (hb2 : b ≤ 2147483647) :
    Calls Try.prog 11 #[.int .i64 154, .int .i32 a, .int .i32 b] w fun e w' => e = .returned (.tuple #[.bool (testZ 154 a b), .int .i64 (testE 154)]) ∧ w' = w := by
  go_enter Try.func11, Try.ntmps11
  go_wp2
  go_ret2
  exact ⟨fin2b rfl rfl, rfl⟩
set_option maxRecDepth 8000 in
set_option maxHeartbeats 2000000 in
theorem ttest_155 (a b : Int) (w : World) (ha : -2147483648 ≤ a) (ha2 : a ≤ 2147483647) (hb : -2147483648 ≤ b) (hb2 : b ≤ 2147483647) :
    Calls Try.prog 11 #[.int .i64 155, .int .i32 a, .int .i32 b] w fun e w' => e = .returned (.tuple #[.bool (testZ 155 a b), .int .i64 (testE 155)]) ∧ w' = w := by
  go_enter Try.func11, Try.ntmps11
  go_wp2
  go_ret2
  exact ⟨fin2b rfl rfl, rfl⟩
set_option maxRecDepth 8000 in
set_option maxHeartbeats 2000000 in
theorem ttest_156 (a b : Int) (w : World) (ha : -2147483648 ≤ a) (ha2 : a ≤ 2147483647) (hb : -2147483648 ≤ b) (hb2 : b ≤ 2147483647) :
    Calls Try.prog 11 #[.int .i64 156, .int .i32 a, .int .i32 b] w fun e w' => e = .returned (.tuple #[.bool (testZ 156 a b), .int .i64 (testE 156)]) ∧ w' = w := by
  go_enter Try.func11, Try.ntmps11
  go_wp2
  go_ret2
  exact ⟨fin2b rfl rfl, rfl⟩
set_option maxRecDepth 8000 in
set_option maxHeartbeats 2000000 in
theorem ttest_157 (a b : Int) (w : World) (ha : -2147483648 ≤ a) (ha2 : a ≤ 2147483647) (hb : -2147483648 ≤ b) (hb2 : b ≤ 2147483647) :
    Calls Try.prog 11 #[.int .i64 157, .int .i32 a, .int .i32 b] w fun e w' => e = .returned (.tuple #[.bool (testZ 157 a b), .int .i64 (testE 157)]) ∧ w' = w := by
  go_enter Try.func11, Try.ntmps11
  go_wp2
  go_ret2
  exact ⟨fin2b rfl rfl, rfl⟩
set_option maxRecDepth 8000 in
set_option maxHeartbeats 2000000 in
theorem ttest_158 (a b : Int) (w : World) (ha : -2147483648 ≤ a) (ha2 : a ≤ 2147483647) (hb : -2147483648 ≤ b) (hb2 : b ≤ 2147483647) :
    Calls Try.prog 11 #[.int .i64 158, .int .i32 a, .int .i32 b] w fun e w' => e = .returned (.tuple #[.bool (testZ 158 a b), .int .i64 (testE 158)]) ∧ w' = w := by
  go_enter Try.func11, Try.ntmps11
  go_wp2
  go_ret2
  exact ⟨fin2b rfl rfl, rfl⟩
set_option maxRecDepth 8000 in
set_option maxHeartbeats 2000000 in
theorem ttest_159 (a b : Int) (w : World) (ha : -2147483648 ≤ a) (ha2 : a ≤ 2147483647) (hb : -2147483648 ≤ b) (hb2 : b ≤ 2147483647) :
    Calls Try.prog 11 #[.int .i64 159, .int .i32 a, .int .i32 b] w fun e w' => e = .returned (.tuple #[.bool (testZ 159 a b), .int .i64 (testE 159)]) ∧ w' = w := by
  go_enter Try.func11, Try.ntmps11
  go_wp2
  go_ret2
  exact ⟨fin2b rfl rfl, rfl⟩
set_option maxRecDepth 8000 in
set_option maxHeartbeats 2000000 in
theorem ttest_160 (a b : Int) (w : World) (ha : -2147483648 ≤ a) (ha2 : a ≤ 2147483647) (hb : -2147483648 ≤ b) (hb2 : b ≤ 2147483647) :
    Calls Try.prog 11 #[.int .i64 160, .int .i32 a, .int .i32 b] w fun e w' => e = .returned (.tuple #[.bool (testZ 160 a b), .int .i64 (testE 160)]) ∧ w' = w := by
  go_enter Try.func11, Try.ntmps11
  go_wp2
  go_ret2
  exact ⟨fin2b rfl rfl, rfl⟩
set_option maxRecDepth 8000 in
set_option maxHeartbeats 2000000 in
theorem ttest_161 (a b : Int) (w : World) (ha : -2147483648 ≤ a) (ha2 : a ≤ 2147483647) (hb : -2147483648 ≤ b) (hb2 : b ≤ 2147483647) :
    Calls Try.prog 11 #[.int .i64 161, .int .i32 a, .int .i32 b] w fun e w' => e = .returned (.tuple #[.bool (testZ 161 a b), .int .i64 (testE 161)]) ∧ w' = w := by
  go_enter Try.func11, Try.ntmps11
  go_wp2
  go_ret2
  exact ⟨fin2b rfl rfl, rfl⟩
set_option maxRecDepth 8000 in
set_option maxHeartbeats 2000000 in
theorem ttest_162 (a b : Int) (w : World) (ha : -2147483648 ≤ a) (ha2 : a ≤ 2147483647) (hb : -2147483648 ≤ b) (hb2 : b ≤ 2147483647) :
    Calls Try.prog 11 #[.int .i64 162, .int .i32 a, .int .i32 b] w fun e w' => e = .returned (.tuple #[.bool (testZ 162 a b), .int .i64 (testE 162)]) ∧ w' = w := by
  go_enter Try.func11, Try.ntmps11
  go_wp2
  go_ret2
  exact ⟨fin2b rfl rfl, rfl⟩
set_option maxRecDepth 8000 in
set_option maxHeartbeats 2000000 in
theorem ttest_163 (a b : Int) (w : World) (ha : -2147483648 ≤ a) (ha2 : a ≤ 2147483647) (hb : -2147483648 ≤ b) (hb2 : b ≤ 2147483647) :
    Calls Try.prog 11 #[.int .i64 163, .int .i32 a, .int .i32 b] w fun e w' => e = .returned (.tuple #[.bool (testZ 163 a b), .int .i64 (testE 163)]) ∧ w' = w := by
  go_enter Try.func11, Try.ntmps11
  go_wp2
  go_ret2
  exact ⟨fin2b rfl rfl, rfl⟩
set_option maxRecDepth 8000 in
set_option maxHeartbeats 2000000 in
theorem ttest_164 (a b : Int) (w : World) (ha : -2147483648 ≤ a) (ha2 : a ≤ 2147483647) (hb : -2147483648 ≤ b) (hb2 : b ≤ 2147483647) :
    Calls Try.prog 11 #[.int .i64 164, .int .i32 a, .int .i32 b] w fun e w' => e = .returned (.tuple #[.bool (testZ 164 a b), .int .i64 (testE 164)]) ∧ w' = w := by
  go_enter Try.func11, Try.ntmps11
  go_wp2
  go_ret2
  exact ⟨fin2b rfl rfl, rfl⟩
set_option maxRecDepth 8000 in
set_option maxHeartbeats 2000000 in
theorem ttest_none (op a b : Int) (w : World) (h : op < 153 ∨ 164 < op) :
    Calls Try.prog 11 #[.int .i64 op, .int .i32 a, .int .i32 b] w fun e w' => e = .returned (.tuple #[.bool (testZ op a b), .int .i64 (testE op)]) ∧ w' = w := by
  have e1 : testZ op a b = false := by
    unfold testZ cmpZ
    rw [if_neg (by omega), if_neg (by omega), if_neg (by omega), if_neg (by omega), if_neg (by omega), if_neg (by omega), if_neg (by omega)]
  have e2 : testE op = 15 := if_neg (by omega)
  rw [e1, e2]
  clear e1 e2
  have g153 : (op == 153) = false := by simp; omega
  have g154 : (op == 154) = false := by simp; omega
  have g155 : (op == 155) = false := by simp; omega
  have g156 : (op == 156) = false := by simp; omega
  have g157 : (op == 157) = false := by simp; omega
  have g158 : (op == 158) = false := by simp; omega
  have g159 : (op == 159) = false := by simp; omega
  have g160 : (op == 160) = false := by simp; omega
  have g161 : (op == 161) = false := by simp; omega
  have g162 : (op == 162) = false := by simp; omega
  have g163 : (op == 163) = false := by simp; omega
  have g164 : (op == 164) = false := by simp; omega
  rcases h with h | h
  all_goals
    go_enter Try.func11, Try.ntmps11
    go_wp2
    go_ret2
    exact ⟨rfl, rfl⟩
theorem ttest_any (op a b : Int) (w : World) (ha : -2147483648 ≤ a) (ha2 : a ≤ 2147483647) (hb : -2147483648 ≤ b) (hb2 : b ≤ 2147483647) :
    Calls Try.prog 11 #[.int .i64 op, .int .i32 a, .int .i32 b] w fun e w' => e = .returned (.tuple #[.bool (testZ op a b), .int .i64 (testE op)]) ∧ w' = w := by
  by_cases h153 : op = 153
  · subst h153
    exact ttest_153 a b w ha ha2 hb hb2
  by_cases h154 : op = 154
  · subst h154
    exact ttest_154 a b w ha ha2 hb hb2
  by_cases h155 : op = 155
  · subst h155
    exact ttest_155 a b w ha ha2 hb hb2
  by_cases h156 : op = 156
  · subst h156
    exact ttest_156 a b w ha ha2 hb hb2
  by_cases h157 : op = 157
  · subst h157
    exact ttest_157 a b w ha ha2 hb hb2
  by_cases h158 : op = 158
  · subst h158
    exact ttest_158 a b w ha ha2 hb hb2
  by_cases h159 : op = 159
  · subst h159
    exact ttest_159 a b w ha ha2 hb hb2
  by_cases h160 : op = 160
  · subst h160
    exact ttest_160 a b w ha ha2 hb hb2
  by_cases h161 : op = 161
  · subst h161
    exact ttest_161 a b w ha ha2 hb hb2
  by_cases h162 : op = 162
  · subst h162
    exact ttest_162 a b w ha ha2 hb hb2
  by_cases h163 : op = 163
  · subst h163
    exact ttest_163 a b w ha ha2 hb hb2
  by_cases h164 : op = 164
  · subst h164
    exact ttest_164 a b w ha ha2 hb hb2
  exact ttest_none op a b w (by omega)
set_option maxRecDepth 8000 in
set_option maxHeartbeats 2000000 in
theorem utest_153 (a b : Int) (w : World) (ha : -2147483648 ≤ a) (ha2 : a ≤ 2147483647) (hb : -2147483648 ≤ b) (hb2 : b ≤ 2147483647) :
    Calls Try.prog 12 #[.int .i64 153, .int .i32 a, .int .i32 b] w fun e w' => e = .returned (.tuple #[.bool (testZ 153 a b), .int .i64 (testE 153)]) ∧ w' = w := by
  go_enter Try.func12, Try.ntmps12
  go_wp2
  go_ret2
  exact ⟨fin2b rfl rfl, rfl⟩
set_option maxRecDepth 8000 in
set_option maxHeartbeats 2000000 in
theorem utest_154 (a b : Int) (w : World) (ha : -2147483648 ≤ a) (ha2 : a ≤ 2147483647) (hb : -2147483648 ≤ b) (hb2 : b ≤ 2147483647) :
    Calls Try.prog 12 #[.int .i64 154, .int .i32 a, .int .i32 b] w fun e w' => e = .returned (.tuple #[.bool (testZ 154 a b), .int .i64 (testE 154)]) ∧ w' = w := by
  go_enter Try.func12, Try.ntmps12
  go_wp2
  go_ret2
  exact ⟨fin2b rfl rfl, rfl⟩
set_option maxRecDepth 8000 in
set_option maxHeartbeats 2000000 in
theorem utest_155 (a b : Int) (w : World) (ha : -2147483648 ≤ a) (ha2 : a ≤ 2147483647) (hb : -2147483648 ≤ b) (hb2 : b ≤ 2147483647) :
    Calls Try.prog 12 #[.int .i64 155, .int .i32 a, .int .i32 b] w fun e w' => e = .returned (.tuple #[.bool (testZ 155 a b), .int .i64 (testE 155)]) ∧ w' = w := by
  go_enter Try.func12, Try.ntmps12
  go_wp2
  go_ret2
  exact ⟨fin2b rfl rfl, rfl⟩
set_option maxRecDepth 8000 in
set_option maxHeartbeats 2000000 in
theorem utest_156 (a b : Int) (w : World) (ha : -2147483648 ≤ a) (ha2 : a ≤ 2147483647) (hb : -2147483648 ≤ b) (hb2 : b ≤ 2147483647) :
    Calls Try.prog 12 #[.int .i64 156, .int .i32 a, .int .i32 b] w fun e w' => e = .returned (.tuple #[.bool (testZ 156 a b), .int .i64 (testE 156)]) ∧ w' = w := by
  go_enter Try.func12, Try.ntmps12
  go_wp2
  go_ret2
  exact ⟨fin2b rfl rfl, rfl⟩
set_option maxRecDepth 8000 in
set_option maxHeartbeats 2000000 in
theorem utest_157 (a b : Int) (w : World) (ha : -2147483648 ≤ a) (ha2 : a ≤ 2147483647) (hb : -2147483648 ≤ b) (hb2 : b ≤ 2147483647) :
    Calls Try.prog 12 #[.int .i64 157, .int .i32 a, .int .i32 b] w fun e w' => e = .returned (.tuple #[.bool (testZ 157 a b), .int .i64 (testE 157)]) ∧ w' = w := by
  go_enter Try.func12, Try.ntmps12
  go_wp2
  go_ret2
  exact ⟨fin2b rfl rfl, rfl⟩
set_option maxRecDepth 8000 in
set_option maxHeartbeats 2000000 in
theorem utest_158 (a b : Int) (w : World) (ha : -2147483648 ≤ a) (ha2 : a ≤ 2147483647) (hb : -2147483648 ≤ b) (hb2 : b ≤ 2147483647) :
    Calls Try.prog 12 #[.int .i64 158, .int .i32 a, .int .i32 b] w fun e w' => e = .returned (.tuple #[.bool (testZ 158 a b), .int .i64 (testE 158)]) ∧ w' = w := by
  go_enter Try.func12, Try.ntmps12
  go_wp2
  go_ret2
  exact ⟨fin2b rfl rfl, rfl⟩
set_option maxRecDepth 8000 in
set_option maxHeartbeats 2000000 in
theorem utest_159 (a b : Int) (w : World) (ha : -2147483648 ≤ a) (ha2 : a ≤ 2147483647) (hb : -2147483648 ≤ b) (hb2 : b ≤ 2147483647) :
    Calls Try.prog 12 #[.int .i64 159, .int .i32 a, .int .i32 b] w fun e w' => e = .returned (.tuple #[.bool (testZ 159 a b), .int .i64 (testE 159)]) ∧ w' = w := by
  go_enter Try.func12, Try.ntmps12
  go_wp2
  go_ret2
  exact ⟨fin2b rfl rfl, rfl⟩
set_option maxRecDepth 8000 in
set_option maxHeartbeats 2000000 in
theorem utest_160 (a b : Int) (w : World) (ha : -2147483648 ≤ a) (ha2 : a ≤ 2147483647) (hb : -2147483648 ≤ b) (hb2 : b ≤ 2147483647) :
    Calls Try.prog 12 #[.int .i64 160, .int .i32 a, .int .i32 b] w fun e w' => e = .returned (.tuple #[.bool (testZ 160 a b), .int .i64 (testE 160)]) ∧ w' = w := by
  go_enter Try.func12, Try.ntmps12
  go_wp2
  go_ret2
  exact ⟨fin2b rfl rfl, rfl⟩
set_option maxRecDepth 8000 in
set_option maxHeartbeats 2000000 in
theorem utest_161 (a b : Int) (w : World) (ha : -2147483648 ≤ a) (ha2 : a ≤ 2147483647) (hb : -2147483648 ≤ b) (hb2 : b ≤ 2147483647) :
    Calls Try.prog 12 #[.int .i64 161, .int .i32 a, .int .i32 b] w fun e w' => e = .returned (.tuple #[.bool (testZ 161 a b), .int .i64 (testE 161)]) ∧ w' = w := by
  go_enter Try.func12, Try.ntmps12
  go_wp2
  go_ret2
  exact ⟨fin2b rfl rfl, rfl⟩
set_option maxRecDepth 8000 in
set_option maxHeartbeats 2000000 in
theorem utest_162 (a b : Int) (w : World) (ha : -2147483648 ≤ a) (ha2 : a ≤ 2147483647) (hb : -2147483648 ≤ b) (hb2 : b ≤ 2147483647) :
    Calls Try.prog 12 #[.int .i64 162, .int .i32 a, .int .i32 b] w fun e w' => e = .returned (.tuple #[.bool (testZ 162 a b), .int .i64 (testE 162)]) ∧ w' = w := by
  go_enter Try.func12, Try.ntmps12
  go_wp2
  go_ret2
  exact ⟨fin2b rfl rfl, rfl⟩
set_option maxRecDepth 8000 in
set_option maxHeartbeats 2000000 in
theorem utest_163 (a b : Int) (w : World) (ha : -2147483648 ≤ a) (ha2 : a ≤ 2147483647) (hb : -2147483648 ≤ b) (hb2 : b ≤ 2147483647) :
    Calls Try.prog 12 #[.int .i64 163, .int .i32 a, .int .i32 b] w fun e w' => e = .returned (.tuple #[.bool (testZ 163 a b), .int .i64 (testE 163)]) ∧ w' = w := by
  go_enter Try.func12, Try.ntmps12
  go_wp2
  go_ret2
  exact ⟨fin2b rfl rfl, rfl⟩
set_option maxRecDepth 8000 in
set_option maxHeartbeats 2000000 in
theorem utest_164 (a b : Int) (w : World) (ha : -2147483648 ≤ a) (ha2 : a ≤ 2147483647) (hb : -2147483648 ≤ b) (hb2 : b ≤ 2147483647) :
    Calls Try.prog 12 #[.int .i64 164, .int .i32 a, .int .i32 b] w fun e w' => e = .returned (.tuple #[.bool (testZ 164 a b), .int .i64 (testE 164)]) ∧ w' = w := by
  go_enter Try.func12, Try.ntmps12
  go_wp2
  go_ret2
  exact ⟨fin2b rfl rfl, rfl⟩
set_option maxRecDepth 8000 in
set_option maxHeartbeats 2000000 in
theorem utest_none (op a b : Int) (w : World) (h : op < 153 ∨ 164 < op) :
    Calls Try.prog 12 #[.int .i64 op, .int .i32 a, .int .i32 b] w fun e w' => e = .returned (.tuple #[.bool (testZ op a b), .int .i64 (testE op)]) ∧ w' = w := by
  have e1 : testZ op a b = false := by
    unfold testZ cmpZ
    rw [if_neg (by omega), if_neg (by omega), if_neg (by omega), if_neg (by omega), if_neg (by omega), if_neg (by omega), if_neg (by omega)]
  have e2 : testE op = 15 := if_neg (by omega)
  rw [e1, e2]
  clear e1 e2
  have g153 : (op == 153) = false := by simp; omega
  have g154 : (op == 154) = false := by simp; omega
  have g155 : (op == 155) = false := by simp; omega
  have g156 : (op == 156) = false := by simp; omega
  have g157 : (op == 157) = false := by simp; omega
  have g158 : (op == 158) = false := by simp; omega
  have g159 : (op == 159) = false := by simp; omega
  have g160 : (op == 160) = false := by simp; omega
  have g161 : (op == 161) = false := by simp; omega
  have g162 : (op == 162) = false := by simp; omega
  have g163 : (op == 163) = false := by simp; omega
  have g164 : (op == 164) = false := by simp; omega
  rcases h with h | h
  all_goals
    go_enter Try.func12, Try.ntmps12
    go_wp2
    go_ret2
    exact ⟨rfl, rfl⟩
theorem utest_any (op a b : Int) (w : World) (ha : -2147483648 ≤ a) (ha2 : a ≤ 2147483647) (hb : -2147483648 ≤ b) (hb2 : b ≤ 2147483647) :
    Calls Try.prog 12 #[.int .i64 op, .int .i32 a, .int .i32 b] w fun e w' => e = .returned (.tuple #[.bool (testZ op a b), .int .i64 (testE op)]) ∧ w' = w := by
  by_cases h153 : op = 153
  · subst h153
    exact utest_153 a b w ha ha2 hb hb2
  by_cases h154 : op = 154
  · subst h154
    exact utest_154 a b w ha ha2 hb hb2
  by_cases h155 : op = 155
  · subst h155
    exact utest_155 a b w ha ha2 hb hb2
  by_cases h156 : op = 156
  · subst h156
    exact utest_156 a b w ha ha2 hb hb2
  by_cases h157 : op = 157
  · subst h157
    exact utest_157 a b w ha ha2 hb hb2
  by_cases h158 : op = 158
  · subst h158
    exact utest_158 a b w ha ha2 hb hb2
  by_cases h159 : op = 159
  · subst h159
    exact utest_159 a b w ha ha2 hb hb2
  by_cases h160 : op = 160
  · subst h160
    exact utest_160 a b w ha ha2 hb hb2
  by_cases h161 : op = 161
  · subst h161
    exact utest_161 a b w ha ha2 hb hb2
  by_cases h162 : op = 162
  · subst h162
    exact utest_162 a b w ha ha2 hb hb2
  by_cases h163 : op = 163
  · subst h163
    exact utest_163 a b w ha ha2 hb hb2
  by_cases h164 : op = 164
  · subst h164
    exact utest_164 a b w ha ha2 hb hb2
  exact utest_none op a b w (by omega)
set_option maxRecDepth 8000 in
set_option maxHeartbeats 2000000 in
theorem tconst_2 (p a b : Int) (w : World) :
    Calls Try.prog 13 #[.agg #[.int .i64 p, .int .i64 2, .int .i64 a, .int .i64 b]] w fun e w' => e = .returned (.tuple #[.int .i32 (constZ 2 a), .bool (constB 2)]) ∧ Below w.heap.size w w' := by
  go_enter Try.func13, Try.ntmps13
  go_wp2
  go_ret2
  exact ⟨fin2c rfl rfl, by go_grown⟩
set_option maxRecDepth 8000 in
set_option maxHeartbeats 2000000 in
theorem tconst_3 (p a b : Int) (w : World) :
    Calls Try.prog 13 #[.agg #[.int .i64 p, .int .i64 3, .int .i64 a, .int .i64 b]] w fun e w' => e = .returned (.tuple #[.int .i32 (constZ 3 a), .bool (constB 3)]) ∧ Below w.heap.size w w' := by
  go_enter Try.func13, Try.ntmps13
  go_wp2
  go_ret2
  exact ⟨fin2c rfl rfl, by go_grown⟩
set_option maxRecDepth 8000 in
set_option maxHeartbeats 2000000 in
theorem tconst_4 (p a b : Int) (w : World) :
    Calls Try.prog 13 #[.agg #[.int .i64 p, .int .i64 4, .int .i64 a, .int .i64 b]] w fun e w' => e = .returned (.tuple #[.int .i32 (constZ 4 a), .bool (constB 4)]) ∧ Below w.heap.size w w' := by
  go_enter Try.func13, Try.ntmps13
  go_wp2
  go_ret2
  exact ⟨fin2c rfl rfl, by go_grown⟩
set_option maxRecDepth 8000 in
set_option maxHeartbeats 2000000 in
theorem tconst_5 (p a b : Int) (w : World) :
    Calls Try.prog 13 #[.agg #[.int .i64 p, .int .i64 5, .int .i64 a, .int .i64 b]] w fun e w' => e = .returned (.tuple #[.int .i32 (constZ 5 a), .bool (constB 5)]) ∧ Below w.heap.size w w' := by
  go_enter Try.func13, Try.ntmps13
  go_wp2
  go_ret2
  exact ⟨fin2c rfl rfl, by go_grown⟩
set_option maxRecDepth 8000 in
set_option maxHeartbeats 2000000 in
theorem tconst_6 (p a b : Int) (w : World) :
    Calls Try.prog 13 #[.agg #[.int .i64 p, .int .i64 6, .int .i64 a, .int .i64 b]] w fun e w' => e = .returned (.tuple #[.int .i32 (constZ 6 a), .bool (constB 6)]) ∧ Below w.heap.size w w' := by
  go_enter Try.func13, Try.ntmps13
  go_wp2
  go_ret2
  exact ⟨fin2c rfl rfl, by go_grown⟩
set_option maxRecDepth 8000 in
set_option maxHeartbeats 2000000 in
theorem tconst_7 (p a b : Int) (w : World) :
    Calls Try.prog 13 #[.agg #[.int .i64 p, .int .i64 7, .int .i64 a, .int .i64 b]] w fun e w' => e = .returned (.tuple #[.int .i32 (constZ 7 a), .bool (constB 7)]) ∧ Below w.heap.size w w' := by
  go_enter Try.func13, Try.ntmps13
  go_wp2
  go_ret2
  exact ⟨fin2c rfl rfl, by go_grown⟩
set_option maxRecDepth 8000 in
set_option maxHeartbeats 2000000 in
theorem tconst_8 (p a b : Int) (w : World) :
    Calls Try.prog 13 #[.agg #[.int .i64 p, .int .i64 8, .int .i64 a, .int .i64 b]] w fun e w' => e = .returned (.tuple #[.int .i32 (constZ 8 a), .bool (constB 8)]) ∧ Below w.heap.size w w' := by
  go_enter Try.func13, Try.ntmps13
  go_wp2
  go_ret2
  exact ⟨fin2c rfl rfl, by go_grown⟩
set_option maxRecDepth 8000 in
set_option maxHeartbeats 2000000 in
theorem tconst_16 (p a b : Int) (w : World) :
    Calls Try.prog 13 #[.agg #[.int .i64 p, .int .i64 16, .int .i64 a, .int .i64 b]] w fun e w' => e = .returned (.tuple #[.int .i32 (constZ 16 a), .bool (constB 16)]) ∧ Below w.heap.size w w' := by
  go_enter Try.func13, Try.ntmps13
  go_wp2
  go_ret2
  exact ⟨fin2c rfl rfl, by go_grown⟩
set_option maxRecDepth 8000 in
set_option maxHeartbeats 2000000 in
theorem tconst_17 (p a b : Int) (w : World) :
    Calls Try.prog 13 #[.agg #[.int .i64 p, .int .i64 17, .int .i64 a, .int .i64 b]] w fun e w' => e = .returned (.tuple #[.int .i32 (constZ 17 a), .bool (constB 17)]) ∧ Below w.heap.size w w' := by
  go_enter Try.func13, Try.ntmps13
  go_wp2
  go_ret2
  exact ⟨fin2c rfl rfl, by go_grown⟩
set_option maxRecDepth 8000 in
set_option maxHeartbeats 2000000 in
theorem tconst_none (p op a b : Int) (w : World) (h : op < 2 ∨ 8 < op) (h1 : op ≠ 16) (h2 : op ≠ 17) :
    Calls Try.prog 13 #[.agg #[.int .i64 p, .int .i64 op, .int .i64 a, .int .i64 b]] w fun e w' => e = .returned (.tuple #[.int .i32 (constZ op a), .bool (constB op)]) ∧ Below w.heap.size w w' := by
  have e1 : constZ op a = 0 := by unfold constZ; rw [if_neg (by omega), if_neg (by omega)]
  have e2 : constB op = false := by unfold constB; rw [decide_eq_false (by omega), decide_eq_false (by omega)]; rfl
  rw [e1, e2]
  clear e1 e2
  have g2 : (op == 2) = false := by simp; omega
  have g3 : (op == 3) = false := by simp; omega
  have g4 : (op == 4) = false := by simp; omega
  have g5 : (op == 5) = false := by simp; omega
  have g6 : (op == 6) = false := by simp; omega
  have g7 : (op == 7) = false := by simp; omega
  have g8 : (op == 8) = false := by simp; omega
  have g16 : (op == 16) = false := by simp; omega
  have g17 : (op == 17) = false := by simp; omega
  rcases h with h | h
  all_goals
    clear h1 h2
    go_enter Try.func13, Try.ntmps13
    go_wp2
    go_ret2
    exact ⟨rfl, by go_grown⟩
theorem tconst_any (p op a b : Int) (w : World) :
    Calls Try.prog 13 #[.agg #[.int .i64 p, .int .i64 op, .int .i64 a, .int .i64 b]] w fun e w' => e = .returned (.tuple #[.int .i32 (constZ op a), .bool (constB op)]) ∧ Below w.heap.size w w' := by
  by_cases h2 : op = 2
  · subst h2
    exact tconst_2 p a b w
  by_cases h3 : op = 3
  · subst h3
    exact tconst_3 p a b w
  by_cases h4 : op = 4
  · subst h4
    exact tconst_4 p a b w
  by_cases h5 : op = 5
  · subst h5
    exact tconst_5 p a b w
  by_cases h6 : op = 6
  · subst h6
    exact tconst_6 p a b w
  by_cases h7 : op = 7
  · subst h7
    exact tconst_7 p a b w
  by_cases h8 : op = 8
  · subst h8
    exact tconst_8 p a b w
  by_cases h16 : op = 16
  · subst h16
    exact tconst_16 p a b w
  by_cases h17 : op = 17
  · subst h17
    exact tconst_17 p a b w
  exact tconst_none p op a b w (by omega) h16 h17
set_option maxRecDepth 8000 in
set_option maxHeartbeats 2000000 in
theorem uconst_2 (p a b : Int) (w : World) :
    Calls Try.prog 15 #[.agg #[.int .i64 p, .int .i64 2, .int .i64 a, .int .i64 b]] w fun e w' => e = .returned (.tuple #[.int .i32 (constZ 2 a), .bool (constB 2)]) ∧ Below w.heap.size w w' := by
  go_enter Try.func15, Try.ntmps15
  go_wp2
  go_ret2
  exact ⟨fin2c rfl rfl, by go_grown⟩
set_option maxRecDepth 8000 in
set_option maxHeartbeats 2000000 in
theorem uconst_3 (p a b : Int) (w : World) :
    Calls Try.prog 15 #[.agg #[.int .i64 p, .int .i64 3, .int .i64 a, .int .i64 b]] w fun e w' => e = .returned (.tuple #[.int .i32 (constZ 3 a), .bool (constB 3)]) ∧ Below w.heap.size w w' := by
  go_enter Try.func15, Try.ntmps15
  go_wp2
  go_ret2
  exact ⟨fin2c rfl rfl, by go_grown⟩
set_option maxRecDepth 8000 in
set_option maxHeartbeats 2000000 in
theorem uconst_4 (p a b : Int) (w : World) :
    Calls Try.prog 15 #[.agg #[.int .i64 p, .int .i64 4, .int .i64 a, .int .i64 b]] w fun e w' => e = .returned (.tuple #[.int .i32 (constZ 4 a), .bool (constB 4)]) ∧ Below w.heap.size w w' := by
  go_enter Try.func15, Try.ntmps15
  go_wp2
  go_ret2
  exact ⟨fin2c rfl rfl, by go_grown⟩
set_option maxRecDepth 8000 in
set_option maxHeartbeats 2000000 in
theorem uconst_5 (p a b : Int) (w : World) :
    Calls Try.prog 15 #[.agg #[.int .i64 p, .int .i64 5, .int .i64 a, .int .i64 b]] w fun e w' => e = .returned (.tuple #[.int .i32 (constZ 5 a), .bool (constB 5)]) ∧ Below w.heap.size w w' := by
  go_enter Try.func15, Try.ntmps15
  go_wp2
  go_ret2
  exact ⟨fin2c rfl rfl, by go_grown⟩
set_option maxRecDepth 8000 in
set_option maxHeartbeats 2000000 in
theorem uconst_6 (p a b : Int) (w : World) :
    Calls Try.prog 15 #[.agg #[.int .i64 p, .int .i64 6, .int .i64 a, .int .i64 b]] w fun e w' => e = .returned (.tuple #[.int .i32 (constZ 6 a), .bool (constB 6)]) ∧ Below w.heap.size w w' := by
  go_enter Try.func15, Try.ntmps15
  go_wp2
  go_ret2
  exact ⟨fin2c rfl rfl, by go_grown⟩
set_option maxRecDepth 8000 in
set_option maxHeartbeats 2000000 in
theorem uconst_7 (p a b : Int) (w : World) :
    Calls Try.prog 15 #[.agg #[.int .i64 p, .int .i64 7, .int .i64 a, .int .i64 b]] w fun e w' => e = .returned (.tuple #[.int .i32 (constZ 7 a), .bool (constB 7)]) ∧ Below w.heap.size w w' := by
  go_enter Try.func15, Try.ntmps15
  go_wp2
  go_ret2
  exact ⟨fin2c rfl rfl, by go_grown⟩
set_option maxRecDepth 8000 in
set_option maxHeartbeats 2000000 in
theorem uconst_8 (p a b : Int) (w : World) :
    Calls Try.prog 15 #[.agg #[.int .i64 p, .int .i64 8, .int .i64 a, .int .i64 b]] w fun e w' => e = .returned (.tuple #[.int .i32 (constZ 8 a), .bool (constB 8)]) ∧ Below w.heap.size w w' := by
  go_enter Try.func15, Try.ntmps15
  go_wp2
  go_ret2
  exact ⟨fin2c rfl rfl, by go_grown⟩
set_option maxRecDepth 8000 in
set_option maxHeartbeats 2000000 in
theorem uconst_16 (p a b : Int) (w : World) :
    Calls Try.prog 15 #[.agg #[.int .i64 p, .int .i64 16, .int .i64 a, .int .i64 b]] w fun e w' => e = .returned (.tuple #[.int .i32 (constZ 16 a), .bool (constB 16)]) ∧ Below w.heap.size w w' := by
  go_enter Try.func15, Try.ntmps15
  go_wp2
  go_ret2
  exact ⟨fin2c rfl rfl, by go_grown⟩
set_option maxRecDepth 8000 in
set_option maxHeartbeats 2000000 in
theorem uconst_17 (p a b : Int) (w : World) :
    Calls Try.prog 15 #[.agg #[.int .i64 p, .int .i64 17, .int .i64 a, .int .i64 b]] w fun e w' => e = .returned (.tuple #[.int .i32 (constZ 17 a), .bool (constB 17)]) ∧ Below w.heap.size w w' := by
  go_enter Try.func15, Try.ntmps15
  go_wp2
  go_ret2
  exact ⟨fin2c rfl rfl, by go_grown⟩
set_option maxRecDepth 8000 in
set_option maxHeartbeats 2000000 in
theorem uconst_none (p op a b : Int) (w : World) (h : op < 2 ∨ 8 < op) (h1 : op ≠ 16) (h2 : op ≠ 17) :
    Calls Try.prog 15 #[.agg #[.int .i64 p, .int .i64 op, .int .i64 a, .int .i64 b]] w fun e w' => e = .returned (.tuple #[.int .i32 (constZ op a), .bool (constB op)]) ∧ Below w.heap.size w w' := by
  have e1 : constZ op a = 0 := by unfold constZ; rw [if_neg (by omega), if_neg (by omega)]
  have e2 : constB op = false := by unfold constB; rw [decide_eq_false (by omega), decide_eq_false (by omega)]; rfl
  rw [e1, e2]
  clear e1 e2
  have g2 : (op == 2) = false := by simp; omega
  have g3 : (op == 3) = false := by simp; omega
  have g4 : (op == 4) = false := by simp; omega
  have g5 : (op == 5) = false := by simp; omega
  have g6 : (op == 6) = false := by simp; omega
  have g7 : (op == 7) = false := by simp; omega
  have g8 : (op == 8) = false := by simp; omega
  have g16 : (op == 16) = false := by simp; omega
  have g17 : (op == 17) = false := by simp; omega
  rcases h with h | h
  all_goals
    clear h1 h2
    go_enter Try.func15, Try.ntmps15
    go_wp2
    go_ret2
    exact ⟨rfl, by go_grown⟩
theorem uconst_any (p op a b : Int) (w : World) :
    Calls Try.prog 15 #[.agg #[.int .i64 p, .int .i64 op, .int .i64 a, .int .i64 b]] w fun e w' => e = .returned (.tuple #[.int .i32 (constZ op a), .bool (constB op)]) ∧ Below w.heap.size w w' := by
  by_cases h2 : op = 2
  · subst h2
    exact uconst_2 p a b w
  by_cases h3 : op = 3
  · subst h3
    exact uconst_3 p a b w
  by_cases h4 : op = 4
  · subst h4
    exact uconst_4 p a b w
  by_cases h5 : op = 5
  · subst h5
    exact uconst_5 p a b w
  by_cases h6 : op = 6
  · subst h6
    exact uconst_6 p a b w
  by_cases h7 : op = 7
  · subst h7
    exact uconst_7 p a b w
  by_cases h8 : op = 8
  · subst h8
    exact uconst_8 p a b w
  by_cases h16 : op = 16
  · subst h16
    exact uconst_16 p a b w
  by_cases h17 : op = 17
  · subst h17
    exact uconst_17 p a b w
  exact uconst_none p op a b w (by omega) h16 h17
end Go.Proofs.Ytbhlmafiemjljaa
