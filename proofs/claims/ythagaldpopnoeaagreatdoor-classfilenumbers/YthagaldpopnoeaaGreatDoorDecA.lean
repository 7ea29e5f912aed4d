/- firstCode reads the code that a list of bytes begins with. -/
import Derived.Test.YthagaldpopnoeaaGreatDoorBase
import Derived.Deep.QuietTactic
import Derived.BigQuiet
namespace Go.Proofs.YthagaldpopnoeaaGreatDoor
open Go.RowKit

set_option maxRecDepth 100000 in
theorem u8_and192F : ∀ X : Fin 256, bits .and .u8 ((X.val : Nat) : Int) 192 = ((X.val / 64 * 64 : Nat) : Int) := by decide
set_option maxRecDepth 100000 in
theorem u8_and224F : ∀ X : Fin 256, bits .and .u8 ((X.val : Nat) : Int) 224 = ((X.val / 32 * 32 : Nat) : Int) := by decide
set_option maxRecDepth 100000 in
theorem u8_and240F : ∀ X : Fin 256, bits .and .u8 ((X.val : Nat) : Int) 240 = ((X.val / 16 * 16 : Nat) : Int) := by decide
theorem u8_and192 (a : Int) (h0 : 0 ≤ a) (h1 : a ≤ 255) : bits .and .u8 a 192 = a / 64 * 64 := by
  obtain ⟨n, rfl⟩ := Int.eq_ofNat_of_zero_le h0
  have := u8_and192F ⟨n, by omega⟩
  simp only [] at this; rw [this]; omega
theorem u8_and224 (a : Int) (h0 : 0 ≤ a) (h1 : a ≤ 255) : bits .and .u8 a 224 = a / 32 * 32 := by
  obtain ⟨n, rfl⟩ := Int.eq_ofNat_of_zero_le h0
  have := u8_and224F ⟨n, by omega⟩
  simp only [] at this; rw [this]; omega
theorem u8_and240 (a : Int) (h0 : 0 ≤ a) (h1 : a ≤ 255) : bits .and .u8 a 240 = a / 16 * 16 := by
  obtain ⟨n, rfl⟩ := Int.eq_ofNat_of_zero_le h0
  have := u8_and240F ⟨n, by omega⟩
  simp only [] at this; rw [this]; omega

set_option maxRecDepth 8000 in
set_option maxHeartbeats 400000 in
theorem isTail_yes (c : Int) (w : World) (h0 : 0 ≤ c) (h1 : c ≤ 255) (h : c / 64 = 2) :
    Calls Tryz.prog 197 #[.int .u8 c] w fun e w' => e = .returned (.bool true) ∧ w' = w := by
  have e := u8_and192 c h0 h1
  rw [h] at e
  go_enter Tryz.func197, Tryz.ntmps197
  go_wp2
  go_ret
  exact ⟨rfl, rfl⟩
set_option maxRecDepth 8000 in
set_option maxHeartbeats 400000 in
theorem isTail_no (c : Int) (w : World) (h0 : 0 ≤ c) (h1 : c ≤ 255) (h : ¬ c / 64 = 2) :
    Calls Tryz.prog 197 #[.int .u8 c] w fun e w' => e = .returned (.bool false) ∧ w' = w := by
  have e := u8_and192 c h0 h1
  have e2 : (c / 64 * 64 == 128) = false := by simp; omega
  go_enter Tryz.func197, Tryz.ntmps197
  go_wp2
  go_ret
  exact ⟨rfl, rfl⟩
set_option maxRecDepth 8000 in
set_option maxHeartbeats 400000 in
theorem bits_any (c : Int) (w : World) (h0 : 0 ≤ c) (h1 : c ≤ 255) :
    Calls Tryz.prog 198 #[.int .u8 c] w fun e w' => e = .returned (.int .i32 (c % 64)) ∧ w' = w := by
  go_enter Tryz.func198, Tryz.ntmps198
  go_wp2
  go_ret
  exact ⟨rfl, rfl⟩

/-- Nothing there: no code. -/
theorem fc_nil (ao : Option Addr) (cap : Nat) (w : World) :
    Calls Tryz.prog 181 #[.slice ao 0 cap] w fun e w' => e = .returned (.tuple #[.int .i32 0, .int .i64 0]) ∧ w' = w := by
  go_enter Tryz.func181, Tryz.ntmps181
  go_wp2
  go_ret2
  exact ⟨rfl, rfl⟩
set_option maxRecDepth 8000 in
set_option maxHeartbeats 400000 in
theorem fc_one (g off n cap : Nat) (a : Int) (w : World) (hn : 1 ≤ n) (h0 : w.cell? ⟨g, off, none⟩ = some (.int .u8 a)) (ha0 : 1 ≤ a) (ha1 : a ≤ 127) :
    Calls Tryz.prog 181 #[.slice (some ⟨g, off, none⟩) n cap] w fun e w' => e = .returned (.tuple #[.int .i32 a, .int .i64 1]) ∧ w' = w := by
  go_enter Tryz.func181, Tryz.ntmps181
  go_wp2
  go_ret2
  exact ⟨rfl, rfl⟩
set_option maxRecDepth 8000 in
set_option maxHeartbeats 800000 in
theorem fc_two (g off n cap : Nat) (a b : Int) (w : World) (hn : 2 ≤ n) (h0 : w.cell? ⟨g, off, none⟩ = some (.int .u8 a)) (h1 : w.cell? ⟨g, off + 1, none⟩ = some (.int .u8 b))
    (ha : a / 32 = 6) (hb : b / 64 = 2) (hr : a % 32 * 64 + b % 64 = 0 ∨ 127 < a % 32 * 64 + b % 64) :
    Calls Tryz.prog 181 #[.slice (some ⟨g, off, none⟩) n cap] w fun e w' => e = .returned (.tuple #[.int .i32 (a % 32 * 64 + b % 64), .int .i64 2]) ∧ ∃ q, w' = w.drewN q := by
  have e1 := u8_and224 a (by omega) (by omega)
  rw [ha] at e1
  have e2 := u8_and31 a (by omega) (by omega)
  have hn' : (1 : Int) ≤ (n : Int) := by omega
  have hn2 : (2 : Int) ≤ (n : Int) := by omega
  have a1 : 127 < a := by omega
  rcases hr with hr | hr
  all_goals
    go_enter Tryz.func181, Tryz.ntmps181
    go_wp2_with (go_at_call 197; refine (isTail_yes _ _ (by omega) (by omega) hb).mono ?_; rintro e w' ⟨rfl, hww⟩; cases hww)
    go_quiet ((go_at_call 198; exact Calls.quiet_of_same (bits_any _ _ (by omega) (by omega))))
    go_wp2
    go_ret2
    refine ⟨?_, _, rfl⟩
    rfl
set_option maxRecDepth 8000 in
set_option maxHeartbeats 800000 in
theorem fc_two_no (g off n cap : Nat) (a b : Int) (w : World) (hn : 2 ≤ n) (h0 : w.cell? ⟨g, off, none⟩ = some (.int .u8 a)) (h1 : w.cell? ⟨g, off + 1, none⟩ = some (.int .u8 b))
    (ha : a / 32 = 6) (hb : b / 64 = 2) (hr : ¬ a % 32 * 64 + b % 64 = 0) (hr2 : a % 32 * 64 + b % 64 ≤ 127) :
    Calls Tryz.prog 181 #[.slice (some ⟨g, off, none⟩) n cap] w fun e w' => e = .returned (.tuple #[.int .i32 0, .int .i64 0]) ∧ ∃ q, w' = w.drewN q := by
  have e1 := u8_and224 a (by omega) (by omega)
  rw [ha] at e1
  have e2 := u8_and31 a (by omega) (by omega)
  have hn' : (1 : Int) ≤ (n : Int) := by omega
  have hn2 : (2 : Int) ≤ (n : Int) := by omega
  have a1 : 127 < a := by omega
  have r1 : (a % 32 * 64 + b % 64 == 0) = false := by simp; omega
  have r2 : decide (127 < a % 32 * 64 + b % 64) = false := by simp; omega
  clear hr
  go_enter Tryz.func181, Tryz.ntmps181
  go_wp2_with (go_at_call 197; refine (isTail_yes _ _ (by omega) (by omega) hb).mono ?_; rintro e w' ⟨rfl, hww⟩; cases hww)
  go_quiet ((go_at_call 198; exact Calls.quiet_of_same (bits_any _ _ (by omega) (by omega))))
  go_wp2
  go_ret2
  exact ⟨rfl, _, rfl⟩
set_option maxRecDepth 8000 in
set_option maxHeartbeats 1600000 in
theorem fc_three (g off n cap : Nat) (a b c : Int) (w : World) (hn : 3 ≤ n) (h0 : w.cell? ⟨g, off, none⟩ = some (.int .u8 a)) (h1 : w.cell? ⟨g, off + 1, none⟩ = some (.int .u8 b)) (h2 : w.cell? ⟨g, off + 2, none⟩ = some (.int .u8 c))
    (ha : a / 16 = 14) (hb : b / 64 = 2) (hc : c / 64 = 2) (hr : 2047 < a % 16 * 4096 + b % 64 * 64 + c % 64) :
    Calls Tryz.prog 181 #[.slice (some ⟨g, off, none⟩) n cap] w fun e w' => e = .returned (.tuple #[.int .i32 (a % 16 * 4096 + b % 64 * 64 + c % 64), .int .i64 3]) ∧ ∃ q, w' = w.drewN q := by
  have e1 := u8_and224 a (by omega) (by omega)
  rw [show a / 32 = 7 by omega] at e1
  have e3 := u8_and240 a (by omega) (by omega)
  rw [ha] at e3
  have e2 := u8_and15 a (by omega) (by omega)
  have hn' : (1 : Int) ≤ (n : Int) := by omega
  have hn2 : (2 : Int) ≤ (n : Int) := by omega
  have hn3 : (3 : Int) ≤ (n : Int) := by omega
  have a1 : 127 < a := by omega
  go_enter Tryz.func181, Tryz.ntmps181
  go_wp2_with (go_at_call 197; refine (isTail_yes _ _ (by omega) (by omega) (by omega)).mono ?_; rintro e w' ⟨rfl, hww⟩; cases hww)
  go_quiet ((go_at_call 198; exact Calls.quiet_of_same (bits_any _ _ (by omega) (by omega))))
  go_wp2
  go_ret2
  refine ⟨?_, _, rfl⟩
  rfl
set_option maxRecDepth 8000 in
set_option maxHeartbeats 1600000 in
theorem fc_three_no (g off n cap : Nat) (a b c : Int) (w : World) (hn : 3 ≤ n) (h0 : w.cell? ⟨g, off, none⟩ = some (.int .u8 a)) (h1 : w.cell? ⟨g, off + 1, none⟩ = some (.int .u8 b)) (h2 : w.cell? ⟨g, off + 2, none⟩ = some (.int .u8 c))
    (ha : a / 16 = 14) (hb : b / 64 = 2) (hc : c / 64 = 2) (hr : a % 16 * 4096 + b % 64 * 64 + c % 64 ≤ 2047) :
    Calls Tryz.prog 181 #[.slice (some ⟨g, off, none⟩) n cap] w fun e w' => e = .returned (.tuple #[.int .i32 0, .int .i64 0]) ∧ ∃ q, w' = w.drewN q := by
  have e1 := u8_and224 a (by omega) (by omega)
  rw [show a / 32 = 7 by omega] at e1
  have e3 := u8_and240 a (by omega) (by omega)
  rw [ha] at e3
  have e2 := u8_and15 a (by omega) (by omega)
  have hn' : (1 : Int) ≤ (n : Int) := by omega
  have hn2 : (2 : Int) ≤ (n : Int) := by omega
  have hn3 : (3 : Int) ≤ (n : Int) := by omega
  have a1 : 127 < a := by omega
  go_enter Tryz.func181, Tryz.ntmps181
  go_wp2_with (go_at_call 197; refine (isTail_yes _ _ (by omega) (by omega) (by omega)).mono ?_; rintro e w' ⟨rfl, hww⟩; cases hww)
  go_quiet ((go_at_call 198; exact Calls.quiet_of_same (bits_any _ _ (by omega) (by omega))))
  go_wp2
  go_ret2
  exact ⟨rfl, _, rfl⟩
set_option maxRecDepth 8000 in
set_option maxHeartbeats 1600000 in
/-- One byte alone that is no code. -/
theorem fc_bad1 (g off cap : Nat) (a : Int) (w : World) (h0 : w.cell? ⟨g, off, none⟩ = some (.int .u8 a)) (ha0 : a < 1 ∨ 127 < a) :
    Calls Tryz.prog 181 #[.slice (some ⟨g, off, none⟩) 1 cap] w fun e w' => e = .returned (.tuple #[.int .i32 0, .int .i64 0]) ∧ ∃ q, w' = w.drewN q := by
  rcases ha0 with ha0 | ha0
  all_goals
    go_enter Tryz.func181, Tryz.ntmps181
    go_wp2
    go_ret2
    exact ⟨rfl, 0, rfl⟩
set_option maxRecDepth 8000 in
set_option maxHeartbeats 1600000 in
/-- A first byte that is neither of two nor of three. -/
theorem fc_badA (g off n cap : Nat) (a : Int) (w : World) (hn : 1 ≤ n) (h0 : w.cell? ⟨g, off, none⟩ = some (.int .u8 a)) (ha0 : 0 ≤ a) (ha1 : a ≤ 255) (ha : a < 1 ∨ 127 < a) (h6 : ¬ a / 32 = 6) (h14 : ¬ a / 16 = 14) :
    Calls Tryz.prog 181 #[.slice (some ⟨g, off, none⟩) n cap] w fun e w' => e = .returned (.tuple #[.int .i32 0, .int .i64 0]) ∧ ∃ q, w' = w.drewN q := by
  have e1 := u8_and224 a (by omega) (by omega)
  have e3 := u8_and240 a (by omega) (by omega)
  have e4 : ¬ a / 32 * 32 = 192 := by omega
  have e5 : ¬ a / 16 * 16 = 224 := by omega
  have hn' : (1 : Int) ≤ (n : Int) := by omega
  by_cases c2 : (2 : Int) ≤ (n : Int)
  all_goals by_cases c3 : (3 : Int) ≤ (n : Int)
  all_goals try (exfalso; omega)
  all_goals rcases ha with ha | ha
  all_goals
    go_enter Tryz.func181, Tryz.ntmps181
    go_wp2
    go_ret2
    exact ⟨rfl, 0, rfl⟩
set_option maxRecDepth 8000 in
set_option maxHeartbeats 1600000 in
/-- A first byte of two, the second no tail. -/
theorem fc_badB (g off n cap : Nat) (a b : Int) (w : World) (hn : 2 ≤ n) (h0 : w.cell? ⟨g, off, none⟩ = some (.int .u8 a)) (h1 : w.cell? ⟨g, off + 1, none⟩ = some (.int .u8 b)) (h6 : a / 32 = 6) (hb0 : 0 ≤ b) (hb1 : b ≤ 255) (hb : ¬ b / 64 = 2) :
    Calls Tryz.prog 181 #[.slice (some ⟨g, off, none⟩) n cap] w fun e w' => e = .returned (.tuple #[.int .i32 0, .int .i64 0]) ∧ ∃ q, w' = w.drewN q := by
  have e1 := u8_and224 a (by omega) (by omega)
  have e3 := u8_and240 a (by omega) (by omega)
  rw [h6] at e1
  have e5 : ¬ a / 16 * 16 = 224 := by omega
  have hn' : (1 : Int) ≤ (n : Int) := by omega
  have hn2 : (2 : Int) ≤ (n : Int) := by omega
  have a1 : 127 < a := by omega
  by_cases c3 : (3 : Int) ≤ (n : Int)
  all_goals
    go_enter Tryz.func181, Tryz.ntmps181
    go_wp2_with (go_at_call 197; refine (isTail_no _ _ (by omega) (by omega) hb).mono ?_; rintro e w' ⟨rfl, hww⟩; cases hww)
    go_ret2
    exact ⟨rfl, 0, rfl⟩
set_option maxRecDepth 8000 in
set_option maxHeartbeats 1600000 in
/-- A first byte of three, and but two bytes. -/
theorem fc_badC (g off cap : Nat) (a : Int) (w : World) (h0 : w.cell? ⟨g, off, none⟩ = some (.int .u8 a)) (h14 : a / 16 = 14) :
    Calls Tryz.prog 181 #[.slice (some ⟨g, off, none⟩) 2 cap] w fun e w' => e = .returned (.tuple #[.int .i32 0, .int .i64 0]) ∧ ∃ q, w' = w.drewN q := by
  have e1 := u8_and224 a (by omega) (by omega)
  rw [show a / 32 = 7 by omega] at e1
  have a1 : 127 < a := by omega
  go_enter Tryz.func181, Tryz.ntmps181
  go_wp2
  go_ret2
  exact ⟨rfl, 0, rfl⟩
set_option maxRecDepth 8000 in
set_option maxHeartbeats 1600000 in
/-- A first byte of three, the second or the third no tail. -/
theorem fc_badD (g off n cap : Nat) (a b c : Int) (w : World) (hn : 3 ≤ n) (h0 : w.cell? ⟨g, off, none⟩ = some (.int .u8 a)) (h1 : w.cell? ⟨g, off + 1, none⟩ = some (.int .u8 b)) (h2 : w.cell? ⟨g, off + 2, none⟩ = some (.int .u8 c))
    (h14 : a / 16 = 14) (hb0 : 0 ≤ b) (hb1 : b ≤ 255) (hc0 : 0 ≤ c) (hc1 : c ≤ 255) (hbc : ¬ b / 64 = 2 ∨ (b / 64 = 2 ∧ ¬ c / 64 = 2)) :
    Calls Tryz.prog 181 #[.slice (some ⟨g, off, none⟩) n cap] w fun e w' => e = .returned (.tuple #[.int .i32 0, .int .i64 0]) ∧ ∃ q, w' = w.drewN q := by
  have e1 := u8_and224 a (by omega) (by omega)
  have e3 := u8_and240 a (by omega) (by omega)
  rw [show a / 32 = 7 by omega] at e1
  rw [h14] at e3
  have hn' : (1 : Int) ≤ (n : Int) := by omega
  have hn2 : (2 : Int) ≤ (n : Int) := by omega
  have hn3 : (3 : Int) ≤ (n : Int) := by omega
  have a1 : 127 < a := by omega
  rcases hbc with hb | ⟨hb, hc⟩
  · go_enter Tryz.func181, Tryz.ntmps181
    go_wp2_with (go_at_call 197; refine (isTail_no _ _ (by omega) (by omega) hb).mono ?_; rintro e w' ⟨rfl, hww⟩; cases hww)
    go_ret2
    exact ⟨rfl, 0, rfl⟩
  · go_enter Tryz.func181, Tryz.ntmps181
    go_wp2_with fail
    refine (isTail_yes _ _ (by omega) (by omega) hb).mono ?_
    rintro e w' ⟨rfl, hww⟩; cases hww
    go_wp2_with fail
    refine (isTail_no _ _ (by omega) (by omega) hc).mono ?_
    rintro e w' ⟨rfl, hww⟩; cases hww
    go_wp2
    go_ret2
    exact ⟨rfl, 0, rfl⟩
end Go.Proofs.YthagaldpopnoeaaGreatDoor
