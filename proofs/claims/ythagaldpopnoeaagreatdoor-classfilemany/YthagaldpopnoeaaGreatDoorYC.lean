import Derived.Test.YthagaldpopnoeaaGreatDoorBase
import Derived.Deep.QuietTactic
import Derived.BigQuiet
import Derived.Laws.BytesArg
import Derived.Test.YthagaldpopnoeaaGreatDoorShelf

/- firstCode reads the code that a list of bytes begins with. -/
namespace Go.Proofs.YthagaldpopnoeaaGreatDoor
open Go.RowKit

set_option maxRecDepth 100000 in
theorem u8_and192F : ∀ X : Fin 256, bits .and .u8 ((X.val : Nat) : Int) 192 = ((X.val / 64 * 64 : Nat) : Int) := by decide
set_option maxRecDepth 100000 in
theorem u8_and224F : ∀ X : Fin 256, bits .and .u8 ((X.val : Nat) : Int) 224 = ((X.val / 32 * 32 : Nat) : Int) := by decide
set_option maxRecDepth 100000 in
theorem u8_and240F : ∀ X : Fin 256, bits .and .u8 ((X.val : Nat) : Int) 240 = ((X.val / 16 * 16 : Nat) : Int) := by decide
theorem u8_and192 (a : Int) (h0 : 0 ≤ a) (h1 : a ≤ 255) : bits .and .u8 a 192 = a / 64 * 64 := by
  obtain ⟨n, rfl⟩ := Int.eq_ofNat_of_zero_le h0
  have := u8_and192F ⟨n, by omega⟩
  simp only [] at this; rw [this]; omega
theorem u8_and224 (a : Int) (h0 : 0 ≤ a) (h1 : a ≤ 255) : bits .and .u8 a 224 = a / 32 * 32 := by
  obtain ⟨n, rfl⟩ := Int.eq_ofNat_of_zero_le h0
  have := u8_and224F ⟨n, by omega⟩
  simp only [] at this; rw [this]; omega
theorem u8_and240 (a : Int) (h0 : 0 ≤ a) (h1 : a ≤ 255) : bits .and .u8 a 240 = a / 16 * 16 := by
  obtain ⟨n, rfl⟩ := Int.eq_ofNat_of_zero_le h0
  have := u8_and240F ⟨n, by omega⟩
  simp only [] at this; rw [this]; omega

set_option maxRecDepth 8000 in
set_option maxHeartbeats 400000 in
theorem isTail_yes (c : Int) (w : World) (h0 : 0 ≤ c) (h1 : c ≤ 255) (h : c / 64 = 2) :
    Calls Tryz.prog 197 #[.int .u8 c] w fun e w' => e = .returned (.bool true) ∧ w' = w := by
  have e := u8_and192 c h0 h1
  rw [h] at e
  go_enter Tryz.func197, Tryz.ntmps197
  go_wp2
  go_ret
  exact ⟨rfl, rfl⟩
set_option maxRecDepth 8000 in
set_option maxHeartbeats 400000 in
theorem isTail_no (c : Int) (w : World) (h0 : 0 ≤ c) (h1 : c ≤ 255) (h : ¬ c / 64 = 2) :
    Calls Tryz.prog 197 #[.int .u8 c] w fun e w' => e = .returned (.bool false) ∧ w' = w := by
  have e := u8_and192 c h0 h1
  have e2 : (c / 64 * 64 == 128) = false := by simp; omega
  go_enter Tryz.func197, Tryz.ntmps197
  go_wp2
  go_ret
  exact ⟨rfl, rfl⟩
set_option maxRecDepth 8000 in
set_option maxHeartbeats 400000 in
theorem bits_any (c : Int) (w : World) (h0 : 0 ≤ c) (h1 : c ≤ 255) :
    Calls Tryz.prog 198 #[.int .u8 c] w fun e w' => e = .returned (.int .i32 (c % 64)) ∧ w' = w := by
  go_enter Tryz.func198, Tryz.ntmps198
  go_wp2
  go_ret
  exact ⟨rfl, rfl⟩

/-- Nothing there: no code. -/
theorem fc_nil (ao : Option Addr) (cap : Nat) (w : World) :
    Calls Tryz.prog 181 #[.slice ao 0 cap] w fun e w' => e = .returned (.tuple #[.int .i32 0, .int .i64 0]) ∧ w' = w := by
  go_enter Tryz.func181, Tryz.ntmps181
  go_wp2
  go_ret2
  exact ⟨rfl, rfl⟩
set_option maxRecDepth 8000 in
set_option maxHeartbeats 400000 in
theorem fc_one (g off n cap : Nat) (a : Int) (w : World) (hn : 1 ≤ n) (h0 : w.cell? ⟨g, off, none⟩ = some (.int .u8 a)) (ha0 : 1 ≤ a) (ha1 : a ≤ 127) :
    Calls Tryz.prog 181 #[.slice (some ⟨g, off, none⟩) n cap] w fun e w' => e = .returned (.tuple #[.int .i32 a, .int .i64 1]) ∧ w' = w := by
  go_enter Tryz.func181, Tryz.ntmps181
  go_wp2
  go_ret2
  exact ⟨rfl, rfl⟩
set_option maxRecDepth 8000 in
set_option maxHeartbeats 800000 in
theorem fc_two (g off n cap : Nat) (a b : Int) (w : World) (hn : 2 ≤ n) (h0 : w.cell? ⟨g, off, none⟩ = some (.int .u8 a)) (h1 : w.cell? ⟨g, off + 1, none⟩ = some (.int .u8 b))
    (ha : a / 32 = 6) (hb : b / 64 = 2) (hr : a % 32 * 64 + b % 64 = 0 ∨ 127 < a % 32 * 64 + b % 64) :
    Calls Tryz.prog 181 #[.slice (some ⟨g, off, none⟩) n cap] w fun e w' => e = .returned (.tuple #[.int .i32 (a % 32 * 64 + b % 64), .int .i64 2]) ∧ ∃ q, w' = w.drewN q := by
  have e1 := u8_and224 a (by omega) (by omega)
  rw [ha] at e1
  have e2 := u8_and31 a (by omega) (by omega)
  have hn' : (1 : Int) ≤ (n : Int) := by omega
  have hn2 : (2 : Int) ≤ (n : Int) := by omega
  have a1 : 127 < a := by omega
  rcases hr with hr | hr
  all_goals
    go_enter Tryz.func181, Tryz.ntmps181
    go_wp2_with (go_at_call 197; refine (isTail_yes _ _ (by omega) (by omega) hb).mono ?_; rintro e w' ⟨rfl, hww⟩; cases hww)
    go_quiet ((go_at_call 198; exact Calls.quiet_of_same (bits_any _ _ (by omega) (by omega))))
    go_wp2
    go_ret2
    refine ⟨?_, _, rfl⟩
    rfl
set_option maxRecDepth 8000 in
set_option maxHeartbeats 800000 in
theorem fc_two_no (g off n cap : Nat) (a b : Int) (w : World) (hn : 2 ≤ n) (h0 : w.cell? ⟨g, off, none⟩ = some (.int .u8 a)) (h1 : w.cell? ⟨g, off + 1, none⟩ = some (.int .u8 b))
    (ha : a / 32 = 6) (hb : b / 64 = 2) (hr : ¬ a % 32 * 64 + b % 64 = 0) (hr2 : a % 32 * 64 + b % 64 ≤ 127) :
    Calls Tryz.prog 181 #[.slice (some ⟨g, off, none⟩) n cap] w fun e w' => e = .returned (.tuple #[.int .i32 0, .int .i64 0]) ∧ ∃ q, w' = w.drewN q := by
  have e1 := u8_and224 a (by omega) (by omega)
  rw [ha] at e1
  have e2 := u8_and31 a (by omega) (by omega)
  have hn' : (1 : Int) ≤ (n : Int) := by omega
  have hn2 : (2 : Int) ≤ (n : Int) := by omega
  have a1 : 127 < a := by omega
  have r1 : (a % 32 * 64 + b % 64 == 0) = false := by simp; omega
  have r2 : decide (127 < a % 32 * 64 + b % 64) = false := by simp; omega
  clear hr
  go_enter Tryz.func181, Tryz.ntmps181
  go_wp2_with (go_at_call 197; refine (isTail_yes _ _ (by omega) (by omega) hb).mono ?_; rintro e w' ⟨rfl, hww⟩; cases hww)
  go_quiet ((go_at_call 198; exact Calls.quiet_of_same (bits_any _ _ (by omega) (by omega))))
  go_wp2
  go_ret2
  exact ⟨rfl, _, rfl⟩
set_option maxRecDepth 8000 in
set_option maxHeartbeats 1600000 in
theorem fc_three (g off n cap : Nat) (a b c : Int) (w : World) (hn : 3 ≤ n) (h0 : w.cell? ⟨g, off, none⟩ = some (.int .u8 a)) (h1 : w.cell? ⟨g, off + 1, none⟩ = some (.int .u8 b)) (h2 : w.cell? ⟨g, off + 2, none⟩ = some (.int .u8 c))
    (ha : a / 16 = 14) (hb : b / 64 = 2) (hc : c / 64 = 2) (hr : 2047 < a % 16 * 4096 + b % 64 * 64 + c % 64) :
    Calls Tryz.prog 181 #[.slice (some ⟨g, off, none⟩) n cap] w fun e w' => e = .returned (.tuple #[.int .i32 (a % 16 * 4096 + b % 64 * 64 + c % 64), .int .i64 3]) ∧ ∃ q, w' = w.drewN q := by
  have e1 := u8_and224 a (by omega) (by omega)
  rw [show a / 32 = 7 by omega] at e1
  have e3 := u8_and240 a (by omega) (by omega)
  rw [ha] at e3
  have e2 := u8_and15 a (by omega) (by omega)
  have hn' : (1 : Int) ≤ (n : Int) := by omega
  have hn2 : (2 : Int) ≤ (n : Int) := by omega
  have hn3 : (3 : Int) ≤ (n : Int) := by omega
  have a1 : 127 < a := by omega
  go_enter Tryz.func181, Tryz.ntmps181
  go_wp2_with (go_at_call 197; refine (isTail_yes _ _ (by omega) (by omega) (by omega)).mono ?_; rintro e w' ⟨rfl, hww⟩; cases hww)
  go_quiet ((go_at_call 198; exact Calls.quiet_of_same (bits_any _ _ (by omega) (by omega))))
  go_wp2
  go_ret2
  refine ⟨?_, _, rfl⟩
  rfl
set_option maxRecDepth 8000 in
set_option maxHeartbeats 1600000 in
theorem fc_three_no (g off n cap : Nat) (a b c : Int) (w : World) (hn : 3 ≤ n) (h0 : w.cell? ⟨g, off, none⟩ = some (.int .u8 a)) (h1 : w.cell? ⟨g, off + 1, none⟩ = some (.int .u8 b)) (h2 : w.cell? ⟨g, off + 2, none⟩ = some (.int .u8 c))
    (ha : a / 16 = 14) (hb : b / 64 = 2) (hc : c / 64 = 2) (hr : a % 16 * 4096 + b % 64 * 64 + c % 64 ≤ 2047) :
    Calls Tryz.prog 181 #[.slice (some ⟨g, off, none⟩) n cap] w fun e w' => e = .returned (.tuple #[.int .i32 0, .int .i64 0]) ∧ ∃ q, w' = w.drewN q := by
  have e1 := u8_and224 a (by omega) (by omega)
  rw [show a / 32 = 7 by omega] at e1
  have e3 := u8_and240 a (by omega) (by omega)
  rw [ha] at e3
  have e2 := u8_and15 a (by omega) (by omega)
  have hn' : (1 : Int) ≤ (n : Int) := by omega
  have hn2 : (2 : Int) ≤ (n : Int) := by omega
  have hn3 : (3 : Int) ≤ (n : Int) := by omega
  have a1 : 127 < a := by omega
  go_enter Tryz.func181, Tryz.ntmps181
  go_wp2_with (go_at_call 197; refine (isTail_yes _ _ (by omega) (by omega) (by omega)).mono ?_; rintro e w' ⟨rfl, hww⟩; cases hww)
  go_quiet ((go_at_call 198; exact Calls.quiet_of_same (bits_any _ _ (by omega) (by omega))))
  go_wp2
  go_ret2
  exact ⟨rfl, _, rfl⟩
set_option maxRecDepth 8000 in
set_option maxHeartbeats 1600000 in
/-- One byte alone that is no code. -/
theorem fc_bad1 (g off cap : Nat) (a : Int) (w : World) (h0 : w.cell? ⟨g, off, none⟩ = some (.int .u8 a)) (ha0 : a < 1 ∨ 127 < a) :
    Calls Tryz.prog 181 #[.slice (some ⟨g, off, none⟩) 1 cap] w fun e w' => e = .returned (.tuple #[.int .i32 0, .int .i64 0]) ∧ ∃ q, w' = w.drewN q := by
  rcases ha0 with ha0 | ha0
  all_goals
    go_enter Tryz.func181, Tryz.ntmps181
    go_wp2
    go_ret2
    exact ⟨rfl, 0, rfl⟩
set_option maxRecDepth 8000 in
set_option maxHeartbeats 1600000 in
/-- A first byte that is neither of two nor of three. -/
theorem fc_badA (g off n cap : Nat) (a : Int) (w : World) (hn : 1 ≤ n) (h0 : w.cell? ⟨g, off, none⟩ = some (.int .u8 a)) (ha0 : 0 ≤ a) (ha1 : a ≤ 255) (ha : a < 1 ∨ 127 < a) (h6 : ¬ a / 32 = 6) (h14 : ¬ a / 16 = 14) :
    Calls Tryz.prog 181 #[.slice (some ⟨g, off, none⟩) n cap] w fun e w' => e = .returned (.tuple #[.int .i32 0, .int .i64 0]) ∧ ∃ q, w' = w.drewN q := by
  have e1 := u8_and224 a (by omega) (by omega)
  have e3 := u8_and240 a (by omega) (by omega)
  have e4 : ¬ a / 32 * 32 = 192 := by omega
  have e5 : ¬ a / 16 * 16 = 224 := by omega
  have hn' : (1 : Int) ≤ (n : Int) := by omega
  by_cases c2 : (2 : Int) ≤ (n : Int)
  all_goals by_cases c3 : (3 : Int) ≤ (n : Int)
  all_goals try (exfalso; omega)
  all_goals rcases ha with ha | ha
  all_goals
    go_enter Tryz.func181, Tryz.ntmps181
    go_wp2
    go_ret2
    exact ⟨rfl, 0, rfl⟩
set_option maxRecDepth 8000 in
set_option maxHeartbeats 1600000 in
/-- A first byte of two, the second no tail. -/
theorem fc_badB (g off n cap : Nat) (a b : Int) (w : World) (hn : 2 ≤ n) (h0 : w.cell? ⟨g, off, none⟩ = some (.int .u8 a)) (h1 : w.cell? ⟨g, off + 1, none⟩ = some (.int .u8 b)) (h6 : a / 32 = 6) (hb0 : 0 ≤ b) (hb1 : b ≤ 255) (hb : ¬ b / 64 = 2) :
    Calls Tryz.prog 181 #[.slice (some ⟨g, off, none⟩) n cap] w fun e w' => e = .returned (.tuple #[.int .i32 0, .int .i64 0]) ∧ ∃ q, w' = w.drewN q := by
  have e1 := u8_and224 a (by omega) (by omega)
  have e3 := u8_and240 a (by omega) (by omega)
  rw [h6] at e1
  have e5 : ¬ a / 16 * 16 = 224 := by omega
  have hn' : (1 : Int) ≤ (n : Int) := by omega
  have hn2 : (2 : Int) ≤ (n : Int) := by omega
  have a1 : 127 < a := by omega
  by_cases c3 : (3 : Int) ≤ (n : Int)
  all_goals
    go_enter Tryz.func181, Tryz.ntmps181
    go_wp2_with (go_at_call 197; refine (isTail_no _ _ (by omega) (by omega) hb).mono ?_; rintro e w' ⟨rfl, hww⟩; cases hww)
    go_ret2
    exact ⟨rfl, 0, rfl⟩
set_option maxRecDepth 8000 in
set_option maxHeartbeats 1600000 in
/-- A first byte of three, and but two bytes. -/
theorem fc_badC (g off cap : Nat) (a : Int) (w : World) (h0 : w.cell? ⟨g, off, none⟩ = some (.int .u8 a)) (h14 : a / 16 = 14) :
    Calls Tryz.prog 181 #[.slice (some ⟨g, off, none⟩) 2 cap] w fun e w' => e = .returned (.tuple #[.int .i32 0, .int .i64 0]) ∧ ∃ q, w' = w.drewN q := by
  have e1 := u8_and224 a (by omega) (by omega)
  rw [show a / 32 = 7 by omega] at e1
  have a1 : 127 < a := by omega
  go_enter Tryz.func181, Tryz.ntmps181
  go_wp2
  go_ret2
  exact ⟨rfl, 0, rfl⟩
set_option maxRecDepth 8000 in
set_option maxHeartbeats 1600000 in
/-- A first byte of three, the second or the third no tail. -/
theorem fc_badD (g off n cap : Nat) (a b c : Int) (w : World) (hn : 3 ≤ n) (h0 : w.cell? ⟨g, off, none⟩ = some (.int .u8 a)) (h1 : w.cell? ⟨g, off + 1, none⟩ = some (.int .u8 b)) (h2 : w.cell? ⟨g, off + 2, none⟩ = some (.int .u8 c))
    (h14 : a / 16 = 14) (hb0 : 0 ≤ b) (hb1 : b ≤ 255) (hc0 : 0 ≤ c) (hc1 : c ≤ 255) (hbc : ¬ b / 64 = 2 ∨ (b / 64 = 2 ∧ ¬ c / 64 = 2)) :
    Calls Tryz.prog 181 #[.slice (some ⟨g, off, none⟩) n cap] w fun e w' => e = .returned (.tuple #[.int .i32 0, .int .i64 0]) ∧ ∃ q, w' = w.drewN q := by
  have e1 := u8_and224 a (by omega) (by omega)
  have e3 := u8_and240 a (by omega) (by omega)
  rw [show a / 32 = 7 by omega] at e1
  rw [h14] at e3
  have hn' : (1 : Int) ≤ (n : Int) := by omega
  have hn2 : (2 : Int) ≤ (n : Int) := by omega
  have hn3 : (3 : Int) ≤ (n : Int) := by omega
  have a1 : 127 < a := by omega
  rcases hbc with hb | ⟨hb, hc⟩
  · go_enter Tryz.func181, Tryz.ntmps181
    go_wp2_with (go_at_call 197; refine (isTail_no _ _ (by omega) (by omega) hb).mono ?_; rintro e w' ⟨rfl, hww⟩; cases hww)
    go_ret2
    exact ⟨rfl, 0, rfl⟩
  · go_enter Tryz.func181, Tryz.ntmps181
    go_wp2_with fail
    refine (isTail_yes _ _ (by omega) (by omega) hb).mono ?_
    rintro e w' ⟨rfl, hww⟩; cases hww
    go_wp2_with fail
    refine (isTail_no _ _ (by omega) (by omega) hc).mono ?_
    rintro e w' ⟨rfl, hww⟩; cases hww
    go_wp2
    go_ret2
    exact ⟨rfl, 0, rfl⟩
end Go.Proofs.YthagaldpopnoeaaGreatDoor

/- firstRune reads the rune that a list of bytes begins with. -/
namespace Go.Proofs.YthagaldpopnoeaaGreatDoor
open Go.RowKit

/-- The bytes l lie from off on in block g. -/
def Lies (w : World) (g off : Nat) (l : List Int) : Prop := ∀ j x, l[j]? = some x → w.cell? ⟨g, off + j, none⟩ = some (.int .u8 x)
def AllBytes (l : List Int) : Prop := ∀ x ∈ l, 0 ≤ x ∧ x ≤ 255
/-- v is a slice that holds the bytes l. -/
def View (w : World) (v : Value) (l : List Int) : Prop :=
  ∃ ao cap, v = .slice ao l.length cap ∧ l.length ≤ cap ∧ cap ≤ maxLen ∧ AllBytes l ∧ (l = [] ∨ ∃ g off, ao = some ⟨g, off, none⟩ ∧ Lies w g off l)

/-- The code that the bytes begin with, and its size (0: none such). -/
def fcode : List Int → Int × Nat
  | [] => (0, 0)
  | [a] => if 1 ≤ a ∧ a ≤ 127 then (a, 1) else (0, 0)
  | [a, b] => if 1 ≤ a ∧ a ≤ 127 then (a, 1)
      else if a / 32 = 6 ∧ b / 64 = 2 ∧ (a % 32 * 64 + b % 64 = 0 ∨ 127 < a % 32 * 64 + b % 64) then (a % 32 * 64 + b % 64, 2) else (0, 0)
  | a :: b :: c :: _ => if 1 ≤ a ∧ a ≤ 127 then (a, 1)
      else if a / 32 = 6 ∧ b / 64 = 2 ∧ (a % 32 * 64 + b % 64 = 0 ∨ 127 < a % 32 * 64 + b % 64) then (a % 32 * 64 + b % 64, 2)
      else if a / 16 = 14 ∧ b / 64 = 2 ∧ c / 64 = 2 ∧ 2047 < a % 16 * 4096 + b % 64 * 64 + c % 64 then (a % 16 * 4096 + b % 64 * 64 + c % 64, 3) else (0, 0)

theorem fcode1 (a : Int) : fcode [a] = if 1 ≤ a ∧ a ≤ 127 then (a, 1) else (0, 0) := rfl
theorem fcode2 (a b : Int) : fcode [a, b] = if 1 ≤ a ∧ a ≤ 127 then (a, 1)
      else if a / 32 = 6 ∧ b / 64 = 2 ∧ (a % 32 * 64 + b % 64 = 0 ∨ 127 < a % 32 * 64 + b % 64) then (a % 32 * 64 + b % 64, 2) else (0, 0) := rfl
theorem fcode3 (a b c : Int) (t : List Int) : fcode (a :: b :: c :: t) = if 1 ≤ a ∧ a ≤ 127 then (a, 1)
      else if a / 32 = 6 ∧ b / 64 = 2 ∧ (a % 32 * 64 + b % 64 = 0 ∨ 127 < a % 32 * 64 + b % 64) then (a % 32 * 64 + b % 64, 2)
      else if a / 16 = 14 ∧ b / 64 = 2 ∧ c / 64 = 2 ∧ 2047 < a % 16 * 4096 + b % 64 * 64 + c % 64 then (a % 16 * 4096 + b % 64 * 64 + c % 64, 3) else (0, 0) := rfl

theorem calls_q {P : Program} {f : Nat} {args : Array Value} {w : World} {v : Value} (h : Calls P f args w fun e w' => e = .returned v ∧ w' = w) : Calls P f args w fun e w' => e = .returned v ∧ ∃ q, w' = w.drewN q :=
  h.mono fun _ _ ⟨a, b⟩ => ⟨a, 0, b⟩

theorem fc_any (v : Value) (l : List Int) (w : World) (hv : View w v l) :
    Calls Tryz.prog 181 #[v] w fun e w' => e = .returned (.tuple #[.int .i32 (fcode l).1, .int .i64 ((fcode l).2 : Nat)]) ∧ ∃ q, w' = w.drewN q := by
  obtain ⟨ao, cap, rfl, hc, hm, hb, hl⟩ := hv
  match l, hl with
  | [], _ => exact calls_q (fc_nil ao cap w)
  | [a], .inr ⟨g, off, e, hl2⟩ =>
    subst e
    have c0 := hl2 0 a rfl
    obtain ⟨a0, a1⟩ := hb a (by simp)
    by_cases h1 : 1 ≤ a ∧ a ≤ 127
    · rw [show fcode [a] = (a, 1) by simp [fcode, h1]]
      exact calls_q (fc_one g off 1 cap a w (by omega) c0 h1.1 h1.2)
    · rw [show fcode [a] = (0, 0) by simp [fcode, h1]]
      exact fc_bad1 g off cap a w c0 (by omega)
  | [a, b], .inr ⟨g, off, e, hl2⟩ =>
    subst e
    have c0 := hl2 0 a rfl
    have c1 := hl2 1 b rfl
    obtain ⟨a0, a1⟩ := hb a (by simp)
    obtain ⟨b0, b1⟩ := hb b (by simp)
    by_cases h1 : 1 ≤ a ∧ a ≤ 127
    · rw [show fcode [a, b] = (a, 1) by simp [fcode, h1]]
      exact calls_q (fc_one g off 2 cap a w (by omega) c0 h1.1 h1.2)
    · by_cases h6 : a / 32 = 6
      · by_cases hbt : b / 64 = 2
        · by_cases hr : a % 32 * 64 + b % 64 = 0 ∨ 127 < a % 32 * 64 + b % 64
          · rw [show fcode [a, b] = (a % 32 * 64 + b % 64, 2) by rw [fcode2, if_neg h1, if_pos ⟨h6, hbt, hr⟩]]
            exact fc_two g off 2 cap a b w (by omega) c0 c1 h6 hbt hr
          · rw [show fcode [a, b] = (0, 0) by rw [fcode2, if_neg h1, if_neg (by omega)]]
            exact fc_two_no g off 2 cap a b w (by omega) c0 c1 h6 hbt (by omega) (by omega)
        · rw [show fcode [a, b] = (0, 0) by rw [fcode2, if_neg h1, if_neg (by omega)]]
          exact fc_badB g off 2 cap a b w (by omega) c0 c1 h6 b0 b1 hbt
      · rw [show fcode [a, b] = (0, 0) by rw [fcode2, if_neg h1, if_neg (by omega)]]
        by_cases h14 : a / 16 = 14
        · exact fc_badC g off cap a w c0 h14
        · exact fc_badA g off 2 cap a w (by omega) c0 a0 a1 (by omega) h6 h14
  | a :: b :: c :: t, .inr ⟨g, off, e, hl2⟩ =>
    subst e
    have c0 := hl2 0 a rfl
    have c1 := hl2 1 b rfl
    have c2 := hl2 2 c rfl
    obtain ⟨a0, a1⟩ := hb a (by simp)
    obtain ⟨b0, b1⟩ := hb b (by simp)
    obtain ⟨c0', c1'⟩ := hb c (by simp)
    have hn : 3 ≤ (a :: b :: c :: t).length := by simp
    by_cases h1 : 1 ≤ a ∧ a ≤ 127
    · rw [show fcode (a :: b :: c :: t) = (a, 1) by simp [fcode, h1]]
      exact calls_q (fc_one g off _ cap a w (by omega) c0 h1.1 h1.2)
    · by_cases h6 : a / 32 = 6
      · by_cases hbt : b / 64 = 2
        · by_cases hr : a % 32 * 64 + b % 64 = 0 ∨ 127 < a % 32 * 64 + b % 64
          · rw [show fcode (a :: b :: c :: t) = (a % 32 * 64 + b % 64, 2) by rw [fcode3, if_neg h1, if_pos ⟨h6, hbt, hr⟩]]
            exact fc_two g off _ cap a b w (by omega) c0 c1 h6 hbt hr
          · rw [show fcode (a :: b :: c :: t) = (0, 0) by rw [fcode3, if_neg h1, if_neg (by omega), if_neg (by omega)]]
            exact fc_two_no g off _ cap a b w (by omega) c0 c1 h6 hbt (by omega) (by omega)
        · rw [show fcode (a :: b :: c :: t) = (0, 0) by rw [fcode3, if_neg h1, if_neg (by omega), if_neg (by omega)]]
          exact fc_badB g off _ cap a b w (by omega) c0 c1 h6 b0 b1 hbt
      · by_cases h14 : a / 16 = 14
        · by_cases hbc : b / 64 = 2 ∧ c / 64 = 2
          · by_cases hr : 2047 < a % 16 * 4096 + b % 64 * 64 + c % 64
            · rw [show fcode (a :: b :: c :: t) = (a % 16 * 4096 + b % 64 * 64 + c % 64, 3) by rw [fcode3, if_neg h1, if_neg (by omega), if_pos ⟨h14, hbc.1, hbc.2, hr⟩]]
              exact fc_three g off _ cap a b c w hn c0 c1 c2 h14 hbc.1 hbc.2 hr
            · rw [show fcode (a :: b :: c :: t) = (0, 0) by rw [fcode3, if_neg h1, if_neg (by omega), if_neg (by omega)]]
              exact fc_three_no g off _ cap a b c w hn c0 c1 c2 h14 hbc.1 hbc.2 (by omega)
          · rw [show fcode (a :: b :: c :: t) = (0, 0) by rw [fcode3, if_neg h1, if_neg (by omega), if_neg (by omega)]]
            exact fc_badD g off _ cap a b c w hn c0 c1 c2 h14 b0 b1 c0' c1' (by omega)
        · rw [show fcode (a :: b :: c :: t) = (0, 0) by rw [fcode3, if_neg h1, if_neg (by omega), if_neg (by omega)]]
          exact fc_badA g off _ cap a w (by omega) c0 a0 a1 (by omega) h6 h14

/-- What a code is: of one, two or three bytes, in its range. -/
theorem fcode_range (l : List Int) (hb : AllBytes l) : (fcode l).2 ≤ l.length ∧ 0 ≤ (fcode l).1 ∧ (fcode l).1 ≤ 65535 ∧ ((fcode l).2 = 0 → (fcode l).1 = 0) ∧ (2047 < (fcode l).1 → (fcode l).2 = 3) ∧ (fcode l).2 ≤ 3 := by
  match l with
  | [] => simp [fcode]
  | [a] =>
    obtain ⟨a0, a1⟩ := hb a (by simp)
    rw [fcode1]; split <;> simp <;> omega
  | [a, b] =>
    obtain ⟨a0, a1⟩ := hb a (by simp)
    obtain ⟨b0, b1⟩ := hb b (by simp)
    rw [fcode2]; split
    · simp; omega
    · split <;> simp <;> omega
  | a :: b :: c :: t =>
    obtain ⟨a0, a1⟩ := hb a (by simp)
    obtain ⟨b0, b1⟩ := hb b (by simp)
    obtain ⟨c0', c1'⟩ := hb c (by simp)
    rw [fcode3]; split
    · simp; omega
    · split
      · simp; omega
      · split <;> simp <;> omega

theorem View.drewN {w : World} {v : Value} {l : List Int} (h : View w v l) (q : Nat) : View (w.drewN q) v l := h

/-- The rune that the bytes begin with, and its size (0: none such). -/
def frune (l : List Int) : Int × Nat :=
  if (fcode l).1 < 55296 ∨ 57344 ≤ (fcode l).1 then fcode l
  else if 56320 ≤ (fcode l).1 then (0, 0)
  else if (fcode (l.drop 3)).1 < 56320 ∨ 57344 ≤ (fcode (l.drop 3)).1 then (0, 0)
  else (65536 + ((fcode l).1 - 55296) * 1024 + ((fcode (l.drop 3)).1 - 56320), 6)

set_option maxRecDepth 8000 in
set_option maxHeartbeats 800000 in
theorem fr_any (v : Value) (l : List Int) (w : World) (hv : View w v l) :
    Calls Tryz.prog 157 #[v] w fun e w' => e = .returned (.tuple #[.int .i32 (frune l).1, .int .i64 ((frune l).2 : Nat)]) ∧ ∃ q, w' = w.drewN q := by
  have hf := fc_any v l w hv
  have hfr : frune l = if (fcode l).1 < 55296 ∨ 57344 ≤ (fcode l).1 then fcode l
      else if 56320 ≤ (fcode l).1 then (0, 0)
      else if (fcode (l.drop 3)).1 < 56320 ∨ 57344 ≤ (fcode (l.drop 3)).1 then (0, 0)
      else (65536 + ((fcode l).1 - 55296) * 1024 + ((fcode (l.drop 3)).1 - 56320), 6) := rfl
  rw [hfr]
  have hrg := fcode_range l (by obtain ⟨_, _, _, _, _, h, _⟩ := hv; exact h)
  generalize hc : fcode l = rc at *
  obtain ⟨r, k⟩ := rc
  simp only at hrg ⊢ hf
  clear hc hfr
  by_cases h1 : r < 55296
  · rw [if_pos (.inl h1)]
    go_enter Tryz.func157, Tryz.ntmps157
    go_wp2_with (go_at_call 181; refine hf.mono ?_; rintro e w' ⟨rfl, q, rfl⟩)
    go_ret2
    exact ⟨rfl, q, rfl⟩
  · by_cases h2 : 57344 ≤ r
    · rw [if_pos (.inr h2)]
      go_enter Tryz.func157, Tryz.ntmps157
      go_wp2_with (go_at_call 181; refine hf.mono ?_; rintro e w' ⟨rfl, q, rfl⟩)
      go_ret2
      exact ⟨rfl, q, rfl⟩
    · rw [if_neg (by omega)]
      by_cases h3 : 56320 ≤ r
      · rw [if_pos h3]
        go_enter Tryz.func157, Tryz.ntmps157
        go_wp2_with (go_at_call 181; refine hf.mono ?_; rintro e w' ⟨rfl, q, rfl⟩)
        go_ret2
        exact ⟨rfl, q, rfl⟩
      · rw [if_neg h3]
        obtain ⟨hk, -, -, -, hk3, -⟩ := hrg
        obtain rfl := hk3 (by omega)
        clear hk3
        obtain ⟨ao, cap, rfl, hcp, hm, hb, hl⟩ := hv
        obtain ⟨g, off, rfl, hl2⟩ : ∃ g off, ao = some ⟨g, off, none⟩ ∧ Lies w g off l := by
          rcases hl with e | h
          · rw [e] at hk; simp at hk
          · exact h
        generalize hL : l.length = L at *
        have hv2 : ∀ ao', (L = 3 ∨ ao' = some ⟨g, off + 3, none⟩) → View w (.slice ao' (L - 3) (cap - 3)) (l.drop 3) := by
          intro ao' hao
          refine ⟨ao', cap - 3, by simp [hL], by simp [hL]; omega, by omega, fun x hx => hb x (List.mem_of_mem_drop hx), ?_⟩
          rcases hao with h | h
          · left; exact List.drop_eq_nil_of_le (by omega)
          · right
            refine ⟨g, off + 3, h, fun j x hj => ?_⟩
            rw [List.getElem?_drop] at hj
            rw [Nat.add_assoc]; exact hl2 _ _ hj
        have hf2 : ∀ ao' q, (L = 3 ∨ ao' = some ⟨g, off + 3, none⟩) → Calls Tryz.prog 181 #[.slice ao' (L - 3) (cap - 3)] (w.drewN q) fun e w' => e = .returned (.tuple #[.int .i32 (fcode (l.drop 3)).1, .int .i64 ((fcode (l.drop 3)).2 : Nat)]) ∧ ∃ q', w' = (w.drewN q).drewN q' :=
          fun ao' q h => fc_any _ _ _ ((hv2 ao' h).drewN q)
        have hrg2 := fcode_range (l.drop 3) (fun x hx => hb x (List.mem_of_mem_drop hx))
        clear hv2 hl hl2
        generalize fcode (l.drop 3) = rc2 at *
        obtain ⟨low, more⟩ := rc2
        simp only at hrg2 hf2 ⊢
        obtain ⟨-, hlow0, -, -, hm3, -⟩ := hrg2
        clear hb hm hL l
        have H2 : Hid (∀ ao' q, (L = 3 ∨ ao' = some ⟨g, off + 3, none⟩) → Calls Tryz.prog 181 #[.slice ao' (L - 3) (cap - 3)] (w.drewN q) fun e w' => e = .returned (.tuple #[.int .i32 low, .int .i64 (more : Nat)]) ∧ ∃ q', w' = (w.drewN q).drewN q') := hf2
        have H1 : Hid (Calls Tryz.prog 181 #[.slice (some ⟨g, off, none⟩) L cap] w fun e w' => e = .returned (.tuple #[.int .i32 r, .int .i64 (3 : Nat)]) ∧ ∃ q, w' = w.drewN q) := hf
        clear hf hf2
        have hk' : (3 : Int) ≤ (L : Int) := by omega
        have hcases : low < 56320 ∨ 57344 ≤ low ∨ (56320 ≤ low ∧ low < 57344) := by omega
        by_cases hcap : cap = 3
        · subst hcap
          obtain rfl : L = 3 := by omega
          rcases hcases with h4 | h4 | ⟨h4, h5⟩
          · rw [if_pos (.inl h4)]
            clear hm3
            go_enter Tryz.func157, Tryz.ntmps157
            go_wp2_with fail
            refine H1.out.mono ?_
            rintro e w' ⟨rfl, q, rfl⟩
            go_wp2_with fail
            refine (H2.out _ _ (by simp)).mono ?_
            rintro e w' ⟨rfl, q2, rfl⟩
            go_wp2
            go_ret2
            exact ⟨rfl, _, rfl⟩
          · rw [if_pos (.inr h4)]
            clear hm3
            go_enter Tryz.func157, Tryz.ntmps157
            go_wp2_with fail
            refine H1.out.mono ?_
            rintro e w' ⟨rfl, q, rfl⟩
            go_wp2_with fail
            refine (H2.out _ _ (by simp)).mono ?_
            rintro e w' ⟨rfl, q2, rfl⟩
            go_wp2
            go_ret2
            exact ⟨rfl, _, rfl⟩
          · rw [if_neg (by omega)]
            obtain rfl := hm3 (by omega)
            clear hm3
            go_enter Tryz.func157, Tryz.ntmps157
            go_wp2_with fail
            refine H1.out.mono ?_
            rintro e w' ⟨rfl, q, rfl⟩
            go_wp2_with fail
            refine (H2.out _ _ (by simp)).mono ?_
            rintro e w' ⟨rfl, q2, rfl⟩
            go_wp2
            go_ret2
            exact ⟨rfl, _, rfl⟩
        · rcases hcases with h4 | h4 | ⟨h4, h5⟩
          · rw [if_pos (.inl h4)]
            clear hm3
            go_enter Tryz.func157, Tryz.ntmps157
            go_wp2_with fail
            refine H1.out.mono ?_
            rintro e w' ⟨rfl, q, rfl⟩
            go_wp2_with fail
            refine (H2.out _ _ (.inr rfl)).mono ?_
            rintro e w' ⟨rfl, q2, rfl⟩
            go_wp2
            go_ret2
            exact ⟨rfl, _, rfl⟩
          · rw [if_pos (.inr h4)]
            clear hm3
            go_enter Tryz.func157, Tryz.ntmps157
            go_wp2_with fail
            refine H1.out.mono ?_
            rintro e w' ⟨rfl, q, rfl⟩
            go_wp2_with fail
            refine (H2.out _ _ (.inr rfl)).mono ?_
            rintro e w' ⟨rfl, q2, rfl⟩
            go_wp2
            go_ret2
            exact ⟨rfl, _, rfl⟩
          · rw [if_neg (by omega)]
            obtain rfl := hm3 (by omega)
            clear hm3
            go_enter Tryz.func157, Tryz.ntmps157
            go_wp2_with fail
            refine H1.out.mono ?_
            rintro e w' ⟨rfl, q, rfl⟩
            go_wp2_with fail
            refine (H2.out _ _ (.inr rfl)).mono ?_
            rintro e w' ⟨rfl, q2, rfl⟩
            go_wp2
            go_ret2
            exact ⟨rfl, _, rfl⟩
end Go.Proofs.YthagaldpopnoeaaGreatDoor

/- Decode gives the text that the bytes are the modified UTF-8 of, or ErrForm. -/
namespace Go.Proofs.YthagaldpopnoeaaGreatDoor
open Go.RowKit

theorem frune_range (l : List Int) (hb : AllBytes l) : (frune l).2 ≤ l.length ∧ 0 ≤ (frune l).1 ∧ (frune l).1 ≤ 1114111 ∧ (frune l).2 ≤ 6 := by
  have h1 := fcode_range l hb
  have h2 := fcode_range (l.drop 3) (fun x hx => hb x (List.mem_of_mem_drop hx))
  rw [List.length_drop] at h2
  unfold frune
  generalize fcode l = a at *
  generalize fcode (l.drop 3) = b at *
  obtain ⟨a1, a2⟩ := a
  obtain ⟨b1, b2⟩ := b
  simp only at h1 h2 ⊢
  obtain ⟨h10, h11, h12, h13, h14, h15⟩ := h1
  obtain ⟨h20, h21, h22, h23, h24, h25⟩ := h2
  split
  · simp only; omega
  · split
    · simp
    · split
      · simp
      · have := h24 (by omega)
        simp only; omega

/-- What Decode makes of the bytes: the text's own bytes, or nothing. -/
def decFrom : Nat → List Int → Option (List Int)
  | _, [] => some []
  | 0, _ :: _ => none
  | f + 1, x :: t => if (frune (x :: t)).2 = 0 then none else (decFrom f ((x :: t).drop (frune (x :: t)).2)).map (Lib.encodeRuneZ (frune (x :: t)).1 ++ ·)
def decL (l : List Int) : Option (List Int) := decFrom l.length l

def lenOf : Value → Nat
  | .slice _ n _ => n
  | _ => 0

theorem View.below {w wr : World} {v : Value} {l : List Int} (h : View w v l) (hb : Below w.heap.size w wr) : View wr v l := by
  obtain ⟨ao, cap, rfl, hc, hm, hy, hl⟩ := h
  refine ⟨ao, cap, rfl, hc, hm, hy, ?_⟩
  rcases hl with h | ⟨g, off, e, hl⟩
  · exact .inl h
  · exact .inr ⟨g, off, e, fun j x hj => cell_later hb (hl j x hj)⟩

/-- A row that is owned is a view of its bytes. -/
theorem View.of_own {w : World} {B : Nat} {v : Value} {l : List Int} (h : w.ownsRow B 5 1 v l.length (bcells l)) (hb : AllBytes l) : View w v l := by
  rcases h.2 with ⟨rfl, h0⟩ | ⟨g, cap, cur, rfl, _, hg, h1, h2, h3, h4⟩
  · have : l = [] := List.length_eq_zero_iff.1 h0
    subst this
    exact ⟨none, 0, rfl, Nat.le_refl _, by unfold maxLen; omega, hb, .inl rfl⟩
  · refine ⟨some ⟨g, 0, none⟩, cap, rfl, h1, h2, hb, .inr ⟨g, 0, rfl, fun j x hj => ?_⟩⟩
    have hj' : (bcells l)[j]? = some (.int .u8 x) := by simp [bcells, hj]
    have := h.cells (g := g) rfl j _ hj'
    have e : (⟨g, 0, none⟩ : Addr).add j = ⟨g, 0 + j, none⟩ := by unfold Addr.add; split <;> simp_all
    rwa [e] at this

/-- string(v) of a view: the bytes. -/
theorem run_string {w : World} {v : Value} {l : List Int} (h : View w v l) : (convert 22 9 v).run Tryz.prog w = .ok (.string (strOfNums l)) w := by
  obtain ⟨ao, cap, rfl, hc, hm, hy, hl⟩ := h
  rcases hl with rfl | ⟨g, off, rfl, hl⟩
  · cases ao with
    | none => exact run_convert_bytes_nil (P := Tryz.prog) w 22 5 Tryz.underlying22 Tryz.underlying5 0 cap 9 Tryz.underlying9
    | some a =>
      rw [run_convert_bytes_string w 22 9 5 _ _ _ Tryz.underlying22 Tryz.underlying5 Tryz.underlying9]
      exact run_bytesToString w a 0 cap [] (by simp [loadCells, loadCellsFrom])
  · exact run_convert_bytes_arg (P := Tryz.prog) w 22 5 Tryz.underlying22 Tryz.underlying5 g off l.length cap l rfl (fun i hi => by
      rw [hl i l[i] (by simp [hi])]; simp [List.getD, hi]) 9 Tryz.underlying9

set_option maxRecDepth 8000 in
set_option maxHeartbeats 2000000 in
theorem decode_any (v : Value) (l : List Int) (w : World) (hv : View w v l) (hlen : l.length ≤ 1099511627776) :
    Calls Tryz.prog 111 #[v] w fun e w' => Below w.heap.size w w' ∧
      ((∃ xs, decL l = some xs ∧ e = .returned (.tuple #[.string (strOfNums xs), .int .i64 0])) ∨ (decL l = none ∧ e = .returned (.tuple #[.string ⟨#[]⟩, .int .i64 12]))) := by
  obtain ⟨i0, hi, hz0, hz1, hz2⟩ := info_parts Tryz.info5
  obtain ⟨ao, cap, rfl, hc, hm, hy, hl⟩ := id hv
  go_enter Tryz.func111, Tryz.ntmps111
  go_wp2_with (at_make; refine wpList_make_own _ rfl _ _ 22 rfl w.heap.size 5 i0 (.int .u8 0) 1 Tryz.underlying22 hi hz0 hz1 _ _ _ l.length rfl rfl (by omega) (by rw [hz2]; omega) (by unfold maxLen; omega) (Nat.le_refl _) ?_; intro w2 hown hgrow)
  have hb2 : Below w.heap.size w w2 := (Below.refl _ _).grown hgrow (Nat.le_refl _) (fun k h => by cases h)
  clear hgrow hz0 hz1 hi hc hm hl
  go_loopw [0, 4] (fun b s wr => ∃ (l' : List Int) (fuel : Nat) (acc : List Int), View w b l' ∧ wr.ownsRow w.heap.size 5 1 s acc.length (bcells acc) ∧ Below w.heap.size w wr ∧ (decFrom fuel l').map (acc ++ ·) = decL l ∧ l'.length ≤ fuel ∧ AllBytes acc ∧ acc.length + 4 * l'.length ≤ 4 * l.length) (fun b _ _ => lenOf b)
  case atStart =>
    refine ⟨l, l.length, [], hv, hown, hb2, ?_, Nat.le_refl _, fun x hx => by simp at hx, by simp⟩
    show _ = decFrom l.length l
    cases decFrom l.length l <;> simp
  case round =>
    obtain ⟨l', fuel, acc, hvr, hI, hbw, hacc, hfu, hab, hal⟩ := hrel
    have hsz := hbw.size
    have hvw : View wr u0 l' := hvr.below hbw
    match l', hvr, hvw, hacc, hfu, hal with
    | [], hvr, hvw, hacc, hfu, hal =>
      obtain ⟨ao', cap', rfl, hc', hm', hy', hl'⟩ := hvr
      have hcv := run_string (View.of_own hI hab)
      rw [List.length_nil] at *
      have HA : Hid ((decFrom fuel []).map (acc ++ ·) = decL l) := hacc
      clear hacc hvw
      go_wp2
      go_ret2
      refine ⟨hbw, .inl ⟨acc, ?_, rfl⟩⟩
      rw [← HA.out]; cases fuel <;> simp [decFrom]
    | x :: t, hvr, hvw, hacc, hfu, hal =>
      obtain ⟨f, rfl⟩ : ∃ f, fuel = f + 1 := ⟨fuel - 1, by simp at hfu; omega⟩
      have hfr := fr_any u0 (x :: t) wr hvw
      have hby : AllBytes (x :: t) := by obtain ⟨_, _, _, _, _, h, _⟩ := hvr; exact h
      have hrg := frune_range (x :: t) hby
      have HA : Hid ((if (frune (x :: t)).2 = 0 then none else (decFrom f ((x :: t).drop (frune (x :: t)).2)).map (Lib.encodeRuneZ (frune (x :: t)).1 ++ ·)).map (acc ++ ·) = decL l) := hacc
      clear hacc hvw
      obtain ⟨ao', cap', rfl, hc', hm', hy', hl'⟩ := hvr
      obtain ⟨g, off, rfl, hl2⟩ : ∃ g off, ao' = some ⟨g, off, none⟩ ∧ Lies w g off (x :: t) := by
        rcases hl' with e | h
        · simp at e
        · exact h
      clear hl'
      have hpos : 0 < (x :: t).length := by simp
      generalize x :: t = L at *
      generalize frune L = rk at *
      obtain ⟨r, k⟩ := rk
      simp only at hfr hrg HA
      obtain ⟨hk, hr0, hr1, hk6⟩ := hrg
      generalize hn : L.length = n at *
      have HF := hidIt hfr
      clear hfr
      have hnpos : (0 : Int) < (n : Int) := by omega
      by_cases hk0 : k = 0
      · subst hk0
        clear hl2 hy'
        go_wp2_with fail
        refine HF.out.mono ?_
        rintro e w' ⟨rfl, q, rfl⟩
        go_wp2
        go_ret2
        refine ⟨⟨hbw.os, hbw.tape, hbw.output, hbw.size, hbw.block⟩, .inr ⟨?_, rfl⟩⟩
        rw [← HA.out]; simp
      · have hkb : ((k : Int) == 0) = false := by simp; omega
        have hkn : (k : Int) ≤ (n : Int) := by omega
        have HV : ∀ ao2, (n = k ∨ ao2 = some ⟨g, off + k, none⟩) → View w (.slice ao2 (n - k) (cap' - k)) (L.drop k) := by
          intro ao2 hao
          refine ⟨ao2, cap' - k, by simp [hn], by simp [hn]; omega, by omega, fun x hx => hy' x (List.mem_of_mem_drop hx), ?_⟩
          rcases hao with h | h
          · left; exact List.drop_eq_nil_of_le (by omega)
          · right
            refine ⟨g, off + k, h, fun j x hj => ?_⟩
            rw [List.getElem?_drop] at hj
            rw [Nat.add_assoc]; exact hl2 _ _ hj
        have HV' := hidIt HV
        clear HV hl2
        have hel := Lib.encodeRuneZ_length r
        have hrl : (Lib.runeCells r).length = (Lib.encodeRuneZ r).length := by simp [Lib.runeCells]
        have HR := hidIt hrl
        clear hrl
        go_wp2_with fail
        refine HF.out.mono ?_
        rintro e w' ⟨rfl, q, rfl⟩
        go_wp2_with fail
        refine (Tryz.utf8_AppendRune_plain w.heap.size _ _ _ r (by omega) (by omega) _ (by exact hI) (by omega) (by exact hsz)).mono ?_
        rintro e w3 ⟨v3, rfl, hI3, o3, hg3⟩
        go_wp2
        have hb3 : Below w.heap.size w w3 := by
          have h1 : Below w.heap.size w (wr.drewN q) := ⟨hbw.os, hbw.tape, hbw.output, hbw.size, hbw.block⟩
          exact (h1.alloc (by exact hsz) o3).grown hg3 (by simp; omega) (fun k h => (hI.lt k h).1)
        refine ⟨⟨L.drop k, f, acc ++ Lib.encodeRuneZ r, ?_, ?_, hb3, ?_, ?_, ?_, ?_⟩, ?_⟩
        · by_cases hck : cap' = k
          · rw [if_pos hck]; exact HV'.out _ (.inl (by omega))
          · rw [if_neg hck]; exact HV'.out _ (.inr rfl)
        · rw [List.length_append, ← HR.out, bcells_append]; exact hI3
        · rw [← HA.out, if_neg hk0]
          cases decFrom f (L.drop k) <;> simp
        · rw [List.length_drop, hn]; omega
        · intro x hx
          rcases List.mem_append.1 hx with h | h
          · exact hab x h
          · have := Lib.encodeRuneZ_byte r x h; omega
        · rw [List.length_append, List.length_drop, hn]; omega
        · simp only [lenOf]; omega
end Go.Proofs.YthagaldpopnoeaaGreatDoor
