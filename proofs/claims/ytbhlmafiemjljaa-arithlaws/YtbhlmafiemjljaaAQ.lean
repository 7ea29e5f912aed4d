/- What the operations of numbers that wrap keep to, with no Go. -/
import Derived.Test.YtbhlmafiemjljaaAP
namespace Go.Proofs.Ytbhlmafiemjljaa
open Go.RowKit
theorem wrap32_in (n : Int) : -2147483648 ≤ wrap32 n ∧ wrap32 n ≤ 2147483647 := by rw [wrap32_eq]; omega
theorem wrap32_id {n : Int} (h : -2147483648 ≤ n) (h' : n ≤ 2147483647) : wrap32 n = n := by rw [wrap32_eq]; omega
theorem wrap32_congr {x y : Int} (h : x % 4294967296 = y % 4294967296) : wrap32 x = wrap32 y := by rw [wrap32_eq, wrap32_eq]; omega
theorem wrap32_mod (x : Int) : wrap32 x % 4294967296 = x % 4294967296 := by rw [wrap32_eq]; omega
theorem wi32_in (n : Int) : -2147483648 ≤ IntKind.i32.wrap n ∧ IntKind.i32.wrap n ≤ 2147483647 := by rw [IntKind.wrap_i32]; omega
theorem z96 (a b : Int) : twoZ 96 a b = wrap32 (a + b) := rfl
theorem z100 (a b : Int) : twoZ 100 a b = wrap32 (a - b) := rfl
theorem z104 (a b : Int) : twoZ 104 a b = wrap32 (a * b) := rfl
theorem z108 (a b : Int) (h : b ≠ 0) : twoZ 108 a b = wrap32 (a.tdiv b) := by show (if b = 0 then 0 else _) = _; rw [if_neg h]
theorem z112 (a b : Int) (h : b ≠ 0) : twoZ 112 a b = a.tmod b := by show (if b = 0 then 0 else _) = _; rw [if_neg h]
theorem z120 (a b : Int) : twoZ 120 a b = wrap32 (a * 2 ^ (b % 32).toNat) := rfl
theorem z122 (a b : Int) : twoZ 122 a b = a / 2 ^ (b % 32).toNat := rfl
theorem z124 (a b : Int) : twoZ 124 a b = wrap32 (a % 4294967296 / 2 ^ (b % 32).toNat) := rfl
theorem z126 (a b : Int) : twoZ 126 a b = bits .and .i32 a b := rfl
theorem z128 (a b : Int) : twoZ 128 a b = bits .or .i32 a b := rfl
theorem z130 (a b : Int) : twoZ 130 a b = bits .xor .i32 a b := rfl
theorem twoZ_in (op a b : Int) (ha : -2147483648 ≤ a) (ha2 : a ≤ 2147483647) (hb : -2147483648 ≤ b) (hb2 : b ≤ 2147483647) : -2147483648 ≤ twoZ op a b ∧ twoZ op a b ≤ 2147483647 := by
  unfold twoZ
  repeat' split
  all_goals first
    | exact wrap32_in _
    | exact tmod_in hb hb2 (by assumption)
    | exact shr_in ha ha2 (by omega) (by omega)
    | exact wi32_in _
    | omega
theorem add_comm32 (a b : Int) : twoZ 96 b a = twoZ 96 a b := by rw [z96, z96, Int.add_comm]
theorem mul_comm32 (a b : Int) : twoZ 104 b a = twoZ 104 a b := by rw [z104, z104, Int.mul_comm]
theorem sub_back (a b : Int) (ha : -2147483648 ≤ a) (ha2 : a ≤ 2147483647) : twoZ 100 (twoZ 96 a b) b = a := by
  rw [z96, z100, wrap32_eq, wrap32_eq]; omega
theorem mul_dist (a b c : Int) : twoZ 96 (twoZ 104 a b) (twoZ 104 a c) = twoZ 104 a (twoZ 96 b c) := by
  rw [z104, z104, z96, z96, z104]
  refine wrap32_congr ?_
  rw [Int.add_emod, wrap32_mod, wrap32_mod, ← Int.add_emod, Int.mul_emod a (wrap32 _), wrap32_mod, ← Int.mul_emod, Int.mul_add]
theorem div_back (a b : Int) (ha : -2147483648 ≤ a) (ha2 : a ≤ 2147483647) (h : b ≠ 0) : twoZ 96 (twoZ 104 (twoZ 108 a b) b) (twoZ 112 a b) = a := by
  rw [z108 _ _ h, z112 _ _ h, z104, z96, ← wrap32_id ha ha2]
  refine wrap32_congr ?_
  rw [wrap32_id ha ha2, Int.add_emod, wrap32_mod, Int.mul_emod, wrap32_mod, ← Int.mul_emod, ← Int.add_emod]
  have := Int.mul_tdiv_add_tmod a b
  rw [Int.mul_comm] at this
  rw [this]
theorem shl_one (a : Int) : twoZ 120 a 1 = twoZ 96 a a := by
  rw [z120, z96]
  have : (2 : Int) ^ ((1 : Int) % 32).toNat = 2 := rfl
  rw [this]; congr 1; omega
theorem ofInt_wrap (n : Nat) : BitVec.ofInt 32 (IntKind.i32.wrap (n : Int)) = BitVec.ofNat 32 n := by
  apply BitVec.eq_of_toNat_eq
  rw [BitVec.toNat_ofInt, BitVec.toNat_ofNat, IntKind.wrap_i32]
  omega
theorem wrap_ofInt (a : Int) (ha : -2147483648 ≤ a) (ha2 : a ≤ 2147483647) : IntKind.i32.wrap ((BitVec.ofInt 32 a).toNat : Int) = a := by
  rw [BitVec.toNat_ofInt, IntKind.wrap_i32]
  omega
theorem xor_back (a b : Int) (ha : -2147483648 ≤ a) (ha2 : a ≤ 2147483647) : twoZ 130 (twoZ 130 a b) b = a := by
  rw [z130, z130]
  show IntKind.i32.wrap ((BitVec.ofInt 32 (IntKind.i32.wrap ((BitVec.ofInt 32 a ^^^ BitVec.ofInt 32 b).toNat : Int)) ^^^ BitVec.ofInt 32 b).toNat : Int) = a
  rw [ofInt_wrap, BitVec.ofNat_toNat, BitVec.setWidth_eq, BitVec.xor_assoc, BitVec.xor_self, BitVec.xor_zero, wrap_ofInt a ha ha2]
theorem and_or (a b : Int) (ha : -2147483648 ≤ a) (ha2 : a ≤ 2147483647) : twoZ 126 a (twoZ 128 a b) = a := by
  rw [z128, z126]
  show IntKind.i32.wrap ((BitVec.ofInt 32 a &&& BitVec.ofInt 32 (IntKind.i32.wrap ((BitVec.ofInt 32 a ||| BitVec.ofInt 32 b).toNat : Int))).toNat : Int) = a
  rw [ofInt_wrap, BitVec.ofNat_toNat, BitVec.setWidth_eq]
  have : BitVec.ofInt 32 a &&& (BitVec.ofInt 32 a ||| BitVec.ofInt 32 b) = BitVec.ofInt 32 a := by
    apply BitVec.eq_of_getLsbD_eq
    intro i hi
    simp only [BitVec.getLsbD_and, BitVec.getLsbD_or]
    cases (BitVec.ofInt 32 a).getLsbD i <;> simp
  rw [this, wrap_ofInt a ha ha2]
theorem shl_low (a b : Int) : twoZ 120 a (b % 32) = twoZ 120 a b := by
  rw [z120, z120, show b % 32 % 32 = b % 32 by omega]
theorem ushr_zero (a : Int) (ha : -2147483648 ≤ a) (ha2 : a ≤ 2147483647) : twoZ 124 a 0 = a := by
  rw [z124, show (2 : Int) ^ ((0 : Int) % 32).toNat = 1 from rfl, wrap32_eq]; omega
theorem neg_sum (a : Int) : twoZ 96 a (oneZ 116 a) = 0 := by
  rw [z96, show oneZ 116 a = wrap32 (-a) from rfl, wrap32_eq, wrap32_eq]; omega
theorem oneZ_in (a : Int) : -2147483648 ≤ oneZ 116 a ∧ oneZ 116 a ≤ 2147483647 := by rw [show oneZ 116 a = wrap32 (-a) from rfl]; exact wrap32_in _
theorem shr_shl (a : Int) (ha : -2147483648 ≤ a) (ha2 : a ≤ 2147483647) : twoZ 122 (twoZ 120 a 0) 0 = a := by
  rw [z120, z122, show (2 : Int) ^ ((0 : Int) % 32).toNat = 1 from rfl, wrap32_eq]; omega
theorem shr_down (a p : Int) (hp : 1 ≤ p) : (a < 0 ∧ a.tmod p ≠ 0 → a / p = a.tdiv p - 1) ∧ (¬ (a < 0 ∧ a.tmod p ≠ 0) → a / p = a.tdiv p) := by
  by_cases h : 0 ≤ a
  · refine ⟨fun k => by omega, fun _ => (Int.tdiv_eq_ediv_of_nonneg h).symm⟩
  · rw [Int.tdiv_eq_ediv, Int.tmod_eq_emod]
    have e : p.sign = 1 := Int.sign_eq_one_of_pos (by omega)
    have hn : (p.natAbs : Int) = p := by omega
    have h3 : p ∣ a ↔ a % p = 0 := Int.dvd_iff_emod_eq_zero
    have h4 := Int.emod_lt_of_pos a (show 0 < p by omega)
    by_cases h5 : a % p = 0
    · rw [if_pos (.inr (h3.2 h5)), if_pos (.inr (h3.2 h5))]; omega
    · have h6 : ¬ (0 ≤ a ∨ p ∣ a) := by rw [h3]; omega
      rw [if_neg h6, if_neg h6, e]; omega
theorem shl_u (a p : Int) : wrap32 (IntKind.u32.wrap (a % 4294967296 * p)) = wrap32 (a * p) := by
  refine wrap32_congr ?_
  rw [IntKind.wrap_u32, Int.emod_emod_of_dvd _ (Int.dvd_refl _), Int.mul_emod, Int.emod_emod_of_dvd _ (Int.dvd_refl _), ← Int.mul_emod]
theorem test_opp (k a b : Int) (h : k = 159 ∨ k = 161 ∨ k = 163) : testZ (k + 1) a b = !testZ k a b := by
  rcases h with rfl | rfl | rfl
  · show (a != b) = !(a == b); rfl
  · show decide (b ≤ a) = !decide (a < b)
    by_cases h : a < b <;> simp [h] <;> omega
  · show decide (a ≤ b) = !decide (b < a)
    by_cases h : b < a <;> simp [h] <;> omega
theorem test_if (k a b : Int) (h : k = 159 ∨ k = 161 ∨ k = 163) : testZ (k - 6) a b = testZ k a 0 := by
  rcases h with rfl | rfl | rfl <;> rfl
end Go.Proofs.Ytbhlmafiemjljaa
