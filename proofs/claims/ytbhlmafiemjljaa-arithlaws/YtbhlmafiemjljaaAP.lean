/- Numbers that wrap: what the two readings of arithmetic say, with no Go. -/
import Derived.Test.YtbhlmafiemjljaaRows
import Derived.WalkKit
import Derived.ProofKit
namespace Go.Proofs.Ytbhlmafiemjljaa
open Go.RowKit
theorem wrap32_eq (n : Int) : wrap32 n = (n + 2147483648) % 4294967296 - 2147483648 := by unfold wrap32; rfl
theorem wrap64_eq (n : Int) : wrap64 n = (n + 9223372036854775808) % 18446744073709551616 - 9223372036854775808 := by unfold wrap64; rfl
theorem mask_nat (x : Nat) (m : Nat) : x &&& (2 ^ m - 1) = x % 2 ^ m := Nat.and_two_pow_sub_one_eq_mod x m
theorem mask_bv (n m : Nat) (x : Int) (hm : m < n) :
    ((BitVec.ofInt n x &&& BitVec.ofInt n ((2 ^ m - 1 : Nat) : Int)).toNat : Int) = x % ((2 ^ m : Nat) : Int) := by
  have hlt : 2 ^ m - 1 < 2 ^ n := by
    exact Nat.lt_of_le_of_lt (Nat.sub_le _ _) (Nat.pow_lt_pow_right (by omega) hm)
  rw [BitVec.ofInt_natCast, BitVec.toNat_and, BitVec.toNat_ofNat, Nat.mod_eq_of_lt hlt, mask_nat, BitVec.toNat_ofInt]
  have h0 : 0 ≤ x % ((2 ^ n : Nat) : Int) := Int.emod_nonneg _ (by have := Nat.two_pow_pos n; omega)
  rw [Int.natCast_emod, Int.toNat_of_nonneg h0]
  refine Int.emod_emod_of_dvd x ?_
  exact Int.natCast_dvd_natCast.2 (Nat.pow_dvd_pow 2 (by omega))
theorem and31_u32 (b : Int) : bits .and .u32 (b % 4294967296) 31 = b % 32 := by
  have h : bits .and .u32 (b % 4294967296) 31 = IntKind.u32.wrap ((BitVec.ofInt 32 (b % 4294967296) &&& BitVec.ofInt 32 ((2 ^ 5 - 1 : Nat) : Int)).toNat : Int) := rfl
  rw [h, mask_bv 32 5 _ (by omega), IntKind.wrap_u32]
  have : ((2 ^ 5 : Nat) : Int) = 32 := rfl
  rw [this]; omega
theorem and31_u64 (b : Int) : bits .and .u64 (IntKind.u64.wrap b) 31 = b % 32 := by
  have h : bits .and .u64 (IntKind.u64.wrap b) 31 = IntKind.u64.wrap ((BitVec.ofInt 64 (IntKind.u64.wrap b) &&& BitVec.ofInt 64 ((2 ^ 5 - 1 : Nat) : Int)).toNat : Int) := rfl
  rw [h, mask_bv 64 5 _ (by omega), IntKind.wrap_u64, IntKind.wrap_u64]
  have : ((2 ^ 5 : Nat) : Int) = 32 := rfl
  rw [this]; omega
theorem and31_i32 (b : Int) : bits .and .i32 b 31 = b % 32 := by
  have h : bits .and .i32 b 31 = IntKind.i32.wrap ((BitVec.ofInt 32 b &&& BitVec.ofInt 32 ((2 ^ 5 - 1 : Nat) : Int)).toNat : Int) := rfl
  rw [h, mask_bv 32 5 _ (by omega), IntKind.wrap_i32]
  have : ((2 ^ 5 : Nat) : Int) = 32 := rfl
  rw [this]; omega
theorem mask32 (a : Int) : bits .and .i64 a 4294967295 = a % 4294967296 := by
  have h : bits .and .i64 a 4294967295 = IntKind.i64.wrap ((BitVec.ofInt 64 a &&& BitVec.ofInt 64 ((2 ^ 32 - 1 : Nat) : Int)).toNat : Int) := rfl
  rw [h, mask_bv 64 32 _ (by omega), IntKind.wrap_i64]
  have : ((2 ^ 32 : Nat) : Int) = 4294967296 := rfl
  rw [this]; omega
theorem run_shl (P : Program) (k yk : IntKind) (x y : Int) (h0 : 0 ≤ y) (h1 : y < 32) (hk : 32 ≤ k.bits) (w : World) :
    Sem.run P (Op.shift .shl k x yk y) w = .ok (.int k (k.wrap (x * 2 ^ y.toNat))) w := by
  unfold Op.shift
  rw [if_neg (by omega)]
  have : min y.toNat k.bits = y.toNat := by omega
  simp only [this]
  rfl
theorem run_shr (P : Program) (k yk : IntKind) (x y : Int) (h0 : 0 ≤ y) (h1 : y < 32) (hk : 32 ≤ k.bits) (w : World) :
    Sem.run P (Op.shift .shr k x yk y) w = .ok (.int k (x / 2 ^ y.toNat)) w := by
  unfold Op.shift
  rw [if_neg (by omega)]
  have : min y.toNat k.bits = y.toNat := by omega
  simp only [this]
  rw [Int.fdiv_eq_ediv_of_nonneg _ (Int.le_of_lt (Int.pow_pos (by omega)))]
  rfl
theorem pow_le {k : Int} (h1 : k < 32) (h0 : 0 ≤ k) : (1 : Int) ≤ 2 ^ k.toNat ∧ (2 : Int) ^ k.toNat ≤ 2147483648 := by
  refine ⟨Int.pow_pos (by omega), ?_⟩
  have h : 2 ^ k.toNat ≤ 2 ^ 31 := Nat.pow_le_pow_right (by omega) (by omega)
  have e : ((2 ^ k.toNat : Nat) : Int) = (2 : Int) ^ k.toNat := by simp
  omega
theorem mul_in {a b c d : Int} (h : -c ≤ a) (h' : a ≤ c) (g : -d ≤ b) (g' : b ≤ d) : -(c * d) ≤ a * b ∧ a * b ≤ c * d := by
  have h1 : a.natAbs * b.natAbs ≤ c.natAbs * d.natAbs := Nat.mul_le_mul (by omega) (by omega)
  rw [← Int.natAbs_mul] at h1
  have h2 : ((c.natAbs * d.natAbs : Nat) : Int) = c * d := by
    rw [Int.natCast_mul, Int.natAbs_of_nonneg (by omega), Int.natAbs_of_nonneg (by omega)]
  omega
theorem wrap_mul {a b : Int} (h : -2147483648 ≤ a) (h' : a ≤ 2147483648) (g : -2147483648 ≤ b) (g' : b ≤ 2147483648) : wrap64 (a * b) = a * b := by
  have := mul_in h h' g g'
  rw [wrap64_eq]
  omega
theorem tdiv_in {a : Int} (b : Int) (h : -2147483648 ≤ a) (h' : a ≤ 2147483647) : -2147483648 ≤ a.tdiv b ∧ a.tdiv b ≤ 2147483648 := by
  have h1 : (a.tdiv b).natAbs ≤ a.natAbs := by
    rw [Int.natAbs_tdiv]; exact Nat.div_le_self _ _
  omega
theorem wrap_tdiv {a b : Int} (h : -2147483648 ≤ a) (h' : a ≤ 2147483647) : wrap64 (a.tdiv b) = a.tdiv b := by
  have := tdiv_in b h h'
  rw [wrap64_eq]
  omega
theorem shr_in {a k : Int} (h : -2147483648 ≤ a) (h' : a ≤ 2147483647) (h0 : 0 ≤ k) (h1 : k < 32) : -2147483648 ≤ a / 2 ^ k.toNat ∧ a / 2 ^ k.toNat ≤ 2147483647 := by
  obtain ⟨p1, _⟩ := pow_le h1 h0
  generalize (2 : Int) ^ k.toNat = p at *
  constructor
  · refine Int.le_ediv_of_mul_le (by omega) ?_
    have : -2147483648 * p ≤ -2147483648 * 1 := Int.mul_le_mul_of_nonpos_left (by omega) (by omega)
    omega
  · refine Int.le_of_lt_add_one (Int.ediv_lt_of_lt_mul (by omega) ?_)
    have : (2147483647 + 1) * 1 ≤ (2147483647 + 1) * p := Int.mul_le_mul_of_nonneg_left (by omega) (by omega)
    omega
theorem tmod_in {a b : Int} (hb : -2147483648 ≤ b) (hb2 : b ≤ 2147483647) (h0 : b ≠ 0) : -2147483648 ≤ a.tmod b ∧ a.tmod b ≤ 2147483647 := by
  have h1 : (a.tmod b).natAbs < b.natAbs := by
    rw [Int.natAbs_tmod]; exact Nat.mod_lt _ (by omega)
  omega
theorem wrap_tmod {a b : Int} (hb : -2147483648 ≤ b) (hb2 : b ≤ 2147483647) (h0 : b ≠ 0) : wrap32 (a.tmod b) = a.tmod b := by
  have := tmod_in (a := a) hb hb2 h0
  rw [wrap32_eq]
  omega
/-- A fact that the walk does not look into. -/
structure Hid (p : Prop) : Prop where
  out : p
theorem hidIt {p : Prop} (h : p) : Hid p := ⟨h⟩
/-- What op makes of a and b. -/
def twoZ (op a b : Int) : Int :=
  if op = 96 then wrap32 (a + b) else if op = 100 then wrap32 (a - b) else if op = 104 then wrap32 (a * b)
  else if op = 108 then (if b = 0 then 0 else wrap32 (a.tdiv b)) else if op = 112 then (if b = 0 then 0 else a.tmod b)
  else if op = 120 then wrap32 (a * 2 ^ (b % 32).toNat) else if op = 122 then a / 2 ^ (b % 32).toNat
  else if op = 124 then wrap32 (a % 4294967296 / 2 ^ (b % 32).toNat)
  else if op = 126 then bits .and .i32 a b else if op = 128 then bits .or .i32 a b else if op = 130 then bits .xor .i32 a b else 0
/-- The refusal. -/
def twoE (op b : Int) : Int :=
  if op = 108 ∨ op = 112 then (if b = 0 then 22 else 0)
  else if op = 96 ∨ op = 100 ∨ op = 104 ∨ op = 120 ∨ op = 122 ∨ op = 124 ∨ op = 126 ∨ op = 128 ∨ op = 130 then 0 else 15
/-- The one operation of one number. -/
def oneZ (op a : Int) : Int := if op = 116 then wrap32 (-a) else 0
def oneE (op : Int) : Int := if op = 116 then 0 else 15
/-- Six comparisons. -/
def cmpZ (c a b : Int) : Bool :=
  if c = 0 then a == b else if c = 1 then a != b else if c = 2 then decide (a < b) else if c = 3 then decide (b ≤ a)
  else if c = 4 then decide (b < a) else if c = 5 then decide (a ≤ b) else false
def testZ (op a b : Int) : Bool := if 153 ≤ op ∧ op ≤ 158 then cmpZ (op - 153) a 0 else cmpZ (op - 159) a b
def testE (op : Int) : Int := if 153 ≤ op ∧ op ≤ 164 then 0 else 15
/-- The number that an instruction pushes of itself. -/
def constZ (op a : Int) : Int := if 2 ≤ op ∧ op ≤ 8 then op - 3 else if op = 16 ∨ op = 17 then wrap32 a else 0
def constB (op : Int) : Bool := decide (2 ≤ op ∧ op ≤ 8) || decide (op = 16 ∨ op = 17)
theorem fin2b {x x' : Bool} {y y' : Int} (h : x = x') (h' : y = y') : Ending.returned (.tuple #[.bool x, .int .i64 y]) = .returned (.tuple #[.bool x', .int .i64 y']) := by subst h; subst h'; rfl
theorem fin2c {x x' : Int} {y y' : Bool} (h : x = x') (h' : y = y') : Ending.returned (.tuple #[.int .i32 x, .bool y]) = .returned (.tuple #[.int .i32 x', .bool y']) := by subst h; subst h'; rfl
theorem fin2 {x x' y y' : Int} (h : x = x') (h' : y = y') : Ending.returned (.tuple #[.int .i32 x, .int .i64 y]) = .returned (.tuple #[.int .i32 x', .int .i64 y']) := by subst h; subst h'; rfl
end Go.Proofs.Ytbhlmafiemjljaa
