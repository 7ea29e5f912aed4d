/- Writer.Number writes the lowest bytes of a number, the highest first. -/
import Derived.Test.YtknppdpcgdncdaaQWr
namespace Go.Proofs.Ytknppdpcgdncdaa.Q
open Go.RowKit
attribute [local go_sem ↓] Go.wp_at_zero Go.wp_at_succ

/-- The lowest k bytes of n, the highest first. -/
def be (n : Int) : Nat → List Int
  | 0 => []
  | k + 1 => (n / 2 ^ (8 * k) % 256) :: be n k
theorem be_len (n : Int) : ∀ k, (be n k).length = k
  | 0 => rfl
  | k + 1 => by simp [be, be_len n k]

theorem wraps_small (n : Int) (h0 : 0 ≤ n) (h1 : n ≤ 9223372036854775807) : IntKind.i64.wrap n = n := by rw [IntKind.wrap_i64]; omega
theorem run_shr (w : World) (n : Int) (k : Nat) (hk : k ≤ 7) : (Op.shift .shr .i64 n .i64 (8 * (k : Int))).run Try.prog w = .ok (.int .i64 (n / 2 ^ (8 * k))) w := by
  have h1 : ¬ (8 * (k : Int) < 0) := by omega
  have h2 : min (8 * (k : Int)).toNat IntKind.i64.bits = 8 * k := by simp [IntKind.bits]; omega
  have h3 : (0 : Int) ≤ 2 ^ (8 * k) := Int.pow_nonneg (by decide)
  simp only [Op.shift, if_neg h1, h2, Sem.run_pure, Int.fdiv_eq_ediv_of_nonneg _ h3]

end Go.Proofs.Ytknppdpcgdncdaa.Q
