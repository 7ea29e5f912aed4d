/- within. -/
import Derived.Test.YtacmooknfbjpeaaGA
namespace Go.Proofs.Ytacmooknfbjpeaa.J
open Go.RowKit Go.MapKept Go.ChangeMaps
set_option linter.unusedVariables false

def wnZ (n : Int) (m : Nat) : Nat := ((if n < 0 then -(n + 1) else n) % ((m : Int) + 1)).toNat
theorem wnZ_le (n : Int) (m : Nat) : wnZ n m ≤ m := by
  unfold wnZ
  have h1 := Int.emod_lt_of_pos (if n < 0 then -(n + 1) else n) (show (0 : Int) < (m : Int) + 1 by omega)
  omega
theorem wn_tmod {a : Int} (h : 0 ≤ a) (m : Nat) : a.tmod ((m : Int) + 1) = ((a % ((m : Int) + 1)).toNat : Int) := by
  rw [Int.tmod_eq_emod_of_nonneg h]
  have := Int.emod_nonneg a (show (m : Int) + 1 ≠ 0 by omega)
  omega
set_option maxRecDepth 8000 in
set_option maxHeartbeats 2000000 in
theorem lwithin_any (n : Int) (hn : -9223372036854775808 ≤ n ∧ n ≤ 9223372036854775807) (m : Nat) (hm : m ≤ 1000) (w : World) : Calls Try.prog 22 #[.int .i64 n, .int .i64 (m : Int)] w fun e w' => e = .returned (.int .i64 (wnZ n m : Int)) ∧ w' = w := by
  have hm1 : ((m : Int) + 1 == 0) = false := by simp; omega
  have hm2 : wrap64 ((m : Int) + 1) = (m : Int) + 1 := IntWalk.wrap64_in _ (by omega)
  unfold wnZ
  by_cases h : n < 0
  · rw [if_pos h]
    obtain ⟨a, ha⟩ : ∃ a : Nat, -(n + 1) = (a : Int) := ⟨(-(n + 1)).toNat, by omega⟩
    have h2 : wrap64 (n + 1) = n + 1 := IntWalk.wrap64_in _ (by omega)
    have h3 : wrap64 (-(n + 1)) = (a : Int) := by rw [IntWalk.wrap64_in _ (by omega), ha]
    have ht := wn_tmod (show (0 : Int) ≤ (a : Int) by omega) m
    rw [ha]
    generalize ((a : Int) % ((m : Int) + 1)).toNat = q at *
    go_enter Try.func22, Try.ntmps22
    go_wp2_with fail
    go_ret
    exact ⟨rfl, rfl⟩
  · rw [if_neg h]
    obtain ⟨a, rfl⟩ : ∃ a : Nat, n = (a : Int) := ⟨n.toNat, by omega⟩
    have ht := wn_tmod (show (0 : Int) ≤ (a : Int) by omega) m
    generalize ((a : Int) % ((m : Int) + 1)).toNat = q at *
    go_enter Try.func22, Try.ntmps22
    go_wp2_with fail
    go_ret
    exact ⟨rfl, rfl⟩
end Go.Proofs.Ytacmooknfbjpeaa.J
