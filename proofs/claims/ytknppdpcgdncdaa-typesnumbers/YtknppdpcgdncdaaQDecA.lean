/- firstCode reads the code that a list of bytes begins with. -/
import Derived.Test.YtknppdpcgdncdaaQBase
import Derived.Deep.QuietTactic
import Derived.BigQuiet
namespace Go.Proofs.Ytknppdpcgdncdaa.Q
open Go.RowKit
set_option maxRecDepth 100000 in
theorem u8_and192F : ∀ X : Fin 256, bits .and .u8 ((X.val : Nat) : Int) 192 = ((X.val / 64 * 64 : Nat) : Int) := by decide
set_option maxRecDepth 100000 in
theorem u8_and224F : ∀ X : Fin 256, bits .and .u8 ((X.val : Nat) : Int) 224 = ((X.val / 32 * 32 : Nat) : Int) := by decide
set_option maxRecDepth 100000 in
theorem u8_and240F : ∀ X : Fin 256, bits .and .u8 ((X.val : Nat) : Int) 240 = ((X.val / 16 * 16 : Nat) : Int) := by decide
theorem u8_and192 (a : Int) (h0 : 0 ≤ a) (h1 : a ≤ 255) : bits .and .u8 a 192 = a / 64 * 64 := by
  obtain ⟨n, rfl⟩ := Int.eq_ofNat_of_zero_le h0
  have := u8_and192F ⟨n, by omega⟩
  simp only [] at this; rw [this]; omega
theorem u8_and224 (a : Int) (h0 : 0 ≤ a) (h1 : a ≤ 255) : bits .and .u8 a 224 = a / 32 * 32 := by
  obtain ⟨n, rfl⟩ := Int.eq_ofNat_of_zero_le h0
  have := u8_and224F ⟨n, by omega⟩
  simp only [] at this; rw [this]; omega
theorem u8_and240 (a : Int) (h0 : 0 ≤ a) (h1 : a ≤ 255) : bits .and .u8 a 240 = a / 16 * 16 := by
  obtain ⟨n, rfl⟩ := Int.eq_ofNat_of_zero_le h0
  have := u8_and240F ⟨n, by omega⟩
  simp only [] at this; rw [this]; omega

end Go.Proofs.Ytknppdpcgdncdaa.Q
