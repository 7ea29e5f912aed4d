import Derived.Test.YtpehimfnkmepnaaGreatBx44
import Derived.Test.YtpehimfnkmepnaaGreatBx41
set_option maxRecDepth 8000
set_option maxHeartbeats 40000000
namespace Go.Proofs.YtpehimfnkmepnaaGreat.Fr
open Go.RowKit Q Q.D K
end Go.Proofs.YtpehimfnkmepnaaGreat.Fr
namespace Go.Proofs.YtpehimfnkmepnaaGreat.Q
open Go.RowKit D
end Go.Proofs.YtpehimfnkmepnaaGreat.Q
namespace Go.Proofs.YtpehimfnkmepnaaGreat.Fr
open Go.RowKit Q Q.D K
end Go.Proofs.YtpehimfnkmepnaaGreat.Fr
namespace Go.Proofs.YtpehimfnkmepnaaGreat.Fr
open Go.RowKit Q Q.D K T
theorem cells4 {cA cB cT cC : Array Value} (a : cA.size = 5) (b : cB.size = 5) (c : cT.size = 5) (i : Nat) (hi : i < 4) : ∃ r, (r = cA ∨ r = cB ∨ r = cT ∨ r = cC) ∧ ∀ t, t < 5 → (cA ++ cB ++ cT ++ cC)[i * 5 + t]? = r[t]? := by
 match i, hi with
 | 0, _ => exact ⟨cA, .inl rfl, fun t ht => by rw [Array.getElem?_append_left (by simp; omega), Array.getElem?_append_left (by simp; omega), Array.getElem?_append_left (by omega)]; congr 1; omega⟩
 | 1, _ => exact ⟨cB, .inr (.inl rfl), fun t ht => by rw [Array.getElem?_append_left (by simp; omega), Array.getElem?_append_left (by simp; omega), Array.getElem?_append_right (by omega)]; congr 1; omega⟩
 | 2, _ => exact ⟨cT, .inr (.inr (.inl rfl)), fun t ht => by rw [Array.getElem?_append_left (by simp; omega), Array.getElem?_append_right (by simp; omega)]; congr 1; simp; omega⟩
 | 3, _ => exact ⟨cC, .inr (.inr (.inr rfl)), fun t ht => by rw [Array.getElem?_append_right (by simp; omega)]; congr 1; simp; omega⟩
end Go.Proofs.YtpehimfnkmepnaaGreat.Fr

