/- Same, of equal lists of texts; Within. -/
import Derived.Test.YtknppdpcgdncdaaKC
namespace Go.Proofs.Ytknppdpcgdncdaa.K
open Go.RowKit Q Q.D

set_option maxRecDepth 8000 in
set_option maxHeartbeats 2000000 in
theorem same_any (a1 : Option Addr) (c1 : Nat) (a2 : Option Addr) (c2 : Nat) (l : List ByteArray) (w : World) (h1 : LAt 1 TextR w a1 c1 l) (h2 : LAt 1 TextR w a2 c2 l) :
    Calls Try.prog 36 #[.slice a1 l.length c1, .slice a2 l.length c2] w fun e w' => e = .returned (.bool true) ∧ Below w.heap.size w w' := by
  have hbig := h1.big
  go_enter Try.func36, Try.ntmps36
  go_wp2
  go_loopw [5] (fun iv wr => ∃ i : Nat, iv = .int .i64 (i : Int) ∧ i ≤ l.length ∧ Below w.heap.size w wr) (fun iv _ => l.length - (intOf iv).toNat)
  case atStart => exact ⟨0, rfl, Nat.zero_le _, Below.refl _ _⟩
  case round =>
    obtain ⟨i, rfl, hi, hB⟩ := hrel
    by_cases hlt : i < l.length
    · have hlt' : (i : Int) < (l.length : Int) := by omega
      obtain ⟨_, _, r1, g1, k1⟩ := h1.below hB (fun _ _ h => h)
      obtain ⟨_, _, r2, g2, k2⟩ := h2.below hB (fun _ _ h => h)
      obtain ⟨b1, o1, rfl, _, d1⟩ := g1 (by omega)
      obtain ⟨b2, o2, rfl, _, d2⟩ := g2 (by omega)
      obtain ⟨x, hx⟩ : ∃ x, l[i]? = some x := ⟨_, List.getElem?_eq_getElem hlt⟩
      have e1 := d1 i hlt 0 (.string x) (by rw [(k1 i x hx).1]; rfl)
      have e2 := d2 i hlt 0 (.string x) (by rw [(k2 i x hx).1]; rfl)
      simp only [Nat.mul_one, Nat.add_zero] at e1 e2
      clear d1 d2 g1 g2 k1 k2
      go_wp2_with fail
      go_region
      all_goals go_wp2
      all_goals go_roundw
      all_goals first
        | exact ⟨i + 1, by go_num, by omega, hB.drew⟩
        | (simp [intOf]; omega)
    · have hlt' : ¬ (i : Int) < (l.length : Int) := by omega
      go_wp2
      go_ret
      exact ⟨rfl, hB⟩
end Go.Proofs.Ytknppdpcgdncdaa.K
