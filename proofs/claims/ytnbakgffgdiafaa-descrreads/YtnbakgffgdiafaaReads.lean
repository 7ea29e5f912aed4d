/- DescrReads, walked. -/
import Derived.Test.YtnbakgffgdiafaaRM
namespace Go.Proofs.Ytnbakgffgdiafaa
open Go.RowKit

/-- What Method answers, and that who answers the same question elsewhere answers the same. -/
theorem ans_view {l : Bs} {B : Nat} {e : Ending} {w' : World} (h : MethAns l B e w') :
    ∃ v r k ps, View w' v ps ∧ e = .returned (.tuple #[v, .string r, .bool k]) ∧
      ∀ B2 e2 w2, MethAns l B2 e2 w2 → ∃ v2, View w2 v2 ps ∧ e2 = .returned (.tuple #[v2, .string r, .bool k]) := by
  rcases h with ⟨ps, r, v, h1, h2, h3⟩ | ⟨h1, h2⟩
  · refine ⟨v, str r, true, ps.map str, View.of_own h3, h2, ?_⟩
    rintro B2 e2 w2 (⟨ps', r', v', h1', h2', h3'⟩ | ⟨h1', _⟩)
    · rw [h1] at h1'
      simp only [Option.some.injEq, Prod.mk.injEq] at h1'
      obtain ⟨rfl, rfl⟩ := h1'
      exact ⟨v', View.of_own h3', h2'⟩
    · rw [h1] at h1'; cases h1'
  · refine ⟨_, _, _, [], ⟨none, 0, rfl, Nat.le_refl _, by unfold maxLen; omega, .inl rfl⟩, h2, ?_⟩
    rintro B2 e2 w2 (⟨ps', r', v', h1', h2', h3'⟩ | ⟨_, h2'⟩)
    · rw [h1] at h1'; cases h1'
    · exact ⟨_, ⟨none, 0, rfl, Nat.le_refl _, by unfold maxLen; omega, .inl rfl⟩, h2'⟩

set_option maxHeartbeats 8000000 in
theorem reads_any (s : ByteArray) (w : World) : Calls Try.prog 4 #[.string s] w fun e w' => e = .returned (.bool true) ∧ Below w.heap.size w w' := by
  by_cases h5 : s.size ≤ 500
  · have h5' : ¬ (500 : Int) < (s.size : Int) := by omega
    have hS : s.size ≤ 500 := h5
    go_enter Try.func4, Try.ntmps4
    generalize s = S at *
    go_wp2_with fail
    refine (method_any S w (by omega)).mono ?_
    rintro e w1 ⟨b1, h1⟩
    obtain ⟨v1, r1, k1, ps, V1, rfl, HB⟩ := ans_view h1
    clear h1
    obtain ⟨ao1, cap1, rfl, -⟩ := id V1
    go_wp2_with fail
    refine (rmethod_any S w1 (by omega)).mono ?_
    rintro e w2 ⟨b2, h2⟩
    obtain ⟨v2, V2, rfl⟩ := HB _ _ _ h2
    clear h2 HB
    obtain ⟨ao2, cap2, rfl, -⟩ := id V2
    have B2 : Below w.heap.size w w2 := b1.trans (b2.mono b1.size)
    have V1' := V1.below b2
    clear V1 b1 b2
    have hE := elem_any S w2 (by omega)
    have hE2 := relem_any S w2 (by omega)
    generalize elemZ S.data.toList = E at *
    obtain ⟨E1, E2⟩ := E
    go_wp2_with fail
    refine hE.mono ?_
    rintro e w' ⟨rfl, hww⟩; cases hww
    go_wp2_with fail
    refine hE2.mono ?_
    rintro e w' ⟨rfl, hww⟩; cases hww
    clear hE hE2
    have hA := name_any S w2
    have hA2 := rname_any S w2 (by omega)
    generalize nameB S.data.toList = NB at *
    go_wp2_with fail
    refine hA.mono ?_
    rintro e w' ⟨rfl, hww⟩; cases hww
    go_wp2_with fail
    refine hA2.mono ?_
    rintro e w' ⟨rfl, hww⟩; cases hww
    clear hA hA2
    have hA := field_any S w2 (by omega)
    have hA2 := rfield_any S w2 (by omega)
    generalize fieldB S.data.toList = FB at *
    go_wp2_with fail
    refine hA.mono ?_
    rintro e w' ⟨rfl, hww⟩; cases hww
    go_wp2_with fail
    refine hA2.mono ?_
    rintro e w' ⟨rfl, hww⟩; cases hww
    clear hA hA2
    go_wp2_with fail
    refine (same_any _ _ ps w2 V1' V2).mono ?_
    rintro e w3 ⟨rfl, q3, rfl⟩
    have B3 : Below w.heap.size w (w2.drewN q3) := ⟨B2.os, B2.tape, B2.output, B2.size, B2.block⟩
    clear B2 V1' V2
    generalize w2.drewN q3 = w3 at *
    have hA := class_any S w3 (by omega)
    have hA2 := rclass_any S w3 (by omega)
    generalize str (classZ S.data.toList) = CZ at *
    go_wp2_with fail
    refine hA.mono ?_
    rintro e w' ⟨rfl, hww⟩; cases hww
    go_wp2_with fail
    refine hA2.mono ?_
    rintro e w' ⟨rfl, hww⟩; cases hww
    clear hA hA2
    have hA := ref_any S w3 (by omega)
    have hA2 := rref_any S w3 (by omega)
    generalize str (76 :: (S.data.toList ++ [59])) = RZ at *
    go_wp2_with fail
    refine hA.mono ?_
    rintro e w' ⟨rfl, hww⟩; cases hww
    go_wp2_with fail
    refine hA2.mono ?_
    rintro e w' ⟨rfl, hww⟩; cases hww
    clear hA hA2
    go_wp2_with fail
    refine (known_any w3).mono ?_
    rintro e w4 ⟨rfl, b4⟩
    go_wp2
    go_ret
    exact ⟨rfl, B3.trans (b4.mono B3.size)⟩
  · have h5' : (500 : Int) < (s.size : Int) := by omega
    have hS : (s.extract 0 500).size ≤ 500 := by rw [size_len, Lib.extract_data, List.length_take]; omega
    go_enter Try.func4, Try.ntmps4
    generalize hX : s.extract 0 500 = S at *
    go_wp2_with fail
    refine (method_any S w (by omega)).mono ?_
    rintro e w1 ⟨b1, h1⟩
    obtain ⟨v1, r1, k1, ps, V1, rfl, HB⟩ := ans_view h1
    clear h1
    obtain ⟨ao1, cap1, rfl, -⟩ := id V1
    go_wp2_with fail
    refine (rmethod_any S w1 (by omega)).mono ?_
    rintro e w2 ⟨b2, h2⟩
    obtain ⟨v2, V2, rfl⟩ := HB _ _ _ h2
    clear h2 HB
    obtain ⟨ao2, cap2, rfl, -⟩ := id V2
    have B2 : Below w.heap.size w w2 := b1.trans (b2.mono b1.size)
    have V1' := V1.below b2
    clear V1 b1 b2
    have hE := elem_any S w2 (by omega)
    have hE2 := relem_any S w2 (by omega)
    generalize elemZ S.data.toList = E at *
    obtain ⟨E1, E2⟩ := E
    go_wp2_with fail
    refine hE.mono ?_
    rintro e w' ⟨rfl, hww⟩; cases hww
    go_wp2_with fail
    refine hE2.mono ?_
    rintro e w' ⟨rfl, hww⟩; cases hww
    clear hE hE2
    have hA := name_any S w2
    have hA2 := rname_any S w2 (by omega)
    generalize nameB S.data.toList = NB at *
    go_wp2_with fail
    refine hA.mono ?_
    rintro e w' ⟨rfl, hww⟩; cases hww
    go_wp2_with fail
    refine hA2.mono ?_
    rintro e w' ⟨rfl, hww⟩; cases hww
    clear hA hA2
    have hA := field_any S w2 (by omega)
    have hA2 := rfield_any S w2 (by omega)
    generalize fieldB S.data.toList = FB at *
    go_wp2_with fail
    refine hA.mono ?_
    rintro e w' ⟨rfl, hww⟩; cases hww
    go_wp2_with fail
    refine hA2.mono ?_
    rintro e w' ⟨rfl, hww⟩; cases hww
    clear hA hA2
    go_wp2_with fail
    refine (same_any _ _ ps w2 V1' V2).mono ?_
    rintro e w3 ⟨rfl, q3, rfl⟩
    have B3 : Below w.heap.size w (w2.drewN q3) := ⟨B2.os, B2.tape, B2.output, B2.size, B2.block⟩
    clear B2 V1' V2
    generalize w2.drewN q3 = w3 at *
    have hA := class_any S w3 (by omega)
    have hA2 := rclass_any S w3 (by omega)
    generalize str (classZ S.data.toList) = CZ at *
    go_wp2_with fail
    refine hA.mono ?_
    rintro e w' ⟨rfl, hww⟩; cases hww
    go_wp2_with fail
    refine hA2.mono ?_
    rintro e w' ⟨rfl, hww⟩; cases hww
    clear hA hA2
    have hA := ref_any S w3 (by omega)
    have hA2 := rref_any S w3 (by omega)
    generalize str (76 :: (S.data.toList ++ [59])) = RZ at *
    go_wp2_with fail
    refine hA.mono ?_
    rintro e w' ⟨rfl, hww⟩; cases hww
    go_wp2_with fail
    refine hA2.mono ?_
    rintro e w' ⟨rfl, hww⟩; cases hww
    clear hA hA2
    go_wp2_with fail
    refine (known_any w3).mono ?_
    rintro e w4 ⟨rfl, b4⟩
    go_wp2
    go_ret
    exact ⟨rfl, B3.trans (b4.mono B3.size)⟩
end Go.Proofs.Ytnbakgffgdiafaa
