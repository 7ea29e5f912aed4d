/- Class, Ref: walked. -/
import Derived.Test.YtknppdpcgdncdaaQDDL
namespace Go.Proofs.Ytknppdpcgdncdaa.Q.D
open Go.RowKit
set_option maxRecDepth 8000 in
set_option maxHeartbeats 2000000 in
theorem class_any (s : ByteArray) (w : World) (hs : s.size ≤ 9223372036854775807) :
    Calls Try.prog 41 #[.string s] w fun e w' => e = .returned (.string (str (classZ s.data.toList))) ∧ w' = w := by
  have hN := hidIt (field_any s w hs)
  unfold classZ
  by_cases h1 : fieldB s.data.toList = true
  · have h0 := field_pos h1
    rw [if_pos h1]
    rw [h1] at hN
    by_cases h2 : s[0].toNat = 76
    · rw [if_pos (show s.data.toList[0]? = some 76 from (at0 s h0 76 (by omega)).2 h2)]
      have b : ((s[0].toNat : Int) == 76) = true := by simp; omega
      have h3 : 2 ≤ s.size := by
        rcases Nat.lt_or_ge s.size 2 with h | h
        · exfalso
          have hl : s.data.toList = [76] := by
            have e := drop_at s 0 h0
            rw [List.drop_zero, List.drop_eq_nil_of_le (by rw [← size_len]; omega), u8_of h2 (by omega)] at e
            exact e
          rw [hl] at h1
          exact absurd h1 (by decide)
        · exact h
      have e := ext_str s 1 (s.size - 1)
      rw [show s.size - 1 - 1 = s.data.toList.length - 2 by rw [← size_len]; omega] at e
      generalize str (List.take (s.data.toList.length - 2) (List.drop 1 s.data.toList)) = X at *
      clear h1
      go_enter Try.func41, Try.ntmps41
      go_wp2_with fail
      refine hN.out.mono ?_
      rintro e w' ⟨rfl, hww⟩; cases hww
      go_wp2
      go_ret
      exact ⟨rfl, rfl⟩
    · rw [if_neg (show ¬ s.data.toList[0]? = some 76 from fun h => h2 ((at0 s h0 76 (by omega)).1 h))]
      have b : ((s[0].toNat : Int) == 76) = false := by simp; omega
      by_cases h3 : s[0].toNat = 91
      · rw [if_pos (show s.data.toList[0]? = some 91 from (at0 s h0 91 (by omega)).2 h3)]
        have b2 : ((s[0].toNat : Int) == 91) = true := by simp; omega
        clear h1
        go_enter Try.func41, Try.ntmps41
        go_wp2_with fail
        refine hN.out.mono ?_
        rintro e w' ⟨rfl, hww⟩; cases hww
        go_wp2
        go_ret
        exact ⟨rfl, rfl⟩
      · rw [if_neg (show ¬ s.data.toList[0]? = some 91 from fun h => h3 ((at0 s h0 91 (by omega)).1 h))]
        have b2 : ((s[0].toNat : Int) == 91) = false := by simp; omega
        clear h1
        go_enter Try.func41, Try.ntmps41
        go_wp2_with fail
        refine hN.out.mono ?_
        rintro e w' ⟨rfl, hww⟩; cases hww
        go_wp2
        go_ret
        exact ⟨rfl, rfl⟩
  · rw [if_neg h1]
    simp only [Bool.not_eq_true] at h1
    rw [h1] at hN
    clear h1
    go_enter Try.func41, Try.ntmps41
    go_wp2_with fail
    refine hN.out.mono ?_
    rintro e w' ⟨rfl, hww⟩; cases hww
    go_wp2
    go_ret
    exact ⟨rfl, rfl⟩

set_option maxRecDepth 8000 in
set_option maxHeartbeats 1000000 in
theorem ref_any (s : ByteArray) (w : World) (hs : s.size ≤ 1073741824) :
    Calls Try.prog 23 #[.string s] w fun e w' => e = .returned (.string (str (76 :: (s.data.toList ++ [59])))) ∧ w' = w := by
  go_enter Try.func23, Try.ntmps23
  go_wp2
  go_ret
  refine ⟨?_, rfl⟩
  rw [← str_of (s := { data := #[76] } ++ s ++ { data := #[59] }) (by rw [cat_data, cat_data]; simp)]
  rfl
end Go.Proofs.Ytknppdpcgdncdaa.Q.D
