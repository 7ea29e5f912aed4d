/- fieldLength, walked. -/
import Derived.Test.YtknppdpcgdncdaaQDDW
namespace Go.Proofs.Ytknppdpcgdncdaa.Q.D
open Go.RowKit
theorem u8_of {c : UInt8} {n : Nat} (h : c.toNat = n) (hn : n < 256) : c = UInt8.ofNat n := by
  apply UInt8.toNat.inj; rw [h]; simp; omega
theorem drop_at (s : ByteArray) (n : Nat) (h : n < s.size) : s.data.toList.drop n = s[n] :: s.data.toList.drop (n + 1) := by
  have h' : n < s.data.toList.length := by rw [← size_len]; exact h
  rw [List.drop_eq_getElem_cons h']; rfl
theorem ext_data (s : ByteArray) (n : Nat) : (s.extract n s.size).data.toList = s.data.toList.drop n := by
  rw [Lib.extract_data, List.take_of_length_le]
  rw [List.length_drop, size_len]; omega
theorem base_I (s : ByteArray) (n : Nat) (h : n < s.size) (hc : s[n].toNat = 73) : base (s.data.toList.drop n) = 1 := by
  rw [drop_at s n h, u8_of hc (by omega)]; rfl
theorem base_L (s : ByteArray) (n : Nat) (h : n < s.size) (hc : s[n].toNat = 76) : base (s.data.toList.drop n) =
    if 0 < nl (s.extract (n + 1) s.size).data.toList ∧ (s.data.toList.drop (n + 1))[nl (s.extract (n + 1) s.size).data.toList]? = some 59 then nl (s.extract (n + 1) s.size).data.toList + 2 else 0 := by
  rw [drop_at s n h, u8_of hc (by omega), ext_data]; rfl
theorem base_no (s : ByteArray) (n : Nat) (h : n < s.size) (hc : s[n].toNat ≠ 73) (hd : s[n].toNat ≠ 76) : base (s.data.toList.drop n) = 0 := by
  rw [drop_at s n h]
  unfold base
  simp only
  rw [if_neg (by intro e; rw [e] at hc; exact hc rfl), if_neg (by intro e; rw [e] at hd; exact hd rfl)]
theorem base_end (s : ByteArray) (n : Nat) (h : s.size ≤ n) : base (s.data.toList.drop n) = 0 := by
  rw [List.drop_eq_nil_of_le (by rw [← size_len]; exact h)]; rfl
theorem flen_arr (s : ByteArray) (h : 0 < s.size) (hc : s[0].toNat = 91) : flen s.data.toList = if base (s.data.toList.drop 1) = 0 then 0 else base (s.data.toList.drop 1) + 1 := by
  have e := drop_at s 0 h
  rw [List.drop_zero] at e
  conv => lhs; rw [e, u8_of hc (by omega)]
  rfl
theorem flen_no (s : ByteArray) (h : 0 < s.size) (hc : s[0].toNat ≠ 91) : flen s.data.toList = base (s.data.toList.drop 0) := by
  have e := drop_at s 0 h
  rw [List.drop_zero] at e ⊢
  conv => lhs; rw [e]
  conv => rhs; rw [e]
  unfold flen
  simp only
  rw [if_neg (by intro e; rw [e] at hc; exact hc rfl)]
theorem semi_at (s : ByteArray) (m k : Nat) (h : m + k < s.size) : (s.data.toList.drop m)[k]? = some 59 ↔ s[m + k].toNat = 59 := by
  rw [List.getElem?_drop, at_get s (m + k) h]
  simp only [Option.some.injEq]
  constructor
  · intro e; rw [e]; rfl
  · intro e; rw [u8_of e (by omega)]; rfl
theorem semi_end (s : ByteArray) (m k : Nat) (h : s.size ≤ m + k) : (s.data.toList.drop m)[k]? = none := by
  rw [List.getElem?_drop, List.getElem?_eq_none]; rw [← size_len]; exact h
theorem toList_ne (s : ByteArray) (h : 0 < s.size) : (s.toList == []) = false := by
  rw [Lib.toList_data]
  have : s.data.toList ≠ [] := by intro e; rw [size_len, e] at h; simp at h
  simpa using this

set_option maxRecDepth 8000 in
set_option maxHeartbeats 2000000 in
theorem fl_nil (s : ByteArray) (w : World) (h : s.size = 0) :
    Calls Try.prog 60 #[.string s] w fun e w' => e = .returned (.int .i64 (flen s.data.toList)) ∧ w' = w := by
  have e1 : s.data.toList = [] := List.eq_nil_of_length_eq_zero (by rw [← size_len]; exact h)
  have e2 : s.toList = [] := by rw [Lib.toList_data]; exact e1
  rw [e1]
  clear e1
  go_enter Try.func60, Try.ntmps60
  go_wp2
  go_ret
  exact ⟨rfl, rfl⟩

set_option maxRecDepth 8000 in
set_option maxHeartbeats 4000000 in
theorem fl_zero (s : ByteArray) (w : World) (h0 : 0 < s.size) (hs : s.size ≤ 9223372036854775807) (hc : s[0].toNat ≠ 91) :
    Calls Try.prog 60 #[.string s] w fun e w' => e = .returned (.int .i64 (flen s.data.toList)) ∧ w' = w := by
  have e2 := toList_ne s (by omega)
  have z0 : ((0 : Int) == (s.size : Int)) = false := by simp; omega
  have b0 : ((s[0].toNat : Int) == 91) = false := by simp; omega
  rw [flen_no s h0 hc]
  by_cases c1 : s[0].toNat = 73
  · rw [base_I s 0 h0 c1]
    have b1 : ((s[0].toNat : Int) == 73) = true := by simp; omega
    go_enter Try.func60, Try.ntmps60
    go_wp2
    go_ret
    exact ⟨rfl, rfl⟩
  · have b1 : ((s[0].toNat : Int) == 73) = false := by simp; omega
    by_cases c2 : s[0].toNat = 76
    · rw [base_L s 0 h0 c2]
      have b2 : ((s[0].toNat : Int) == 76) = true := by simp; omega
      have hN := hidIt (nl_any (s.extract 1 s.size) w)
      have hk := nl_le64 (s.extract 1 s.size).data.toList
      rw [show (0 + 1 : Nat) = 1 from rfl]
      generalize nl (s.extract 1 s.size).data.toList = K at *
      have hsz : (1 : Int) ≤ (s.size : Int) := by omega
      by_cases d1 : 0 < K
      · by_cases d2 : 1 + K < s.size
        · by_cases d3 : s[1 + K].toNat = 59
          · simp only [if_pos (show 0 < K ∧ (s.data.toList.drop 1)[K]? = some 59 from ⟨d1, (semi_at s 1 K d2).2 d3⟩)]
            have b3 : ((s[1 + K].toNat : Int) == 59) = true := by simp; omega
            go_enter Try.func60, Try.ntmps60
            go_wp2_with fail
            refine hN.out.mono ?_
            rintro e w' ⟨rfl, hww⟩; cases hww
            go_wp2
            go_ret
            refine ⟨ret_int ?_, rfl⟩
            omega
          · simp only [if_neg (show ¬ (0 < K ∧ (s.data.toList.drop 1)[K]? = some 59) from fun h => d3 ((semi_at s 1 K d2).1 h.2))]
            have b3 : ((s[1 + K].toNat : Int) == 59) = false := by simp; omega
            go_enter Try.func60, Try.ntmps60
            go_wp2_with fail
            refine hN.out.mono ?_
            rintro e w' ⟨rfl, hww⟩; cases hww
            go_wp2
            go_ret
            exact ⟨rfl, rfl⟩
        · simp only [if_neg (show ¬ (0 < K ∧ (s.data.toList.drop 1)[K]? = some 59) from fun h => by have := h.2; rw [semi_end s 1 K (by omega)] at this; cases this)]
          go_enter Try.func60, Try.ntmps60
          go_wp2_with fail
          refine hN.out.mono ?_
          rintro e w' ⟨rfl, hww⟩; cases hww
          go_wp2
          go_ret
          exact ⟨rfl, rfl⟩
      · simp only [if_neg (show ¬ (0 < K ∧ (s.data.toList.drop 1)[K]? = some 59) from fun h => d1 h.1)]
        obtain rfl : K = 0 := by omega
        go_enter Try.func60, Try.ntmps60
        go_wp2_with fail
        refine hN.out.mono ?_
        rintro e w' ⟨rfl, hww⟩; cases hww
        go_wp2
        go_ret
        exact ⟨rfl, rfl⟩
    · rw [base_no s 0 h0 c1 c2]
      have b2 : ((s[0].toNat : Int) == 76) = false := by simp; omega
      go_enter Try.func60, Try.ntmps60
      go_wp2
      go_ret
      exact ⟨rfl, rfl⟩

set_option maxRecDepth 8000 in
set_option maxHeartbeats 4000000 in
theorem fl_one (s : ByteArray) (w : World) (h1 : 1 < s.size) (hs : s.size ≤ 9223372036854775807) (hc : s[0].toNat = 91) :
    Calls Try.prog 60 #[.string s] w fun e w' => e = .returned (.int .i64 (flen s.data.toList)) ∧ w' = w := by
  have e2 := toList_ne s (by omega)
  have z0 : ((1 : Int) == (s.size : Int)) = false := by simp; omega
  have b0 : ((s[0].toNat : Int) == 91) = true := by simp; omega
  have h0 : 0 < s.size := by omega
  rw [flen_arr s (by omega) hc]
  by_cases c1 : s[1].toNat = 73
  · rw [base_I s 1 h1 c1]
    have b1 : ((s[1].toNat : Int) == 73) = true := by simp; omega
    go_enter Try.func60, Try.ntmps60
    go_wp2
    go_ret
    exact ⟨rfl, rfl⟩
  · have b1 : ((s[1].toNat : Int) == 73) = false := by simp; omega
    by_cases c2 : s[1].toNat = 76
    · rw [base_L s 1 h1 c2]
      have b2 : ((s[1].toNat : Int) == 76) = true := by simp; omega
      have hN := hidIt (nl_any (s.extract 2 s.size) w)
      have hk := nl_le64 (s.extract 2 s.size).data.toList
      rw [show (1 + 1 : Nat) = 2 from rfl]
      generalize nl (s.extract 2 s.size).data.toList = K at *
      have hsz : (1 : Int) ≤ (s.size : Int) := by omega
      by_cases d1 : 0 < K
      · by_cases d2 : 2 + K < s.size
        · by_cases d3 : s[2 + K].toNat = 59
          · simp only [if_pos (show 0 < K ∧ (s.data.toList.drop 2)[K]? = some 59 from ⟨d1, (semi_at s 2 K d2).2 d3⟩)]
            try simp only [if_neg (show ¬ (K + 2 = 0) by omega)]
            have b3 : ((s[2 + K].toNat : Int) == 59) = true := by simp; omega
            go_enter Try.func60, Try.ntmps60
            go_wp2_with fail
            refine hN.out.mono ?_
            rintro e w' ⟨rfl, hww⟩; cases hww
            go_wp2
            go_ret
            refine ⟨ret_int ?_, rfl⟩
            omega
          · simp only [if_neg (show ¬ (0 < K ∧ (s.data.toList.drop 2)[K]? = some 59) from fun h => d3 ((semi_at s 2 K d2).1 h.2))]
            try simp only [if_pos]
            have b3 : ((s[2 + K].toNat : Int) == 59) = false := by simp; omega
            go_enter Try.func60, Try.ntmps60
            go_wp2_with fail
            refine hN.out.mono ?_
            rintro e w' ⟨rfl, hww⟩; cases hww
            go_wp2
            go_ret
            exact ⟨rfl, rfl⟩
        · simp only [if_neg (show ¬ (0 < K ∧ (s.data.toList.drop 2)[K]? = some 59) from fun h => by have := h.2; rw [semi_end s 2 K (by omega)] at this; cases this)]
          try simp only [if_pos]
          go_enter Try.func60, Try.ntmps60
          go_wp2_with fail
          refine hN.out.mono ?_
          rintro e w' ⟨rfl, hww⟩; cases hww
          go_wp2
          go_ret
          exact ⟨rfl, rfl⟩
      · simp only [if_neg (show ¬ (0 < K ∧ (s.data.toList.drop 2)[K]? = some 59) from fun h => d1 h.1)]
        try simp only [if_pos]
        obtain rfl : K = 0 := by omega
        go_enter Try.func60, Try.ntmps60
        go_wp2_with fail
        refine hN.out.mono ?_
        rintro e w' ⟨rfl, hww⟩; cases hww
        go_wp2
        go_ret
        exact ⟨rfl, rfl⟩
    · rw [base_no s 1 h1 c1 c2]
      have b2 : ((s[1].toNat : Int) == 76) = false := by simp; omega
      go_enter Try.func60, Try.ntmps60
      go_wp2
      go_ret
      exact ⟨rfl, rfl⟩

set_option maxRecDepth 8000 in
set_option maxHeartbeats 2000000 in
theorem fl_sign (s : ByteArray) (w : World) (h : s.size = 1) (hc : s[0].toNat = 91) :
    Calls Try.prog 60 #[.string s] w fun e w' => e = .returned (.int .i64 (flen s.data.toList)) ∧ w' = w := by
  have e2 := toList_ne s (by omega)
  have z0 : ((1 : Int) == (s.size : Int)) = true := by simp; omega
  have b0 : ((s[0].toNat : Int) == 91) = true := by simp; omega
  rw [flen_arr s (by omega) hc, base_end s 1 (by omega), if_pos rfl]
  go_enter Try.func60, Try.ntmps60
  go_wp2
  go_ret
  exact ⟨rfl, rfl⟩

theorem fl_any (s : ByteArray) (w : World) (hs : s.size ≤ 9223372036854775807) :
    Calls Try.prog 60 #[.string s] w fun e w' => e = .returned (.int .i64 (flen s.data.toList)) ∧ w' = w := by
  by_cases h : s.size = 0
  · exact fl_nil s w h
  · by_cases hc : (s[0]'(by omega)).toNat = 91
    · by_cases h1 : s.size = 1
      · exact fl_sign s w h1 hc
      · exact fl_one s w (by omega) hs hc
    · exact fl_zero s w (by omega) hs hc
end Go.Proofs.Ytknppdpcgdncdaa.Q.D
