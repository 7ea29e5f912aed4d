/- The document's own Name, and the length of the field that a text begins with: walked. -/
import Derived.Test.YthagaldpopnoeaaGreatDoorYA
namespace Go.Proofs.YthagaldpopnoeaaGreatDoor.D
open Go.RowKit

def AllOk (s : ByteArray) (k : Nat) : Prop := k ≤ s.size ∧ ∀ j, j < k → ∃ c, s.data.toList[j]? = some c ∧ okc j c = true
theorem AllOk.more {s : ByteArray} {k : Nat} (h : AllOk s k) (h1 : k < s.size) (h3 : okc k s[k] = true) : AllOk s (k + 1) := by
  refine ⟨by omega, fun j hj => ?_⟩
  by_cases e : j = k
  · subst e; exact ⟨_, at_get s j h1, h3⟩
  · exact h.2 j (by omega)
theorem no_name {s : ByteArray} {k : Nat} (h1 : k < s.size) (h3 : okc k s[k] = false) : nameB s.data.toList = false := by
  cases h : nameB s.data.toList with
  | false => rfl
  | true =>
    have := ((nameB_iff _).1 h).2.2 k _ (at_get s k h1)
    rw [h3] at this; cases this
theorem AllOk.name {s : ByteArray} (h : AllOk s s.size) (h1 : 1 ≤ s.size) (h2 : s.size ≤ 64) : nameB s.data.toList = true := by
  rw [nameB_iff]
  refine ⟨by rw [← size_len]; exact h1, by rw [← size_len]; exact h2, fun j c hj => ?_⟩
  obtain ⟨c', e1, e2⟩ := h.2 j (by rw [size_len]; exact (List.getElem?_eq_some_iff.1 hj).1)
  rw [e1] at hj; cases hj; exact e2
theorem no_len {s : ByteArray} (h : ¬ (1 ≤ s.size ∧ s.size ≤ 64)) : nameB s.data.toList = false := by
  cases h' : nameB s.data.toList with
  | false => rfl
  | true =>
    have := (nameB_iff _).1 h'
    rw [size_len] at h
    exact absurd ⟨this.1, this.2.1⟩ h

set_option maxRecDepth 8000 in
set_option maxHeartbeats 4000000 in
theorem rname_any (s : ByteArray) (w : World) (hs : s.size ≤ 9223372036854775807) :
    Calls Tryz.prog 44 #[.string s] w fun e w' => e = .returned (.bool (nameB s.data.toList)) ∧ w' = w := by
  go_enter Tryz.func44, Tryz.ntmps44
  go_wp2
  go_loop [3] (fun n => ∃ (k : Nat), n = .int .i64 (k : Int) ∧ k ≤ s.size ∧ Hid (AllOk s k)) (fun i => s.size - (intOf i).toNat)
  case atStart =>
    exact ⟨0, rfl, by omega, ⟨by omega, fun j hj => by omega⟩⟩
  case round =>
    obtain ⟨k, rfl, hk, hsee⟩ := hrel
    by_cases h1 : k < s.size
    · have h1' : (k : Int) < (s.size : Int) := by omega
      go_wp2
      all_goals first
        | (refine ⟨⟨k + 1, by go_num, by omega, hsee.out.more h1 ((okc_iff _ _).2 (by simp_all; omega))⟩, by simp [intOf]; omega⟩)
        | (go_ret; refine ⟨ret_bool ?_, rfl⟩; rw [no_name h1 ((okc_not _ _).2 (by simp_all; omega))])
        | (exfalso; simp_all; done)
        | (exfalso; simp_all; omega)
    · have h1' : ¬ (k : Int) < (s.size : Int) := by omega
      obtain rfl : k = s.size := by omega
      by_cases c1 : 1 ≤ s.size
      · have c1' : (1 : Int) ≤ (s.size : Int) := by omega
        by_cases c2 : s.size ≤ 64
        · have c2' : (s.size : Int) ≤ 64 := by omega
          have F := hidIt (hsee.out.name c1 c2)
          go_wp2
          go_ret
          exact ⟨by rw [F.out]; rfl, rfl⟩
        · have c2' : ¬ (s.size : Int) ≤ 64 := by omega
          have F := hidIt (no_len (s := s) (by omega))
          go_wp2
          go_ret
          exact ⟨by rw [F.out]; rfl, rfl⟩
      · have c1' : ¬ (1 : Int) ≤ (s.size : Int) := by omega
        have F := hidIt (no_len (s := s) (by omega))
        go_wp2
        go_ret
        exact ⟨by rw [F.out]; rfl, rfl⟩

/-- Where the first ';' stands, from n on. -/
def NoSemi (s : ByteArray) (k : Nat) : Prop := ∀ j, 1 ≤ j → j < k → ∀ h : j < s.size, s[j].toNat ≠ 59
theorem NoSemi.more {s : ByteArray} {k : Nat} (h : NoSemi s k) (hk : k < s.size) (h1 : s[k].toNat ≠ 59) : NoSemi s (k + 1) := by
  intro j h2 h3 h4
  by_cases e : j = k
  · subst e; exact h1
  · exact h j h2 (by omega) h4
/-- The first ';' behind an L closes a name, or nothing does. -/
theorem base_semi (s : ByteArray) (k : Nat) (h0 : 0 < s.size) (hc : s[0].toNat = 76) (hn : NoSemi s k) (hk1 : 1 ≤ k) (hk : k < s.size) (h59 : s[k].toNat = 59) :
    base s.data.toList = if nameB (s.extract 1 k).data.toList = true then k + 1 else 0 := by
  have e0 := base_L s 0 h0 hc
  rw [List.drop_zero, show (0 + 1 : Nat) = 1 from rfl] at e0
  have et : (s.extract 1 s.size).data.toList = (s.extract 1 k).data.toList ++ 59 :: s.data.toList.drop (k + 1) := by
    rw [ext_data, Lib.extract_data]
    have e1 : s.data.toList.drop k = 59 :: s.data.toList.drop (k + 1) := by rw [drop_at s k hk, u8_of h59 (by omega)]; rfl
    rw [← e1]
    conv => lhs; rw [← List.take_append_drop (k - 1) (s.data.toList.drop 1)]
    rw [List.drop_drop, show 1 + (k - 1) = k by omega]
  by_cases hN : nameB (s.extract 1 k).data.toList = true
  · rw [if_pos hN]
    have hN' := (nameB_iff _).1 hN
    have e2 := nl_name (rest := s.data.toList.drop (k + 1)) hN'
    rw [← et] at e2
    have e3 : (s.extract 1 k).data.toList.length = k - 1 := by
      rw [Lib.extract_data, List.length_take, List.length_drop, ← size_len]; omega
    rw [e0, e2, e3, if_pos]
    · omega
    · refine ⟨by have := hN'.1; omega, ?_⟩
      rw [semi_at s 1 (k - 1) (by omega)]
      have : 1 + (k - 1) = k := by omega
      simp only [this]; exact h59
  · rw [if_neg hN, e0, if_neg]
    rintro ⟨h1, h2⟩
    apply hN
    rw [nameB_iff]
    have hlt : nl (s.extract 1 s.size).data.toList < (s.data.toList.drop 1).length := by
      rcases Nat.lt_or_ge (nl (s.extract 1 s.size).data.toList) (s.data.toList.drop 1).length with h | h
      · exact h
      · rw [List.getElem?_eq_none h] at h2; cases h2
    rw [List.length_drop, ← size_len] at hlt
    have h3 := (semi_at s 1 _ (by omega)).1 h2
    have h4 := name_take h1
    obtain ⟨K, hK⟩ : ∃ K, nl (s.extract 1 s.size).data.toList = K := ⟨_, rfl⟩
    simp only [hK] at h3 h4 hlt h1
    have hKk : 1 + K = k := by
      rcases Nat.lt_trichotomy (1 + K) k with h | h | h
      · exact absurd h3 (hn (1 + K) (by omega) h (by omega))
      · exact h
      · exfalso
        have := nl_ok (l := (s.extract 1 s.size).data.toList) (j := k - 1) (by omega)
        obtain ⟨c, h5, h6⟩ := this
        rw [ext_data, List.getElem?_drop, show 1 + (k - 1) = k by omega, at_get s k hk] at h5
        cases h5
        rw [u8_of h59 (by omega)] at h6
        exact absurd h6 (by rw [show UInt8.ofNat 59 = 59 from rfl, okc_semi]; simp)
    rw [ext_data] at h4
    rw [Lib.extract_data, show k - 1 = K by omega]
    exact h4
theorem base_nosemi (s : ByteArray) (h0 : 0 < s.size) (hc : s[0].toNat = 76) (hn : NoSemi s s.size) : base s.data.toList = 0 := by
  have e0 := base_L s 0 h0 hc
  rw [List.drop_zero, show (0 + 1 : Nat) = 1 from rfl] at e0
  rw [e0, if_neg]
  rintro ⟨h1, h2⟩
  have hlt : nl (s.extract 1 s.size).data.toList < (s.data.toList.drop 1).length := by
    rcases Nat.lt_or_ge (nl (s.extract 1 s.size).data.toList) (s.data.toList.drop 1).length with h | h
    · exact h
    · rw [List.getElem?_eq_none h] at h2; cases h2
  rw [List.length_drop, ← size_len] at hlt
  exact hn _ (by omega) (by omega) (by omega) ((semi_at s 1 _ (by omega)).1 h2)

set_option maxRecDepth 8000 in
set_option maxHeartbeats 4000000 in
theorem one_base (s : ByteArray) (w : World) (hs : s.size ≤ 9223372036854775807) (h0 : 0 < s.size) (hc : s[0].toNat ≠ 91) :
    Calls Tryz.prog 95 #[.string s] w fun e w' => e = .returned (.int .i64 (base s.data.toList)) ∧ w' = w := by
  have e2 := toList_ne s h0
  have b0 : ((s[0].toNat : Int) == 91) = false := by simp; omega
  by_cases c1 : s[0].toNat = 73
  · have e := base_I s 0 h0 c1
    rw [List.drop_zero] at e
    rw [e]
    have b1 : ((s[0].toNat : Int) == 73) = true := by simp; omega
    go_enter Tryz.func95, Tryz.ntmps95
    go_wp2
    go_ret
    exact ⟨rfl, rfl⟩
  · have b1 : ((s[0].toNat : Int) == 73) = false := by simp; omega
    by_cases c2 : s[0].toNat = 76
    · have b2 : ((s[0].toNat : Int) == 76) = true := by simp; omega
      go_enter Tryz.func95, Tryz.ntmps95
      go_wp2
      go_loop [4] (fun n => ∃ (k : Nat), n = .int .i64 (k : Int) ∧ 1 ≤ k ∧ k ≤ s.size ∧ Hid (NoSemi s k)) (fun i => s.size - (intOf i).toNat)
      case atStart =>
        exact ⟨1, rfl, by omega, by omega, fun j h1 h2 => by omega⟩
      case round =>
        obtain ⟨k, rfl, hk1, hk, hns⟩ := hrel
        by_cases h1 : k < s.size
        · have h1' : (k : Int) < (s.size : Int) := by omega
          by_cases h2 : s[k].toNat = 59
          · have b3 : ((s[k].toNat : Int) == 59) = true := by simp; omega
            have F := hidIt (base_semi s k h0 c2 hns.out hk1 h1 h2)
            have hN := hidIt (rname_any (s.extract 1 k) w (by rw [size_len, Lib.extract_data, List.length_take, List.length_drop, ← size_len]; omega))
            by_cases h3 : nameB (s.extract 1 k).data.toList = true
            · rw [h3] at hN F
              clear h3
              go_wp2_with fail
              refine hN.out.mono ?_
              rintro e w' ⟨rfl, hww⟩; cases hww
              go_wp2
              go_ret
              exact ⟨ret_int (by rw [F.out]; simp), rfl⟩
            · simp only [Bool.not_eq_true] at h3
              rw [h3] at hN F
              clear h3
              go_wp2_with fail
              refine hN.out.mono ?_
              rintro e w' ⟨rfl, hww⟩; cases hww
              go_wp2
              go_ret
              exact ⟨ret_int (by rw [F.out]; simp), rfl⟩
          · have b3 : ((s[k].toNat : Int) == 59) = false := by simp; omega
            go_wp2
            exact ⟨⟨k + 1, by go_num, by omega, by omega, hns.out.more h1 h2⟩, by simp [intOf]; omega⟩
        · have h1' : ¬ (k : Int) < (s.size : Int) := by omega
          obtain rfl : k = s.size := by omega
          have F := hidIt (base_nosemi s h0 c2 hns.out)
          go_wp2
          go_ret
          exact ⟨by rw [F.out]; rfl, rfl⟩
    · have e := base_no s 0 h0 c1 c2
      rw [List.drop_zero] at e
      rw [e]
      have b2 : ((s[0].toNat : Int) == 76) = false := by simp; omega
      go_enter Tryz.func95, Tryz.ntmps95
      go_wp2
      go_ret
      exact ⟨rfl, rfl⟩

theorem base_sign (t : Bs) : base (91 :: t) = 0 := by simp [base]

set_option maxRecDepth 8000 in
set_option maxHeartbeats 4000000 in
theorem one_any (s : ByteArray) (w : World) (hs : s.size ≤ 9223372036854775807) :
    Calls Tryz.prog 95 #[.string s] w fun e w' => e = .returned (.int .i64 (flen s.data.toList)) ∧ w' = w := by
  by_cases h : s.size = 0
  · have e1 : s.data.toList = [] := List.eq_nil_of_length_eq_zero (by rw [← size_len]; exact h)
    have e2 : s.toList = [] := by rw [Lib.toList_data]; exact e1
    rw [e1]
    clear e1
    go_enter Tryz.func95, Tryz.ntmps95
    go_wp2
    go_ret
    exact ⟨rfl, rfl⟩
  · have h0 : 0 < s.size := by omega
    by_cases hc : s[0].toNat = 91
    · have e2 := toList_ne s h0
      have b0 : ((s[0].toNat : Int) == 91) = true := by simp; omega
      have b1 : ((s[0].toNat : Int) == 73) = false := by simp; omega
      rw [flen_arr s h0 hc]
      by_cases h1 : s.size = 1
      · rw [base_end s 1 (by omega), if_pos rfl]
        have h1' : ¬ (1 : Int) < (s.size : Int) := by omega
        go_enter Tryz.func95, Tryz.ntmps95
        go_wp2
        go_ret
        exact ⟨rfl, rfl⟩
      · have h1' : (1 : Int) < (s.size : Int) := by omega
        have h1n : 1 < s.size := by omega
        by_cases hd : s[1].toNat = 91
        · have b2 : ((s[1].toNat : Int) == 91) = true := by simp; omega
          have b2' : ((s[1].toNat : Int) != 91) = false := by simp; omega
          rw [drop_at s 1 h1n, u8_of hd (by omega), show UInt8.ofNat 91 = 91 from rfl, base_sign, if_pos rfl]
          go_enter Tryz.func95, Tryz.ntmps95
          go_wp2
          go_ret
          exact ⟨rfl, rfl⟩
        · have b2 : ((s[1].toNat : Int) == 91) = false := by simp; omega
          have b2' : ((s[1].toNat : Int) != 91) = true := by simp; omega
          have z : (s.extract 1 s.size).size = s.size - 1 := by rw [size_len, ext_data, List.length_drop, ← size_len]
          have hO := hidIt (one_base (s.extract 1 s.size) w (by omega) (by omega) (by
            have e := drop_at s 1 h1n
            have e' := at_get (s.extract 1 s.size) 0 (by omega)
            rw [ext_data, e] at e'
            simp at e'
            rw [← e']; exact hd))
          rw [ext_data] at hO
          have hb := (flen_le (s.data.toList)).2
          rw [flen_arr s h0 hc] at hb
          generalize base (s.data.toList.drop 1) = K at *
          by_cases hK : K = 0
          · subst hK
            rw [if_pos rfl]
            go_enter Tryz.func95, Tryz.ntmps95
            go_wp2_with fail
            refine hO.out.mono ?_
            rintro e w' ⟨rfl, hww⟩; cases hww
            go_wp2
            go_ret
            exact ⟨rfl, rfl⟩
          · rw [if_neg hK] at hb ⊢
            have hK' : (0 : Int) < (K : Int) := by omega
            go_enter Tryz.func95, Tryz.ntmps95
            go_wp2_with fail
            refine hO.out.mono ?_
            rintro e w' ⟨rfl, hww⟩; cases hww
            go_wp2
            go_ret
            exact ⟨ret_int (by omega), rfl⟩
    · rw [flen_no s h0 hc, List.drop_zero]
      exact one_base s w hs h0 hc
end Go.Proofs.YthagaldpopnoeaaGreatDoor.D
