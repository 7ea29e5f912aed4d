/- Texts DRN DRM RR PA PG PH. -/
import Derived.Test.YtlnapfeglbdecaaBm08
import Derived.Deep.QuietTactic
import Derived.BigQuiet
import Derived.Deep.CutRange
import Derived.Deep.RegionLaw
import Derived.Deep.AppendLies
namespace Go.Proofs.Ytlnapfeglbdecaa.P3.D
open Go.RowKit
def AllOk (s : ByteArray) (k : Nat) : Prop := k ≤ s.size ∧ ∀ j, j < k → ∃ c, s.data.toList[j]? = some c ∧ okc j c = true
theorem AllOk.more {s : ByteArray} {k : Nat} (h : AllOk s k) (h1 : k < s.size) (h3 : okc k s[k] = true) : AllOk s (k + 1) := by
  refine ⟨by omega, fun j hj => ?_⟩
  by_cases e : j = k
  · subst e; exact ⟨_, at_get s j h1, h3⟩
  · exact h.2 j (by omega)
theorem no_name {s : ByteArray} {k : Nat} (h1 : k < s.size) (h3 : okc k s[k] = false) : nameB s.data.toList = false := by
  cases h : nameB s.data.toList with
  | false => rfl
  | true =>
    have := ((nameB_iff _).1 h).2.2 k _ (at_get s k h1)
    rw [h3] at this; cases this
theorem AllOk.name {s : ByteArray} (h : AllOk s s.size) (h1 : 1 ≤ s.size) (h2 : s.size ≤ 64) : nameB s.data.toList = true := by
  rw [nameB_iff]
  refine ⟨by rw [← size_len]; exact h1, by rw [← size_len]; exact h2, fun j c hj => ?_⟩
  obtain ⟨c', e1, e2⟩ := h.2 j (by rw [size_len]; exact (List.getElem?_eq_some_iff.1 hj).1)
  rw [e1] at hj; cases hj; exact e2
theorem no_len {s : ByteArray} (h : ¬ (1 ≤ s.size ∧ s.size ≤ 64)) : nameB s.data.toList = false := by
  cases h' : nameB s.data.toList with
  | false => rfl
  | true =>
    have := (nameB_iff _).1 h'
    rw [size_len] at h
    exact absurd ⟨this.1, this.2.1⟩ h

set_option maxRecDepth 8000 in
set_option maxHeartbeats 4000000 in
theorem rname_any (s : ByteArray) (w : World) (hs : s.size ≤ 9223372036854775807) :
    Calls Try.prog 85 #[.string s] w fun e w' => e = .returned (.bool (nameB s.data.toList)) ∧ w' = w := by
  go_enter Try.func85, Try.ntmps85
  go_wp2
  go_loop [3] (fun n => ∃ (k : Nat), n = .int .i64 (k : Int) ∧ k ≤ s.size ∧ Hid (AllOk s k)) (fun i => s.size - (intOf i).toNat)
  case atStart =>
    exact ⟨0, rfl, by omega, ⟨by omega, fun j hj => by omega⟩⟩
  case round =>
    obtain ⟨k, rfl, hk, hsee⟩ := hrel
    by_cases h1 : k < s.size
    · have h1' : (k : Int) < (s.size : Int) := by omega
      go_wp2
      all_goals first
        | (refine ⟨⟨k + 1, by go_num, by omega, hsee.out.more h1 ((okc_iff _ _).2 (by simp_all; omega))⟩, by simp [intOf]; omega⟩)
        | (go_ret; refine ⟨ret_bool ?_, rfl⟩; rw [no_name h1 ((okc_not _ _).2 (by simp_all; omega))])
        | (exfalso; simp_all; done)
        | (exfalso; simp_all; omega)
    · have h1' : ¬ (k : Int) < (s.size : Int) := by omega
      obtain rfl : k = s.size := by omega
      by_cases c1 : 1 ≤ s.size
      · have c1' : (1 : Int) ≤ (s.size : Int) := by omega
        by_cases c2 : s.size ≤ 64
        · have c2' : (s.size : Int) ≤ 64 := by omega
          have F := hidIt (hsee.out.name c1 c2)
          go_wp2
          go_ret
          exact ⟨by rw [F.out]; rfl, rfl⟩
        · have c2' : ¬ (s.size : Int) ≤ 64 := by omega
          have F := hidIt (no_len (s := s) (by omega))
          go_wp2
          go_ret
          exact ⟨by rw [F.out]; rfl, rfl⟩
      · have c1' : ¬ (1 : Int) ≤ (s.size : Int) := by omega
        have F := hidIt (no_len (s := s) (by omega))
        go_wp2
        go_ret
        exact ⟨by rw [F.out]; rfl, rfl⟩

def NoSemi (s : ByteArray) (k : Nat) : Prop := ∀ j, 1 ≤ j → j < k → ∀ h : j < s.size, s[j].toNat ≠ 59
theorem NoSemi.more {s : ByteArray} {k : Nat} (h : NoSemi s k) (hk : k < s.size) (h1 : s[k].toNat ≠ 59) : NoSemi s (k + 1) := by
  intro j h2 h3 h4
  by_cases e : j = k
  · subst e; exact h1
  · exact h j h2 (by omega) h4
theorem base_semi (s : ByteArray) (k : Nat) (h0 : 0 < s.size) (hc : s[0].toNat = 76) (hn : NoSemi s k) (hk1 : 1 ≤ k) (hk : k < s.size) (h59 : s[k].toNat = 59) :
    base s.data.toList = if nameB (s.extract 1 k).data.toList = true then k + 1 else 0 := by
  have e0 := base_L s 0 h0 hc
  rw [List.drop_zero, show (0 + 1 : Nat) = 1 from rfl] at e0
  have et : (s.extract 1 s.size).data.toList = (s.extract 1 k).data.toList ++ 59 :: s.data.toList.drop (k + 1) := by
    rw [ext_data, Lib.extract_data]
    have e1 : s.data.toList.drop k = 59 :: s.data.toList.drop (k + 1) := by rw [drop_at s k hk, u8_of h59 (by omega)]; rfl
    rw [← e1]
    conv => lhs; rw [← List.take_append_drop (k - 1) (s.data.toList.drop 1)]
    rw [List.drop_drop, show 1 + (k - 1) = k by omega]
  by_cases hN : nameB (s.extract 1 k).data.toList = true
  · rw [if_pos hN]
    have hN' := (nameB_iff _).1 hN
    have e2 := nl_name (rest := s.data.toList.drop (k + 1)) hN'
    rw [← et] at e2
    have e3 : (s.extract 1 k).data.toList.length = k - 1 := by
      rw [Lib.extract_data, List.length_take, List.length_drop, ← size_len]; omega
    rw [e0, e2, e3, if_pos]
    · omega
    · refine ⟨by have := hN'.1; omega, ?_⟩
      rw [semi_at s 1 (k - 1) (by omega)]
      have : 1 + (k - 1) = k := by omega
      simp only [this]; exact h59
  · rw [if_neg hN, e0, if_neg]
    rintro ⟨h1, h2⟩
    apply hN
    rw [nameB_iff]
    have hlt : nl (s.extract 1 s.size).data.toList < (s.data.toList.drop 1).length := by
      rcases Nat.lt_or_ge (nl (s.extract 1 s.size).data.toList) (s.data.toList.drop 1).length with h | h
      · exact h
      · rw [List.getElem?_eq_none h] at h2; cases h2
    rw [List.length_drop, ← size_len] at hlt
    have h3 := (semi_at s 1 _ (by omega)).1 h2
    have h4 := name_take h1
    obtain ⟨K, hK⟩ : ∃ K, nl (s.extract 1 s.size).data.toList = K := ⟨_, rfl⟩
    simp only [hK] at h3 h4 hlt h1
    have hKk : 1 + K = k := by
      rcases Nat.lt_trichotomy (1 + K) k with h | h | h
      · exact absurd h3 (hn (1 + K) (by omega) h (by omega))
      · exact h
      · exfalso
        have := nl_ok (l := (s.extract 1 s.size).data.toList) (j := k - 1) (by omega)
        obtain ⟨c, h5, h6⟩ := this
        rw [ext_data, List.getElem?_drop, show 1 + (k - 1) = k by omega, at_get s k hk] at h5
        cases h5
        rw [u8_of h59 (by omega)] at h6
        exact absurd h6 (by rw [show UInt8.ofNat 59 = 59 from rfl, okc_semi]; simp)
    rw [ext_data] at h4
    rw [Lib.extract_data, show k - 1 = K by omega]
    exact h4
theorem base_nosemi (s : ByteArray) (h0 : 0 < s.size) (hc : s[0].toNat = 76) (hn : NoSemi s s.size) : base s.data.toList = 0 := by
  have e0 := base_L s 0 h0 hc
  rw [List.drop_zero, show (0 + 1 : Nat) = 1 from rfl] at e0
  rw [e0, if_neg]
  rintro ⟨h1, h2⟩
  have hlt : nl (s.extract 1 s.size).data.toList < (s.data.toList.drop 1).length := by
    rcases Nat.lt_or_ge (nl (s.extract 1 s.size).data.toList) (s.data.toList.drop 1).length with h | h
    · exact h
    · rw [List.getElem?_eq_none h] at h2; cases h2
  rw [List.length_drop, ← size_len] at hlt
  exact hn _ (by omega) (by omega) (by omega) ((semi_at s 1 _ (by omega)).1 h2)

set_option maxRecDepth 8000 in
set_option maxHeartbeats 4000000 in
theorem one_base (s : ByteArray) (w : World) (hs : s.size ≤ 9223372036854775807) (h0 : 0 < s.size) (hc : s[0].toNat ≠ 91) :
    Calls Try.prog 92 #[.string s] w fun e w' => e = .returned (.int .i64 (base s.data.toList)) ∧ w' = w := by
  have e2 := toList_ne s h0
  have b0 : ((s[0].toNat : Int) == 91) = false := by simp; omega
  by_cases c1 : s[0].toNat = 73
  · have e := base_I s 0 h0 c1
    rw [List.drop_zero] at e
    rw [e]
    have b1 : ((s[0].toNat : Int) == 73) = true := by simp; omega
    go_enter Try.func92, Try.ntmps92
    go_wp2
    go_ret
    exact ⟨rfl, rfl⟩
  · have b1 : ((s[0].toNat : Int) == 73) = false := by simp; omega
    by_cases c2 : s[0].toNat = 76
    · have b2 : ((s[0].toNat : Int) == 76) = true := by simp; omega
      go_enter Try.func92, Try.ntmps92
      go_wp2
      go_loop [4] (fun n => ∃ (k : Nat), n = .int .i64 (k : Int) ∧ 1 ≤ k ∧ k ≤ s.size ∧ Hid (NoSemi s k)) (fun i => s.size - (intOf i).toNat)
      case atStart =>
        exact ⟨1, rfl, by omega, by omega, fun j h1 h2 => by omega⟩
      case round =>
        obtain ⟨k, rfl, hk1, hk, hns⟩ := hrel
        by_cases h1 : k < s.size
        · have h1' : (k : Int) < (s.size : Int) := by omega
          by_cases h2 : s[k].toNat = 59
          · have b3 : ((s[k].toNat : Int) == 59) = true := by simp; omega
            have F := hidIt (base_semi s k h0 c2 hns.out hk1 h1 h2)
            have hN := hidIt (rname_any (s.extract 1 k) w (by rw [size_len, Lib.extract_data, List.length_take, List.length_drop, ← size_len]; omega))
            by_cases h3 : nameB (s.extract 1 k).data.toList = true
            · rw [h3] at hN F
              clear h3
              go_wp2_with fail
              refine hN.out.mono ?_
              rintro e w' ⟨rfl, hww⟩; cases hww
              go_wp2
              go_ret
              exact ⟨ret_int (by rw [F.out]; simp), rfl⟩
            · simp only [Bool.not_eq_true] at h3
              rw [h3] at hN F
              clear h3
              go_wp2_with fail
              refine hN.out.mono ?_
              rintro e w' ⟨rfl, hww⟩; cases hww
              go_wp2
              go_ret
              exact ⟨ret_int (by rw [F.out]; simp), rfl⟩
          · have b3 : ((s[k].toNat : Int) == 59) = false := by simp; omega
            go_wp2
            exact ⟨⟨k + 1, by go_num, by omega, by omega, hns.out.more h1 h2⟩, by simp [intOf]; omega⟩
        · have h1' : ¬ (k : Int) < (s.size : Int) := by omega
          obtain rfl : k = s.size := by omega
          have F := hidIt (base_nosemi s h0 c2 hns.out)
          go_wp2
          go_ret
          exact ⟨by rw [F.out]; rfl, rfl⟩
    · have e := base_no s 0 h0 c1 c2
      rw [List.drop_zero] at e
      rw [e]
      have b2 : ((s[0].toNat : Int) == 76) = false := by simp; omega
      go_enter Try.func92, Try.ntmps92
      go_wp2
      go_ret
      exact ⟨rfl, rfl⟩

theorem base_sign (t : Bs) : base (91 :: t) = 0 := by simp [base]

set_option maxRecDepth 8000 in
set_option maxHeartbeats 4000000 in
theorem one_any (s : ByteArray) (w : World) (hs : s.size ≤ 9223372036854775807) :
    Calls Try.prog 92 #[.string s] w fun e w' => e = .returned (.int .i64 (flen s.data.toList)) ∧ w' = w := by
  by_cases h : s.size = 0
  · have e1 : s.data.toList = [] := List.eq_nil_of_length_eq_zero (by rw [← size_len]; exact h)
    have e2 : s.toList = [] := by rw [Lib.toList_data]; exact e1
    rw [e1]
    clear e1
    go_enter Try.func92, Try.ntmps92
    go_wp2
    go_ret
    exact ⟨rfl, rfl⟩
  · have h0 : 0 < s.size := by omega
    by_cases hc : s[0].toNat = 91
    · have e2 := toList_ne s h0
      have b0 : ((s[0].toNat : Int) == 91) = true := by simp; omega
      have b1 : ((s[0].toNat : Int) == 73) = false := by simp; omega
      rw [flen_arr s h0 hc]
      by_cases h1 : s.size = 1
      · rw [base_end s 1 (by omega), if_pos rfl]
        have h1' : ¬ (1 : Int) < (s.size : Int) := by omega
        go_enter Try.func92, Try.ntmps92
        go_wp2
        go_ret
        exact ⟨rfl, rfl⟩
      · have h1' : (1 : Int) < (s.size : Int) := by omega
        have h1n : 1 < s.size := by omega
        by_cases hd : s[1].toNat = 91
        · have b2 : ((s[1].toNat : Int) == 91) = true := by simp; omega
          have b2' : ((s[1].toNat : Int) != 91) = false := by simp; omega
          rw [drop_at s 1 h1n, u8_of hd (by omega), show UInt8.ofNat 91 = 91 from rfl, base_sign, if_pos rfl]
          go_enter Try.func92, Try.ntmps92
          go_wp2
          go_ret
          exact ⟨rfl, rfl⟩
        · have b2 : ((s[1].toNat : Int) == 91) = false := by simp; omega
          have b2' : ((s[1].toNat : Int) != 91) = true := by simp; omega
          have z : (s.extract 1 s.size).size = s.size - 1 := by rw [size_len, ext_data, List.length_drop, ← size_len]
          have hO := hidIt (one_base (s.extract 1 s.size) w (by omega) (by omega) (by
            have e := drop_at s 1 h1n
            have e' := at_get (s.extract 1 s.size) 0 (by omega)
            rw [ext_data, e] at e'
            simp at e'
            rw [← e']; exact hd))
          rw [ext_data] at hO
          have hb := (flen_le (s.data.toList)).2
          rw [flen_arr s h0 hc] at hb
          generalize base (s.data.toList.drop 1) = K at *
          by_cases hK : K = 0
          · subst hK
            rw [if_pos rfl]
            go_enter Try.func92, Try.ntmps92
            go_wp2_with fail
            refine hO.out.mono ?_
            rintro e w' ⟨rfl, hww⟩; cases hww
            go_wp2
            go_ret
            exact ⟨rfl, rfl⟩
          · rw [if_neg hK] at hb ⊢
            have hK' : (0 : Int) < (K : Int) := by omega
            go_enter Try.func92, Try.ntmps92
            go_wp2_with fail
            refine hO.out.mono ?_
            rintro e w' ⟨rfl, hww⟩; cases hww
            go_wp2
            go_ret
            exact ⟨ret_int (by omega), rfl⟩
    · rw [flen_no s h0 hc, List.drop_zero]
      exact one_base s w hs h0 hc
end Go.Proofs.Ytlnapfeglbdecaa.P3.D
namespace Go.Proofs.Ytlnapfeglbdecaa.P3.D
open Go.RowKit
set_option maxRecDepth 8000 in
set_option maxHeartbeats 1000000 in
theorem rfield_any (s : ByteArray) (w : World) (hs : s.size ≤ 9223372036854775807) :
    Calls Try.prog 84 #[.string s] w fun e w' => e = .returned (.bool (fieldB s.data.toList)) ∧ w' = w := by
  have hN := hidIt (one_any s w hs)
  by_cases h0 : s.size = 0
  · have e1 : s.data.toList = [] := List.eq_nil_of_length_eq_zero (by rw [← size_len]; exact h0)
    have e2 : s.toList = [] := by rw [Lib.toList_data]; exact e1
    rw [e1, show fieldB [] = false from rfl]
    clear e1 hN
    go_enter Try.func84, Try.ntmps84
    go_wp2
    go_ret
    exact ⟨rfl, rfl⟩
  · have e2 := toList_ne s (by omega)
    unfold fieldB
    rw [← size_len]
    generalize flen s.data.toList = K at *
    by_cases h2 : K = s.size
    · rw [decide_eq_true ⟨by omega, h2⟩]
      have b : ((K : Int) == (s.size : Int)) = true := by simp; omega
      go_enter Try.func84, Try.ntmps84
      go_wp2_with fail
      refine hN.out.mono ?_
      rintro e w' ⟨rfl, hww⟩; cases hww
      go_wp2
      go_ret
      exact ⟨rfl, rfl⟩
    · rw [decide_eq_false (fun h => h2 h.2)]
      have b : ((K : Int) == (s.size : Int)) = false := by simp; omega
      go_enter Try.func84, Try.ntmps84
      go_wp2_with fail
      refine hN.out.mono ?_
      rintro e w' ⟨rfl, hww⟩; cases hww
      go_wp2
      go_ret
      exact ⟨rfl, rfl⟩



theorem str_ne {s : ByteArray} {l : Bs} (h : s.data.toList ≠ l) : (s.toList == l) = false := by
  rw [Lib.toList_data]; simpa using h





theorem flat_unique {ps qs : List Bs} {a b : Bs} (hp : ∀ p ∈ ps, Fld p) (hq : ∀ p ∈ qs, Fld p) (ha : flen a = 0) (hb : flen b = 0) (h : ps.flatten ++ a = qs.flatten ++ b) : ps = qs ∧ a = b := by
  have h1 := lead_char (max ps.length qs.length) ps a hp (Nat.le_max_left _ _) (.inr ha)
  have h2 := lead_char (max ps.length qs.length) qs b hq (Nat.le_max_right _ _) (.inr hb)
  rw [h, h2] at h1
  simp only [Prod.mk.injEq] at h1
  exact ⟨h1.1.symm, h1.2.symm⟩
theorem meth_no {l : Bs} {ps : List Bs} {rest : Bs} (he : l = 40 :: (ps.flatten ++ rest)) (hp : ∀ p ∈ ps, Fld p) (h0 : flen rest = 0)
    (h : ∀ r, rest = 41 :: r → ps.length ≤ 8 → (r = [86] ∨ Fld r) → False) : meth l = none := by
  cases hm : meth l with
  | none => rfl
  | some x =>
    exfalso
    obtain ⟨qs, r⟩ := x
    obtain ⟨h1, h2, h3, h4⟩ := meth_inv hm
    rw [he] at h1
    simp only [List.cons.injEq, true_and] at h1
    obtain ⟨rfl, e⟩ := flat_unique hp h2 h0 (flen_close r) h1
    exact h r e h3 h4
theorem flen_nil : flen [] = 0 := rfl

set_option maxRecDepth 8000 in
set_option maxHeartbeats 1000000 in
theorem rmethod_bad (s : ByteArray) (w : World) (h : s.size = 0 ∨ ∃ h : 0 < s.size, s[0].toNat ≠ 40) :
    Calls Try.prog 83 #[.string s] w fun e w' => e = .returned (.tuple #[.slice none 0 0, .string ⟨#[]⟩, .bool false]) ∧ w' = w := by
  rcases h with h | ⟨h0, h⟩
  · have e1 : s.data.toList = [] := List.eq_nil_of_length_eq_zero (by rw [← size_len]; exact h)
    have e2 : s.toList = [] := by rw [Lib.toList_data]; exact e1
    clear e1
    go_enter Try.func83, Try.ntmps83
    go_wp2
    go_ret3
    exact ⟨rfl, rfl⟩
  · have e2 := toList_ne s h0
    have b : ((s[0].toNat : Int) == 40) = false := by simp; omega
    have b' : ((s[0].toNat : Int) != 40) = true := by simp; omega
    go_enter Try.func83, Try.ntmps83
    go_wp2
    go_ret3
    exact ⟨rfl, rfl⟩

def strLen : Value → Nat
  | .string s => s.size
  | _ => 0

set_option maxRecDepth 8000 in
set_option maxHeartbeats 8000000 in
theorem rmethod_open (s : ByteArray) (w : World) (t : Bs) (hs : s.size ≤ 1073741824) (h : s.data.toList = 40 :: t) :
    Calls Try.prog 83 #[.string s] w fun e w' => Below w.heap.size w w' ∧ MethAns s.data.toList w.heap.size e w' := by
  obtain ⟨i0, hi, hz0, hz1, hz2⟩ := info_parts Try.info9
  have h0 : 0 < s.size := by rw [size_len, h]; simp
  have hc : s[0].toNat = 40 := by
    have := at_get s 0 h0
    rw [h] at this; simp at this; rw [← this]; rfl
  have e2 := toList_ne s h0
  have b : ((s[0].toNat : Int) == 40) = true := by simp; omega
  have b' : ((s[0].toNat : Int) != 40) = false := by simp; omega
  have he := ext_end s 1
  rw [h, show List.drop 1 (40 :: t) = t from rfl] at he
  have ht : t.length + 1 = s.size := by rw [size_len, h]; simp
  have hl := hidIt h
  generalize s.data.toList = l at *
  clear h
  have hT : (str t).data.toList = t := rfl
  have hTs : (str t).size + 1 = s.size := by rw [str_size]; exact ht
  generalize str t = T at *
  go_enter Try.func83, Try.ntmps83
  go_wp2
  go_loopw [0, 5] (fun sv ov wr => ∃ (ps : List Bs) (S : ByteArray), sv = .string S ∧ wr.ownsRow w.heap.size 9 1 ov ps.length (scells ps) ∧ Below w.heap.size w wr ∧ ps.length + S.size ≤ 1073741824 ∧ Took t ps S) (fun sv _ _ => strLen sv)
  case atStart =>
    exact ⟨[], T, rfl, ⟨rfl, .inl ⟨rfl, rfl⟩⟩, Below.refl _ _, by simp; omega, ⟨hT.symm, by simp⟩⟩
  case round =>
    obtain ⟨ps, S, rfl, hown, hbw, hps, htk⟩ := hrel
    have hsz := hbw.size
    have HT := hidIt htk
    clear htk e2 b b' he hc
    obtain ⟨ao, cap, rfl⟩ := own_slice hown
    by_cases hS0 : S.size = 0
    · have e1 : S.data.toList = [] := List.eq_nil_of_length_eq_zero (by rw [← size_len]; exact hS0)
      have e2 : S.toList = [] := by rw [Lib.toList_data]; exact e1
      have FIN : Hid (meth l = none) := meth_no (rest := []) (by rw [hl.out, HT.out.eq, e1]) HT.out.fld flen_nil (fun r hr => by cases hr)
      clear e1
      go_wp2
      go_ret3
      exact ⟨hbw, .inr ⟨FIN.out, rfl⟩⟩
    · have hS1 : 0 < S.size := by omega
      have e2 := toList_ne S hS1
      by_cases hcl : S[0].toNat = 41
      · have b : ((S[0].toNat : Int) == 41) = true := by simp; omega
        have b' : ((S[0].toNat : Int) != 41) = false := by simp; omega
        have eS : S.data.toList = 41 :: S.data.toList.drop 1 := by
          have e := drop_at S 0 hS1
          rw [List.drop_zero, u8_of hcl (by omega)] at e
          exact e
        have he := ext_end S 1
        have HEQ : Hid (l = 40 :: (ps.flatten ++ 41 :: S.data.toList.drop 1)) := by
          show _ = _
          rw [hl.out, HT.out.eq]; conv => lhs; rw [eS]
        have hR : (str (List.drop 1 S.data.toList)).size ≤ 1073741824 := by rw [str_size, List.length_drop, ← size_len]; omega
        have hRF := fun w => hidIt (rfield_any (str (List.drop 1 S.data.toList)) w (by omega))
        rw [data_str] at hRF
        have HF := hidIt HT.out.fld
        clear HT eS
        have hRd : (str (List.drop 1 S.data.toList)).data.toList = List.drop 1 S.data.toList := rfl
        generalize List.drop 1 S.data.toList = r at *
        by_cases h8 : ps.length ≤ 8
        · have h8' : ¬ (8 : Int) < (ps.length : Int) := by omega
          by_cases hV : r = [86]
          · subst hV
            have FIN : Hid (meth l = some (ps, [86])) := meth_of ⟨HEQ.out, HF.out, h8, .inl rfl⟩
            have hne : (str [86]).toList = [86] := by rw [Lib.toList_data]; rfl
            go_wp2
            go_quiet (fail)
            go_wp2
            go_ret3
            exact ⟨⟨hbw.os, hbw.tape, hbw.output, hbw.size, hbw.block⟩, .inl ⟨_, _, _, FIN.out, rfl, hown⟩⟩
          · have hne' : ((str r).toList == [86]) = false := str_ne hV
            have hne2 : ((str r).toList != [86]) = true := by simpa using hne'
            by_cases hf : fieldB r = true
            · have FIN : Hid (meth l = some (ps, r)) := meth_of ⟨HEQ.out, HF.out, h8, .inr ((fieldB_iff _).1 hf)⟩
              rw [hf] at hRF
              clear hf hV
              go_wp2_with fail
              refine (hRF _).out.mono ?_
              rintro e w' ⟨rfl, hww⟩; cases hww
              go_wp2
              go_quiet (fail)
              go_wp2
              go_ret3
              exact ⟨⟨hbw.os, hbw.tape, hbw.output, hbw.size, hbw.block⟩, .inl ⟨_, _, _, FIN.out, rfl, hown⟩⟩
            · have FIN : Hid (meth l = none) := meth_no HEQ.out HF.out (flen_close r) (fun r' hr _ hx => by
                simp only [List.cons.injEq, true_and] at hr
                subst hr
                rcases hx with hx | hx
                · exact hV hx
                · exact hf ((fieldB_iff _).2 hx))
              simp only [Bool.not_eq_true] at hf
              rw [hf] at hRF
              clear hf hV
              go_wp2_with fail
              refine (hRF _).out.mono ?_
              rintro e w' ⟨rfl, hww⟩; cases hww
              go_wp2
              go_ret3
              exact ⟨hbw, .inr ⟨FIN.out, rfl⟩⟩
        · have h8' : (8 : Int) < (ps.length : Int) := by omega
          have FIN : Hid (meth l = none) := meth_no HEQ.out HF.out (flen_close r) (fun r' hr h _ => h8 h)
          go_wp2
          go_ret3
          exact ⟨hbw, .inr ⟨FIN.out, rfl⟩⟩
      · have b : ((S[0].toNat : Int) == 41) = false := by simp; omega
        have b' : ((S[0].toNat : Int) != 41) = true := by simp; omega
        have hN := hidIt (one_any S wr (by omega))
        have hle := flen_le S.data.toList
        rw [← size_len] at hle
        by_cases hK : flen S.data.toList = 0
        · have FIN : Hid (meth l = none) := meth_no (by rw [hl.out, HT.out.eq]) HT.out.fld hK (fun r hr _ _ => by
            apply hcl
            have := at_get S 0 hS1
            rw [hr] at this
            simp at this
            rw [← this]; rfl)
          rw [hK] at hN
          clear hK hle
          go_wp2_with fail
          refine hN.out.mono ?_
          rintro e w' ⟨rfl, hww⟩; cases hww
          go_wp2
          go_ret3
          exact ⟨hbw, .inr ⟨FIN.out, rfl⟩⟩
        · have HM := hidIt (HT.out.more hK)
          have e1 := ext_str S 0 (flen S.data.toList)
          rw [Nat.sub_zero, List.drop_zero] at e1
          generalize flen S.data.toList = K at *
          have hK0 : ((K : Int) == 0) = false := by simp; omega
          obtain ⟨hK1, hK2⟩ := hle
          go_wp2_with fail
          refine hN.out.mono ?_
          rintro e w' ⟨rfl, hww⟩; cases hww
          go_wp2_with (at_builtin; refine wpList_append_own_at _ rfl _ _ 84 rfl w.heap.size 9 i0 (.string ⟨#[]⟩) 1 16 Try.underlying84 hi hz0 hz1 hz2 rfl (by decide) _ _ _ rfl (hown.alloc _) _ 1 1 [.string (str (List.take K S.data.toList))] rfl rfl ?c1 ?c2 ?c3 ?c4 ?c5 ?_)
          case c1 =>
            intro j u hj
            match j, hj with
            | 0, hj => simp at hj; subst hj; simp [Addr.add]
            | (j + 1), hj => simp at hj
          case c2 => intro u hu; simp at hu; rcases hu with rfl; rfl
          case c3 => unfold maxLen; omega
          case c4 => omega
          case c5 => simp; omega
          intro v' w2 hown' hgrow _ hat
          go_wp2
          obtain ⟨ao', cap', rfl⟩ := own_slice hown'
          have hz : (S.extract K S.size).size = S.size - K := by rw [size_len, ext_data, List.length_drop, ← size_len]
          refine ⟨⟨ps ++ [List.take K S.data.toList], _, rfl, ?_, ?_, ?_, HM.out⟩, ?_⟩
          · rw [scells_snoc, List.length_append]; exact hown'
          · exact (hbw.alloc hsz _).grown hgrow (by simp; omega) (fun k hk => (hown.lt k hk).1)
          · simp; omega
          · simp only [strLen]; omega

theorem rmethod_any (s : ByteArray) (w : World) (hs : s.size ≤ 1073741824) :
    Calls Try.prog 83 #[.string s] w fun e w' => Below w.heap.size w w' ∧ MethAns s.data.toList w.heap.size e w' := by
  have no : meth s.data.toList = none → (s.size = 0 ∨ ∃ h : 0 < s.size, s[0].toNat ≠ 40) → Calls Try.prog 83 #[.string s] w fun e w' => Below w.heap.size w w' ∧ MethAns s.data.toList w.heap.size e w' :=
    fun h1 h2 => (rmethod_bad s w h2).mono fun e w' ⟨he, hw⟩ => by cases hw; exact ⟨Below.refl _ _, .inr ⟨h1, he⟩⟩
  match h : s.data.toList with
  | [] =>
    rw [h] at no
    exact no rfl (.inl (by rw [size_len, h]; rfl))
  | c :: t =>
    by_cases hc : c = 40
    · subst hc; rw [← h]; exact rmethod_open s w t hs h
    · have h0 : 0 < s.size := by rw [size_len, h]; simp
      have := at_get s 0 h0
      rw [h] at no this
      simp at this
      refine no (by unfold meth; simp only; rw [if_neg hc]) (.inr ⟨h0, ?_⟩)
      rw [← this]
      intro e
      exact hc (u8_of (n := 40) e (by decide))
end Go.Proofs.Ytlnapfeglbdecaa.P3.D
namespace Go.Proofs.Ytlnapfeglbdecaa.P3
open Go.RowKit
structure CD.Small (c : CD) : Prop where
  c3 : c.cls.size ≤ 1073741824
  c4 : c.nm.size ≤ 1073741824
  c5 : c.dsc.size ≤ 1073741824

def arrayB (s : ByteArray) : Bool := decide (D.fieldB (bsB s) = true ∧ (bsB s)[0]? = some 91)
theorem elem_array (s : ByteArray) : (D.elemZ (bsB s)).2 = arrayB s := by
  unfold D.elemZ arrayB
  by_cases h : D.fieldB (bsB s) = true ∧ (bsB s)[0]? = some 91
  · rw [if_pos h, decide_eq_true h]
  · rw [if_neg h, decide_eq_false h]
theorem class_or (s : ByteArray) : classB s = (D.nameB (bsB s) || arrayB s) := by
  unfold classB
  rw [elem_array, Bool.or_comm]

set_option maxRecDepth 8000 in
set_option maxHeartbeats 8000000 in
theorem rright_any (c : CD) (w : World) (hf : c.Small) :
    Calls Try.prog 70 #[c.val] w fun e w' => e = .returned (.bool (rightB c)) ∧ Below w.heap.size w w' := by
  have s3 := hf.c3
  have s4 := hf.c4
  have s5 := hf.c5
  have b1 : ∀ o, Below w.heap.size w (w.alloc o) := fun o => (Below.refl _ _).alloc (Nat.le_refl _) o
  have hbx := box_at w c
  have HM := fun w => D.hidIt (D.rmethod_any c.dsc w hf.c5)
  have HN3 := fun w => D.hidIt (D.rname_any c.cls w (by omega))
  have HN4 := fun w => D.hidIt (D.rname_any c.nm w (by omega))
  have HF3 := fun w => D.hidIt (D.rfield_any c.cls w (by omega))
  have HF5 := fun w => D.hidIt (D.rfield_any c.dsc w (by omega))
  have hA : ∀ h : 0 < c.cls.size, arrayB c.cls = (D.fieldB (bsB c.cls) && decide (c.cls[0].toNat = 91)) := by
    intro h
    unfold arrayB
    by_cases e : c.cls[0].toNat = 91
    · have := (D.at0 c.cls h 91 (by omega)).2 e
      rw [decide_eq_true e]
      simp only [show (bsB c.cls)[0]? = some 91 from this, and_true, Bool.and_true]
      cases D.fieldB (bsB c.cls) <;> rfl
    · rw [decide_eq_false e]
      have : ¬ (bsB c.cls)[0]? = some 91 := fun h2 => e ((D.at0 c.cls h 91 (by omega)).1 h2)
      rw [Bool.and_false]
      exact decide_eq_false (fun h2 => this h2.2)
  have hA0 : ¬ 0 < c.cls.size → arrayB c.cls = false := by
    intro h
    unfold arrayB
    have : (bsB c.cls)[0]? = none := List.getElem?_eq_none (by unfold bsB; rw [← D.size_len]; omega)
    simp [this]
  generalize hR : rightB c = R
  unfold rightB memberB methodB emptyB at hR
  rw [class_or] at hR
  have HA := D.hidIt (And.intro hA hA0)
  have HR := D.hidIt hR
  clear hR hA hA0
  generalize hMM : D.meth (bsB c.dsc) = MM at *
  generalize hN3v : D.nameB (bsB c.cls) = n3 at *
  generalize D.nameB (bsB c.nm) = n4 at *
  generalize hF3v : D.fieldB (bsB c.cls) = f3 at *
  generalize D.fieldB (bsB c.dsc) = f5 at *
  generalize arrayB c.cls = ar at *
  have hMM' := D.hidIt hMM
  clear hMM hN3v hF3v
  obtain ⟨kind, n, cls, nm, dsc⟩ := c
  unfold CD.val at *
  simp only at HN3 HN4 HF3 HF5 HM HR HA s3 s4 s5 hMM' ⊢
  go_enter Try.func70, Try.ntmps70
  go_wp2_with fail
  refine (HM _).out.mono ?_
  rintro e w2 ⟨b2, ha⟩
  have BB := (b1 _).trans (b2.mono (by simp))
  have hbx2 := hbx.below b2
  obtain ⟨c0, c1, c2, c3, c4⟩ := hbx2
  simp only at c0 c1 c2 c3 c4
  have hM2 : ∃ v s, e = .returned (.tuple #[v, .string s, .bool MM.isSome]) := by
    rcases ha with ⟨ps, r, v, hm, rfl, ho⟩ | ⟨hm, rfl⟩
    · have : MM = some (ps, r) := hMM'.out.symm.trans hm
      rw [this]; exact ⟨_, _, rfl⟩
    · have : MM = none := hMM'.out.symm.trans hm
      rw [this]; exact ⟨_, _, rfl⟩
  obtain ⟨v, s, rfl⟩ := hM2
  clear ha hMM' HM b2 hbx hf
  generalize MM.isSome = mb at *
  go_upto_region 2 with fail
  go_cut [6] from 14 to 28 (fun s6 wx => s6 = .bool ar ∧ wx = w2)
  case first =>
    by_cases h0 : 0 < cls.size
    · have h0' : (0 : Int) < (cls.size : Int) := by omega
      have hA := HA.out.1 h0
      by_cases e : cls[0].toNat = 91
      · have eb : ((cls[0].toNat : Int) == 91) = true := by simp; omega
        rw [decide_eq_true e, Bool.and_true] at hA
        have HAA := D.hidIt hA
        clear hA
        go_wp2_with fail
        refine (HF3 _).out.mono ?_
        rintro e w' ⟨rfl, hww⟩; cases hww
        go_wp2
        go_meet
        exact ⟨by rw [HAA.out], rfl⟩
      · have eb : ((cls[0].toNat : Int) == 91) = false := by simp; omega
        rw [decide_eq_false e, Bool.and_false] at hA
        have HAA := D.hidIt hA
        clear hA
        go_wp2
        go_meet
        exact ⟨by rw [HAA.out], rfl⟩
    · have h0' : ¬ (0 : Int) < (cls.size : Int) := by omega
      have HAA := D.hidIt (HA.out.2 h0)
      go_wp2
      go_meet
      exact ⟨by rw [HAA.out], rfl⟩
  case rest =>
    obtain ⟨rfl, hwc⟩ := hcut
    subst hwc
    clear HA HF3
    by_cases k3 : kind = 3
    · subst k3
      go_wp2
      all_goals (go_ret; refine ⟨ret_b ?_, BB⟩; rw [← HR.out]; simp_all)
    · by_cases k7 : kind = 7
      · subst k7
        by_cases h0 : n = 0
        · subst h0
          go_wp2_with fail
          refine (HN3 _).out.mono ?_
          rintro e w' ⟨rfl, hww⟩; cases hww
          cases n3
          · cases ar
            · go_wp2
              all_goals (go_ret; refine ⟨ret_b ?_, BB⟩; rw [← HR.out]; simp_all)
            · go_wp2
              all_goals (go_ret; refine ⟨ret_b ?_, BB⟩; rw [← HR.out]; simp_all)
          · go_wp2
            all_goals (go_ret; refine ⟨ret_b ?_, BB⟩; rw [← HR.out]; simp_all)
        · go_wp2
          all_goals (go_ret; refine ⟨ret_b ?_, BB⟩; rw [← HR.out]; simp_all)
      · by_cases k9 : kind = 9
        · subst k9
          by_cases h0 : n = 0
          · subst h0
            go_wp2_with fail
            refine (HN3 _).out.mono ?_
            rintro e w' ⟨rfl, hww⟩; cases hww
            cases n3
            · go_wp2
              all_goals (go_ret; refine ⟨ret_b ?_, BB⟩; rw [← HR.out]; simp_all)
            · go_wp2_with fail
              refine (HN4 _).out.mono ?_
              rintro e w' ⟨rfl, hww⟩; cases hww
              cases n4
              · go_wp2
                all_goals (go_ret; refine ⟨ret_b ?_, BB⟩; rw [← HR.out]; simp_all)
              · go_wp2_with fail
                refine (HF5 _).out.mono ?_
                rintro e w' ⟨rfl, hww⟩; cases hww
                go_wp2
                all_goals (go_ret; refine ⟨ret_b ?_, BB⟩; rw [← HR.out]; simp_all)
          · go_wp2
            all_goals (go_ret; refine ⟨ret_b ?_, BB⟩; rw [← HR.out]; simp_all)
        · by_cases k10 : kind = 10
          · subst k10
            by_cases h0 : n = 0
            · subst h0
              go_wp2_with fail
              refine (HN3 _).out.mono ?_
              rintro e w' ⟨rfl, hww⟩; cases hww
              cases n3
              · go_wp2
                all_goals (go_ret; refine ⟨ret_b ?_, BB⟩; rw [← HR.out]; simp_all)
              · go_wp2_with fail
                refine (HN4 _).out.mono ?_
                rintro e w' ⟨rfl, hww⟩; cases hww
                cases n4
                · go_wp2
                  all_goals (go_ret; refine ⟨ret_b ?_, BB⟩; rw [← HR.out]; simp_all)
                · cases mb
                  · go_wp2
                    all_goals (go_ret; refine ⟨ret_b ?_, BB⟩; rw [← HR.out]; simp_all)
                  · by_cases hd : dsc.size ≤ 256
                    · have hd' : (dsc.size : Int) ≤ 256 := by omega
                      go_wp2
                      all_goals (go_ret; refine ⟨ret_b ?_, BB⟩; rw [← HR.out]; simp [hd])
                    · have hd' : ¬ (dsc.size : Int) ≤ 256 := by omega
                      go_wp2
                      all_goals (go_ret; refine ⟨ret_b ?_, BB⟩; rw [← HR.out]; simp [hd, hd'])
            · go_wp2
              all_goals (go_ret; refine ⟨ret_b ?_, BB⟩; rw [← HR.out]; simp_all)
          · go_wp2
            all_goals (go_ret; refine ⟨ret_b ?_, BB⟩; rw [← HR.out]; simp_all)
end Go.Proofs.Ytlnapfeglbdecaa.P3
namespace Go.Proofs.Ytlnapfeglbdecaa.P3
open Go.RowKit
def addZ (l : List CD) (c : CD) : List CD × Int × Int :=
  if rightB c = true then
    match idxO c l with
    | some k => (l, (k : Int), 0)
    | none => if 256 ≤ l.length then ([], 0, 4) else (l ++ [c], (l.length : Int), 0)
  else ([], 0, 14)
theorem addZ_no {l : List CD} {c : CD} (h : rightB c = false) : addZ l c = ([], 0, 14) := by unfold addZ; rw [if_neg (by simp [h])]
theorem addZ_has {l : List CD} {c : CD} {k : Nat} (h : rightB c = true) (hk : idxO c l = some k) : addZ l c = (l, (k : Int), 0) := by unfold addZ; rw [if_pos h, hk]
theorem addZ_full {l : List CD} {c : CD} (h : rightB c = true) (hk : idxO c l = none) (hl : 256 ≤ l.length) : addZ l c = ([], 0, 4) := by unfold addZ; rw [if_pos h, hk]; simp [hl]
theorem addZ_more {l : List CD} {c : CD} (h : rightB c = true) (hk : idxO c l = none) (hl : ¬ 256 ≤ l.length) : addZ l c = (l ++ [c], (l.length : Int), 0) := by unfold addZ; rw [if_pos h, hk]; simp [hl]

theorem own_base {w : World} {B B' s n : Nat} {e : TypeId} {v : Value} {xs : List Value} (h : w.ownsRow B e s v n xs) (hB : B' ≤ B) : w.ownsRow B' e s v n xs := by
  refine ⟨h.1, ?_⟩
  rcases h.2 with x | ⟨g, cap, cur, e, hb, r⟩
  · exact .inl x
  · exact .inr ⟨g, cap, cur, e, by omega, r⟩

end Go.Proofs.Ytlnapfeglbdecaa.P3
namespace Go.Proofs.Ytlnapfeglbdecaa.P3
open Go.RowKit
end Go.Proofs.Ytlnapfeglbdecaa.P3
namespace Go.Proofs.Ytlnapfeglbdecaa.P3
open Go.RowKit
theorem crun_append_view (w : World) (ty : TypeId) (B : Nat) (v vb : Value) (n : Nat) (xs : List Value) (lb : List CD) (hown : w.ownsRow B 99 5 v n xs) (hv : CView w vb lb) (hlen : (n + lb.length) * 64 ≤ 140737488355328) (hB : B ≤ w.heap.size) :
    ∃ v' w', (Builtin.append_ #[39, 39] ty #[v, vb]).run Try.prog w = .ok v' w' ∧ w'.ownsRow B 99 5 v' (n + lb.length) (xs ++ ccells lb) ∧ w.grownBy w' v.ownBlock ∧ (v'.ownBlock = v.ownBlock ∨ v'.ownBlock = some w.heap.size) := by
  obtain ⟨i0, hi, hz0, hz1, hz2⟩ := info_parts Try.info99
  obtain ⟨ao, cap, rfl, hc, hm, _, hl⟩ := hv
  rcases hl with rfl | ⟨g, off, rfl, hl⟩
  · refine ⟨v, w, ?_, by simpa [ccells] using hown, ⟨rfl, rfl, rfl, Nat.le_refl _, fun _ _ _ => rfl⟩, .inl rfl⟩
    rcases hown.2 with ⟨rfl, rfl⟩ | ⟨g, cap, cur, rfl, hbg, hg, hnc, hcm, hcs, htake⟩
    · cases ao <;> simp [Builtin.append_, run_underlying Try.underlying39, sizeOf, typeInfo, hi, Builtin.lenOf, Builtin.firstCells, loadCells, loadCellsFrom]
    · cases ao <;> simp [Builtin.append_, run_underlying Try.underlying39, sizeOf, typeInfo, hi, Builtin.lenOf, Builtin.firstCells, loadCells, loadCellsFrom, hnc, storeCells]
  · obtain ⟨v', w', hr, ho, hg, _, hat⟩ := run_append_own_at (P := Try.prog) w B 39 ty 99 i0 zeroC.val 5 64 Try.underlying39 hi hz0 hz1 hz2 rfl (by decide) v n xs hown ⟨g, off, none⟩ lb.length cap (ccells lb) (ccells_len lb) hl.cells (ccells_one lb) (by unfold maxLen; omega) (by omega) hB
    exact ⟨v', w', hr, ho, hg, hat⟩

theorem wpList_cappend_view {w : World} {ops : Array Oper} {rest : List Oper} {o : Oper} {a : Act} {Q : Exit → Act → World → Prop} (hgd : o.guard = none) (s x : Operand)
    (ho : o.op = .call { callee := .builtin .append, args := #[s, x], argTypes := #[39, 39] })
    (B : Nat) (v vb : Value) (n : Nat) (xs : List Value) (lb : List CD) (hs : a.eval s = v) (hown : w.ownsRow B 99 5 v n xs) (hx : a.eval x = vb) (hv : CView w vb lb)
    (hlen : (n + lb.length) * 64 ≤ 140737488355328) (hB : B ≤ w.heap.size)
    (h : ∀ v' w', w'.ownsRow B 99 5 v' (n + lb.length) (xs ++ ccells lb) → w.grownBy w' v.ownBlock → (v'.ownBlock = v.ownBlock ∨ v'.ownBlock = some w.heap.size) → wpList Try.prog ops Q rest (a.put o.dst v') w') :
    wpList Try.prog ops Q (o :: rest) a w := by
  refine wpList_plain hgd fun K hK => ?_
  obtain ⟨v', w', hr, h2, h3, h4⟩ := crun_append_view w o.type B v vb n xs lb hown hv hlen hB
  unfold Oper.wp execOp
  simp only [ho, resolve, invoke, builtin, Sem.run_bind, Sem.run_pure, Result.andThen_ok, List.map_toArray, List.map_cons, List.map_nil, hs, hx, hr]
  exact hK _ _ (h v' w' h2 h3 h4)
end Go.Proofs.Ytlnapfeglbdecaa.P3
