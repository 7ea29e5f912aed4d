/- fieldLength, walked. -/
import Derived.Test.YtacmooknfbjpeaaQDDW
namespace Go.Proofs.Ytacmooknfbjpeaa.Q.D
open Go.RowKit
theorem u8_of {c : UInt8} {n : Nat} (h : c.toNat = n) (hn : n < 256) : c = UInt8.ofNat n := by
  apply UInt8.toNat.inj; rw [h]; simp; omega
theorem drop_at (s : ByteArray) (n : Nat) (h : n < s.size) : s.data.toList.drop n = s[n] :: s.data.toList.drop (n + 1) := by
  have h' : n < s.data.toList.length := by rw [← size_len]; exact h
  rw [List.drop_eq_getElem_cons h']; rfl
theorem ext_data (s : ByteArray) (n : Nat) : (s.extract n s.size).data.toList = s.data.toList.drop n := by
  rw [Lib.extract_data, List.take_of_length_le]
  rw [List.length_drop, size_len]; omega
theorem base_I (s : ByteArray) (n : Nat) (h : n < s.size) (hc : s[n].toNat = 73) : base (s.data.toList.drop n) = 1 := by
  rw [drop_at s n h, u8_of hc (by omega)]; rfl
theorem base_L (s : ByteArray) (n : Nat) (h : n < s.size) (hc : s[n].toNat = 76) : base (s.data.toList.drop n) =
    if 0 < nl (s.extract (n + 1) s.size).data.toList ∧ (s.data.toList.drop (n + 1))[nl (s.extract (n + 1) s.size).data.toList]? = some 59 then nl (s.extract (n + 1) s.size).data.toList + 2 else 0 := by
  rw [drop_at s n h, u8_of hc (by omega), ext_data]; rfl
theorem base_no (s : ByteArray) (n : Nat) (h : n < s.size) (hc : s[n].toNat ≠ 73) (hd : s[n].toNat ≠ 76) : base (s.data.toList.drop n) = 0 := by
  rw [drop_at s n h]
  unfold base
  simp only
  rw [if_neg (by intro e; rw [e] at hc; exact hc rfl), if_neg (by intro e; rw [e] at hd; exact hd rfl)]
theorem base_end (s : ByteArray) (n : Nat) (h : s.size ≤ n) : base (s.data.toList.drop n) = 0 := by
  rw [List.drop_eq_nil_of_le (by rw [← size_len]; exact h)]; rfl
theorem flen_arr (s : ByteArray) (h : 0 < s.size) (hc : s[0].toNat = 91) : flen s.data.toList = if base (s.data.toList.drop 1) = 0 then 0 else base (s.data.toList.drop 1) + 1 := by
  have e := drop_at s 0 h
  rw [List.drop_zero] at e
  conv => lhs; rw [e, u8_of hc (by omega)]
  rfl
theorem flen_no (s : ByteArray) (h : 0 < s.size) (hc : s[0].toNat ≠ 91) : flen s.data.toList = base (s.data.toList.drop 0) := by
  have e := drop_at s 0 h
  rw [List.drop_zero] at e ⊢
  conv => lhs; rw [e]
  conv => rhs; rw [e]
  unfold flen
  simp only
  rw [if_neg (by intro e; rw [e] at hc; exact hc rfl)]
theorem semi_at (s : ByteArray) (m k : Nat) (h : m + k < s.size) : (s.data.toList.drop m)[k]? = some 59 ↔ s[m + k].toNat = 59 := by
  rw [List.getElem?_drop, at_get s (m + k) h]
  simp only [Option.some.injEq]
  constructor
  · intro e; rw [e]; rfl
  · intro e; rw [u8_of e (by omega)]; rfl
theorem semi_end (s : ByteArray) (m k : Nat) (h : s.size ≤ m + k) : (s.data.toList.drop m)[k]? = none := by
  rw [List.getElem?_drop, List.getElem?_eq_none]; rw [← size_len]; exact h
theorem toList_ne (s : ByteArray) (h : 0 < s.size) : (s.toList == []) = false := by
  rw [Lib.toList_data]
  have : s.data.toList ≠ [] := by intro e; rw [size_len, e] at h; simp at h
  simpa using this





end Go.Proofs.Ytacmooknfbjpeaa.Q.D

