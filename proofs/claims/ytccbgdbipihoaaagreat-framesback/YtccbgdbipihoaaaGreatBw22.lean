/- Texts QDDF QDDG QShelfS QDDL. -/
import Derived.Test.YtccbgdbipihoaaaGreatBw21
import Derived.Shelf.Small.Wraps
import Derived.Shelf.Strings.Prefix
import Derived.Ground.NamesProg
import Derived.Test.YtccbgdbipihoaaaGreatProg
import Derived.Lib.OthersKept
import Derived.Deep.LoopGhost
namespace Go.Proofs.YtccbgdbipihoaaaGreat.Q.D
open Go.RowKit
theorem u8_of {c : UInt8} {n : Nat} (h : c.toNat = n) (hn : n < 256) : c = UInt8.ofNat n := by
  apply UInt8.toNat.inj; rw [h]; simp; omega
theorem drop_at (s : ByteArray) (n : Nat) (h : n < s.size) : s.data.toList.drop n = s[n] :: s.data.toList.drop (n + 1) := by
  have h' : n < s.data.toList.length := by rw [← size_len]; exact h
  rw [List.drop_eq_getElem_cons h']; rfl
theorem ext_data (s : ByteArray) (n : Nat) : (s.extract n s.size).data.toList = s.data.toList.drop n := by
  rw [Lib.extract_data, List.take_of_length_le]
  rw [List.length_drop, size_len]; omega
theorem base_I (s : ByteArray) (n : Nat) (h : n < s.size) (hc : s[n].toNat = 73) : base (s.data.toList.drop n) = 1 := by
  rw [drop_at s n h, u8_of hc (by omega)]; rfl
theorem base_L (s : ByteArray) (n : Nat) (h : n < s.size) (hc : s[n].toNat = 76) : base (s.data.toList.drop n) =
    if 0 < nl (s.extract (n + 1) s.size).data.toList ∧ (s.data.toList.drop (n + 1))[nl (s.extract (n + 1) s.size).data.toList]? = some 59 then nl (s.extract (n + 1) s.size).data.toList + 2 else 0 := by
  rw [drop_at s n h, u8_of hc (by omega), ext_data]; rfl
theorem base_no (s : ByteArray) (n : Nat) (h : n < s.size) (hc : s[n].toNat ≠ 73) (hd : s[n].toNat ≠ 76) : base (s.data.toList.drop n) = 0 := by
  rw [drop_at s n h]
  unfold base
  simp only
  rw [if_neg (by intro e; rw [e] at hc; exact hc rfl), if_neg (by intro e; rw [e] at hd; exact hd rfl)]
theorem base_end (s : ByteArray) (n : Nat) (h : s.size ≤ n) : base (s.data.toList.drop n) = 0 := by
  rw [List.drop_eq_nil_of_le (by rw [← size_len]; exact h)]; rfl
theorem flen_arr (s : ByteArray) (h : 0 < s.size) (hc : s[0].toNat = 91) : flen s.data.toList = if base (s.data.toList.drop 1) = 0 then 0 else base (s.data.toList.drop 1) + 1 := by
  have e := drop_at s 0 h
  rw [List.drop_zero] at e
  conv => lhs; rw [e, u8_of hc (by omega)]
  rfl
theorem flen_no (s : ByteArray) (h : 0 < s.size) (hc : s[0].toNat ≠ 91) : flen s.data.toList = base (s.data.toList.drop 0) := by
  have e := drop_at s 0 h
  rw [List.drop_zero] at e ⊢
  conv => lhs; rw [e]
  conv => rhs; rw [e]
  unfold flen
  simp only
  rw [if_neg (by intro e; rw [e] at hc; exact hc rfl)]
theorem semi_at (s : ByteArray) (m k : Nat) (h : m + k < s.size) : (s.data.toList.drop m)[k]? = some 59 ↔ s[m + k].toNat = 59 := by
  rw [List.getElem?_drop, at_get s (m + k) h]
  simp only [Option.some.injEq]
  constructor
  · intro e; rw [e]; rfl
  · intro e; rw [u8_of e (by omega)]; rfl
theorem semi_end (s : ByteArray) (m k : Nat) (h : s.size ≤ m + k) : (s.data.toList.drop m)[k]? = none := by
  rw [List.getElem?_drop, List.getElem?_eq_none]; rw [← size_len]; exact h
theorem toList_ne (s : ByteArray) (h : 0 < s.size) : (s.toList == []) = false := by
  rw [Lib.toList_data]
  have : s.data.toList ≠ [] := by intro e; rw [size_len, e] at h; simp at h
  simpa using this

set_option maxRecDepth 8000 in
set_option maxHeartbeats 2000000 in
theorem fl_nil (s : ByteArray) (w : World) (h : s.size = 0) :
    Calls Tryz.prog 137 #[.string s] w fun e w' => e = .returned (.int .i64 (flen s.data.toList)) ∧ w' = w := by
  have e1 : s.data.toList = [] := List.eq_nil_of_length_eq_zero (by rw [← size_len]; exact h)
  have e2 : s.toList = [] := by rw [Lib.toList_data]; exact e1
  rw [e1]
  clear e1
  go_enter Tryz.func137, Tryz.ntmps137
  go_wp2
  go_ret
  exact ⟨rfl, rfl⟩

set_option maxRecDepth 8000 in
set_option maxHeartbeats 4000000 in
theorem fl_zero (s : ByteArray) (w : World) (h0 : 0 < s.size) (hs : s.size ≤ 9223372036854775807) (hc : s[0].toNat ≠ 91) :
    Calls Tryz.prog 137 #[.string s] w fun e w' => e = .returned (.int .i64 (flen s.data.toList)) ∧ w' = w := by
  have e2 := toList_ne s (by omega)
  have z0 : ((0 : Int) == (s.size : Int)) = false := by simp; omega
  have b0 : ((s[0].toNat : Int) == 91) = false := by simp; omega
  rw [flen_no s h0 hc]
  by_cases c1 : s[0].toNat = 73
  · rw [base_I s 0 h0 c1]
    have b1 : ((s[0].toNat : Int) == 73) = true := by simp; omega
    go_enter Tryz.func137, Tryz.ntmps137
    go_wp2
    go_ret
    exact ⟨rfl, rfl⟩
  · have b1 : ((s[0].toNat : Int) == 73) = false := by simp; omega
    by_cases c2 : s[0].toNat = 76
    · rw [base_L s 0 h0 c2]
      have b2 : ((s[0].toNat : Int) == 76) = true := by simp; omega
      have hN := hidIt (nl_any (s.extract 1 s.size) w)
      have hk := nl_le64 (s.extract 1 s.size).data.toList
      rw [show (0 + 1 : Nat) = 1 from rfl]
      generalize nl (s.extract 1 s.size).data.toList = K at *
      have hsz : (1 : Int) ≤ (s.size : Int) := by omega
      by_cases d1 : 0 < K
      · by_cases d2 : 1 + K < s.size
        · by_cases d3 : s[1 + K].toNat = 59
          · simp only [if_pos (show 0 < K ∧ (s.data.toList.drop 1)[K]? = some 59 from ⟨d1, (semi_at s 1 K d2).2 d3⟩)]
            have b3 : ((s[1 + K].toNat : Int) == 59) = true := by simp; omega
            go_enter Tryz.func137, Tryz.ntmps137
            go_wp2_with fail
            refine hN.out.mono ?_
            rintro e w' ⟨rfl, hww⟩; cases hww
            go_wp2
            go_ret
            refine ⟨ret_int ?_, rfl⟩
            omega
          · simp only [if_neg (show ¬ (0 < K ∧ (s.data.toList.drop 1)[K]? = some 59) from fun h => d3 ((semi_at s 1 K d2).1 h.2))]
            have b3 : ((s[1 + K].toNat : Int) == 59) = false := by simp; omega
            go_enter Tryz.func137, Tryz.ntmps137
            go_wp2_with fail
            refine hN.out.mono ?_
            rintro e w' ⟨rfl, hww⟩; cases hww
            go_wp2
            go_ret
            exact ⟨rfl, rfl⟩
        · simp only [if_neg (show ¬ (0 < K ∧ (s.data.toList.drop 1)[K]? = some 59) from fun h => by have := h.2; rw [semi_end s 1 K (by omega)] at this; cases this)]
          go_enter Tryz.func137, Tryz.ntmps137
          go_wp2_with fail
          refine hN.out.mono ?_
          rintro e w' ⟨rfl, hww⟩; cases hww
          go_wp2
          go_ret
          exact ⟨rfl, rfl⟩
      · simp only [if_neg (show ¬ (0 < K ∧ (s.data.toList.drop 1)[K]? = some 59) from fun h => d1 h.1)]
        obtain rfl : K = 0 := by omega
        go_enter Tryz.func137, Tryz.ntmps137
        go_wp2_with fail
        refine hN.out.mono ?_
        rintro e w' ⟨rfl, hww⟩; cases hww
        go_wp2
        go_ret
        exact ⟨rfl, rfl⟩
    · rw [base_no s 0 h0 c1 c2]
      have b2 : ((s[0].toNat : Int) == 76) = false := by simp; omega
      go_enter Tryz.func137, Tryz.ntmps137
      go_wp2
      go_ret
      exact ⟨rfl, rfl⟩

set_option maxRecDepth 8000 in
set_option maxHeartbeats 4000000 in
theorem fl_one (s : ByteArray) (w : World) (h1 : 1 < s.size) (hs : s.size ≤ 9223372036854775807) (hc : s[0].toNat = 91) :
    Calls Tryz.prog 137 #[.string s] w fun e w' => e = .returned (.int .i64 (flen s.data.toList)) ∧ w' = w := by
  have e2 := toList_ne s (by omega)
  have z0 : ((1 : Int) == (s.size : Int)) = false := by simp; omega
  have b0 : ((s[0].toNat : Int) == 91) = true := by simp; omega
  have h0 : 0 < s.size := by omega
  rw [flen_arr s (by omega) hc]
  by_cases c1 : s[1].toNat = 73
  · rw [base_I s 1 h1 c1]
    have b1 : ((s[1].toNat : Int) == 73) = true := by simp; omega
    go_enter Tryz.func137, Tryz.ntmps137
    go_wp2
    go_ret
    exact ⟨rfl, rfl⟩
  · have b1 : ((s[1].toNat : Int) == 73) = false := by simp; omega
    by_cases c2 : s[1].toNat = 76
    · rw [base_L s 1 h1 c2]
      have b2 : ((s[1].toNat : Int) == 76) = true := by simp; omega
      have hN := hidIt (nl_any (s.extract 2 s.size) w)
      have hk := nl_le64 (s.extract 2 s.size).data.toList
      rw [show (1 + 1 : Nat) = 2 from rfl]
      generalize nl (s.extract 2 s.size).data.toList = K at *
      have hsz : (1 : Int) ≤ (s.size : Int) := by omega
      by_cases d1 : 0 < K
      · by_cases d2 : 2 + K < s.size
        · by_cases d3 : s[2 + K].toNat = 59
          · simp only [if_pos (show 0 < K ∧ (s.data.toList.drop 2)[K]? = some 59 from ⟨d1, (semi_at s 2 K d2).2 d3⟩)]
            try simp only [if_neg (show ¬ (K + 2 = 0) by omega)]
            have b3 : ((s[2 + K].toNat : Int) == 59) = true := by simp; omega
            go_enter Tryz.func137, Tryz.ntmps137
            go_wp2_with fail
            refine hN.out.mono ?_
            rintro e w' ⟨rfl, hww⟩; cases hww
            go_wp2
            go_ret
            refine ⟨ret_int ?_, rfl⟩
            omega
          · simp only [if_neg (show ¬ (0 < K ∧ (s.data.toList.drop 2)[K]? = some 59) from fun h => d3 ((semi_at s 2 K d2).1 h.2))]
            try simp only [if_pos]
            have b3 : ((s[2 + K].toNat : Int) == 59) = false := by simp; omega
            go_enter Tryz.func137, Tryz.ntmps137
            go_wp2_with fail
            refine hN.out.mono ?_
            rintro e w' ⟨rfl, hww⟩; cases hww
            go_wp2
            go_ret
            exact ⟨rfl, rfl⟩
        · simp only [if_neg (show ¬ (0 < K ∧ (s.data.toList.drop 2)[K]? = some 59) from fun h => by have := h.2; rw [semi_end s 2 K (by omega)] at this; cases this)]
          try simp only [if_pos]
          go_enter Tryz.func137, Tryz.ntmps137
          go_wp2_with fail
          refine hN.out.mono ?_
          rintro e w' ⟨rfl, hww⟩; cases hww
          go_wp2
          go_ret
          exact ⟨rfl, rfl⟩
      · simp only [if_neg (show ¬ (0 < K ∧ (s.data.toList.drop 2)[K]? = some 59) from fun h => d1 h.1)]
        try simp only [if_pos]
        obtain rfl : K = 0 := by omega
        go_enter Tryz.func137, Tryz.ntmps137
        go_wp2_with fail
        refine hN.out.mono ?_
        rintro e w' ⟨rfl, hww⟩; cases hww
        go_wp2
        go_ret
        exact ⟨rfl, rfl⟩
    · rw [base_no s 1 h1 c1 c2]
      have b2 : ((s[1].toNat : Int) == 76) = false := by simp; omega
      go_enter Tryz.func137, Tryz.ntmps137
      go_wp2
      go_ret
      exact ⟨rfl, rfl⟩

set_option maxRecDepth 8000 in
set_option maxHeartbeats 2000000 in
theorem fl_sign (s : ByteArray) (w : World) (h : s.size = 1) (hc : s[0].toNat = 91) :
    Calls Tryz.prog 137 #[.string s] w fun e w' => e = .returned (.int .i64 (flen s.data.toList)) ∧ w' = w := by
  have e2 := toList_ne s (by omega)
  have z0 : ((1 : Int) == (s.size : Int)) = true := by simp; omega
  have b0 : ((s[0].toNat : Int) == 91) = true := by simp; omega
  rw [flen_arr s (by omega) hc, base_end s 1 (by omega), if_pos rfl]
  go_enter Tryz.func137, Tryz.ntmps137
  go_wp2
  go_ret
  exact ⟨rfl, rfl⟩

theorem fl_any (s : ByteArray) (w : World) (hs : s.size ≤ 9223372036854775807) :
    Calls Tryz.prog 137 #[.string s] w fun e w' => e = .returned (.int .i64 (flen s.data.toList)) ∧ w' = w := by
  by_cases h : s.size = 0
  · exact fl_nil s w h
  · by_cases hc : (s[0]'(by omega)).toNat = 91
    · by_cases h1 : s.size = 1
      · exact fl_sign s w h1 hc
      · exact fl_one s w (by omega) hs hc
    · exact fl_zero s w (by omega) hs hc
end Go.Proofs.YtccbgdbipihoaaaGreat.Q.D
namespace Go.Proofs.YtccbgdbipihoaaaGreat.Q.D
open Go.RowKit
def str (l : Bs) : ByteArray := ⟨l.toArray⟩
theorem str_data (s : ByteArray) : str s.data.toList = s := by cases s; rfl
theorem data_str (l : Bs) : (str l).data.toList = l := rfl
theorem str_size (l : Bs) : (str l).size = l.length := by rw [size_len]; rfl
theorem ext_str (s : ByteArray) (a b : Nat) : s.extract a b = str ((s.data.toList.drop a).take (b - a)) := Lib.extract_eq s a b
theorem ext_end (s : ByteArray) (n : Nat) : s.extract n s.size = str (s.data.toList.drop n) := by rw [← str_data (s.extract n s.size), ext_data]

theorem cat_data (a b : ByteArray) : (a ++ b).data.toList = a.data.toList ++ b.data.toList := by simp [ByteArray.data_append]
theorem str_of {s : ByteArray} {l : Bs} (h : s.data.toList = l) : s = str l := by rw [← h, str_data]

def nameB (l : Bs) : Bool := decide (0 < nl l ∧ nl l = l.length)
def fieldB (l : Bs) : Bool := decide (0 < flen l ∧ flen l = l.length)
theorem nameB_iff (l : Bs) : nameB l = true ↔ isName l := by rw [isName_iff]; simp [nameB]
theorem fieldB_iff (l : Bs) : fieldB l = true ↔ Fld l := by rw [fld_iff]; simp [fieldB]
def classZ (l : Bs) : Bs := if fieldB l = true then (if l[0]? = some 76 then (l.drop 1).take (l.length - 2) else if l[0]? = some 91 then [79, 98, 106, 101, 99, 116] else []) else []
def elemZ (l : Bs) : Bs × Bool := if fieldB l = true ∧ l[0]? = some 91 then (l.drop 1, true) else ([], false)

theorem ret_bool {a b : Bool} (h : a = b) : Ending.returned (.bool a) = .returned (.bool b) := by rw [h]

set_option maxRecDepth 8000 in
set_option maxHeartbeats 1000000 in
theorem name_any (s : ByteArray) (w : World) :
    Calls Tryz.prog 125 #[.string s] w fun e w' => e = .returned (.bool (nameB s.data.toList)) ∧ w' = w := by
  have hN := hidIt (nl_any s w)
  unfold nameB
  rw [← size_len]
  generalize nl s.data.toList = K at *
  by_cases h1 : 0 < K
  · by_cases h2 : K = s.size
    · rw [decide_eq_true ⟨h1, h2⟩]
      have b : ((K : Int) == (s.size : Int)) = true := by simp; omega
      go_enter Tryz.func125, Tryz.ntmps125
      go_wp2_with fail
      refine hN.out.mono ?_
      rintro e w' ⟨rfl, hww⟩; cases hww
      go_wp2
      go_ret
      exact ⟨rfl, rfl⟩
    · rw [decide_eq_false (fun h => h2 h.2)]
      have b : ((K : Int) == (s.size : Int)) = false := by simp; omega
      go_enter Tryz.func125, Tryz.ntmps125
      go_wp2_with fail
      refine hN.out.mono ?_
      rintro e w' ⟨rfl, hww⟩; cases hww
      go_wp2
      go_ret
      exact ⟨rfl, rfl⟩
  · rw [decide_eq_false (fun h => h1 h.1)]
    obtain rfl : K = 0 := by omega
    go_enter Tryz.func125, Tryz.ntmps125
    go_wp2_with fail
    refine hN.out.mono ?_
    rintro e w' ⟨rfl, hww⟩; cases hww
    go_wp2
    go_ret
    exact ⟨rfl, rfl⟩

set_option maxRecDepth 8000 in
set_option maxHeartbeats 1000000 in
theorem field_any (s : ByteArray) (w : World) (hs : s.size ≤ 9223372036854775807) :
    Calls Tryz.prog 99 #[.string s] w fun e w' => e = .returned (.bool (fieldB s.data.toList)) ∧ w' = w := by
  have hN := hidIt (fl_any s w hs)
  unfold fieldB
  rw [← size_len]
  generalize flen s.data.toList = K at *
  by_cases h1 : 0 < K
  · by_cases h2 : K = s.size
    · rw [decide_eq_true ⟨h1, h2⟩]
      have b : ((K : Int) == (s.size : Int)) = true := by simp; omega
      go_enter Tryz.func99, Tryz.ntmps99
      go_wp2_with fail
      refine hN.out.mono ?_
      rintro e w' ⟨rfl, hww⟩; cases hww
      go_wp2
      go_ret
      exact ⟨rfl, rfl⟩
    · rw [decide_eq_false (fun h => h2 h.2)]
      have b : ((K : Int) == (s.size : Int)) = false := by simp; omega
      go_enter Tryz.func99, Tryz.ntmps99
      go_wp2_with fail
      refine hN.out.mono ?_
      rintro e w' ⟨rfl, hww⟩; cases hww
      go_wp2
      go_ret
      exact ⟨rfl, rfl⟩
  · rw [decide_eq_false (fun h => h1 h.1)]
    obtain rfl : K = 0 := by omega
    go_enter Tryz.func99, Tryz.ntmps99
    go_wp2_with fail
    refine hN.out.mono ?_
    rintro e w' ⟨rfl, hww⟩; cases hww
    go_wp2
    go_ret
    exact ⟨rfl, rfl⟩

theorem field_pos {s : ByteArray} (h : fieldB s.data.toList = true) : 0 < s.size := by
  have := fld_pos ((fieldB_iff _).1 h)
  rw [size_len]; exact this
theorem at0 (s : ByteArray) (h : 0 < s.size) (n : Nat) (hn : n < 256) : s.data.toList[0]? = some (UInt8.ofNat n) ↔ s[0].toNat = n := by
  rw [at_get s 0 h]
  simp only [Option.some.injEq]
  constructor
  · intro e; rw [e]; simp; omega
  · intro e; exact u8_of e hn

set_option maxRecDepth 8000 in
set_option maxHeartbeats 2000000 in
theorem elem_any (s : ByteArray) (w : World) (hs : s.size ≤ 9223372036854775807) :
    Calls Tryz.prog 111 #[.string s] w fun e w' => e = .returned (.tuple #[.string (str (elemZ s.data.toList).1), .bool (elemZ s.data.toList).2]) ∧ w' = w := by
  have hN := hidIt (field_any s w hs)
  unfold elemZ
  by_cases h1 : fieldB s.data.toList = true
  · have h0 := field_pos h1
    by_cases h2 : s[0].toNat = 91
    · rw [if_pos ⟨h1, (at0 s h0 91 (by omega)).2 h2⟩]
      rw [h1] at hN
      have b : ((s[0].toNat : Int) == 91) = true := by simp; omega
      have b' : ((s[0].toNat : Int) != 91) = false := by simp; omega
      have e := ext_end s 1
      generalize str (List.drop 1 s.data.toList) = X at *
      clear h1
      go_enter Tryz.func111, Tryz.ntmps111
      go_wp2_with fail
      refine hN.out.mono ?_
      rintro e w' ⟨rfl, hww⟩; cases hww
      go_wp2
      go_ret2
      exact ⟨rfl, rfl⟩
    · rw [if_neg (fun h => h2 ((at0 s h0 91 (by omega)).1 h.2))]
      rw [h1] at hN
      have b : ((s[0].toNat : Int) == 91) = false := by simp; omega
      have b' : ((s[0].toNat : Int) != 91) = true := by simp; omega
      clear h1
      go_enter Tryz.func111, Tryz.ntmps111
      go_wp2_with fail
      refine hN.out.mono ?_
      rintro e w' ⟨rfl, hww⟩; cases hww
      go_wp2
      go_ret2
      exact ⟨rfl, rfl⟩
  · rw [if_neg (fun h => h1 h.1)]
    simp only [Bool.not_eq_true] at h1
    rw [h1] at hN
    clear h1
    go_enter Tryz.func111, Tryz.ntmps111
    go_wp2_with fail
    refine hN.out.mono ?_
    rintro e w' ⟨rfl, hww⟩; cases hww
    go_wp2
    go_ret2
    exact ⟨rfl, rfl⟩




end Go.Proofs.YtccbgdbipihoaaaGreat.Q.D
namespace Go.Proofs
open Go.Shelf
def Tryz.lays103_ren : Go.Shelf.Ren := ⟨fun | 103 => 98 | 210 => 138 | 206 => 109 | n => n, fun | 9 => 9 | 4 => 4 | 24 => 114 | 3 => 3 | n => n, fun | n => n⟩
theorem Tryz.lays103 : Go.Proofs.Lays.n103 Tryz.prog Tryz.lays103_ren := {
  mixed := by kernel_rfl
  f103 := Tryz.func98.trans (congrArg some (by kernel_rfl))
  f206 := Tryz.func109.trans (congrArg some (by kernel_rfl))
  f210 := Tryz.func138.trans (congrArg some (by kernel_rfl))
  t3 := Tryz.underlying3
  a3 := Tryz.isAgg3
  z3 := Tryz.sizeOf3
  v3 := Tryz.zeroValue3
  t4 := Tryz.underlying4
  a4 := Tryz.isAgg4
  z4 := Tryz.sizeOf4
  v4 := Tryz.zeroValue4
  t9 := Tryz.underlying9
  a9 := Tryz.isAgg9
  z9 := Tryz.sizeOf9
  v9 := Tryz.zeroValue9
  t24 := Tryz.underlying114
  a24 := Tryz.isAgg114
  z24 := Tryz.sizeOf114
  v24 := Tryz.zeroValue114 }
open Go.RowKit in
theorem Tryz.strings_CutPrefix (s p : ByteArray) (w : World) :
    Calls Tryz.prog 98 #[.string s, .string p] w fun e w' => e = .returned (.tuple #[.string ⟨(Lib.trimPrefix s.data.toList p.data.toList).toArray⟩, .bool (Lib.hasPrefix s.data.toList p.data.toList)]) ∧ w' = w := Any.strings_CutPrefix Tryz.lays103 s p w
def Tryz.lays99_ren : Go.Shelf.Ren := ⟨fun | 99 => 70 | 206 => 109 | n => n, fun | 9 => 9 | 4 => 4 | 3 => 3 | n => n, fun | n => n⟩
theorem Tryz.lays99 : Go.Proofs.Lays.n99 Tryz.prog Tryz.lays99_ren := {
  mixed := by kernel_rfl
  f99 := Tryz.func70.trans (congrArg some (by kernel_rfl))
  f206 := Tryz.func109.trans (congrArg some (by kernel_rfl))
  t3 := Tryz.underlying3
  a3 := Tryz.isAgg3
  z3 := Tryz.sizeOf3
  v3 := Tryz.zeroValue3
  t4 := Tryz.underlying4
  a4 := Tryz.isAgg4
  z4 := Tryz.sizeOf4
  v4 := Tryz.zeroValue4
  t9 := Tryz.underlying9
  a9 := Tryz.isAgg9
  z9 := Tryz.sizeOf9
  v9 := Tryz.zeroValue9 }
open Go.RowKit Go.Lib in
theorem Tryz.strings_HasPrefix (s p : ByteArray) (w : World) :
    Calls Tryz.prog 70 #[.string s, .string p] w fun e w' => e = .returned (.bool (Lib.hasPrefix s.data.toList p.data.toList)) ∧ w' = w := Any.strings_HasPrefix Tryz.lays99 s p w
end Go.Proofs
namespace Go.Proofs.YtccbgdbipihoaaaGreat.Q.D
open Go.RowKit
theorem Tryz.info9 : (Tryz.prog.info? 9).map (fun i => (i.zero, i.size, i.bytes)) = some (some (.string ⟨#[]⟩), 1, 16) := by kernel_rfl
def scells (ps : List Bs) : List Value := ps.map fun p => Value.string (str p)
theorem scells_snoc (ps : List Bs) (p : Bs) : scells (ps ++ [p]) = scells ps ++ [Value.string (str p)] := by simp [scells]
theorem own_slice {w : World} {B n e : Nat} {v : Value} {xs : List Value} (h : w.ownsRow B e 1 v n xs) : ∃ ao cap, v = .slice ao n cap := by
  rcases h.2 with ⟨rfl, rfl⟩ | ⟨g, cap, cur, rfl, _⟩
  · exact ⟨_, _, rfl⟩
  · exact ⟨_, _, rfl⟩
def sliceLen : Value → Nat
  | .slice _ n _ => n
  | _ => 0

structure Took (l : Bs) (ps : List Bs) (S : ByteArray) : Prop where
  eq : l = ps.flatten ++ S.data.toList
  fld : ∀ p ∈ ps, Fld p
theorem Took.more {l : Bs} {ps : List Bs} {S : ByteArray} (h : Took l ps S) (h0 : flen S.data.toList ≠ 0) :
    Took l (ps ++ [S.data.toList.take (flen S.data.toList)]) (S.extract (flen S.data.toList) S.size) := by
  refine ⟨?_, ?_⟩
  · rw [h.eq, ext_data]; simp
  · intro p hp
    rcases List.mem_append.1 hp with hp | hp
    · exact h.fld p hp
    · simp at hp; subst hp; exact flen_take h0

set_option maxRecDepth 8000 in
set_option maxHeartbeats 4000000 in
theorem lead_any (s : ByteArray) (w : World) (hs : s.size ≤ 9223372036854775807) :
    Calls Tryz.prog 97 #[.string s] w fun e w' => Below w.heap.size w w' ∧
      ∃ v, e = .returned (.tuple #[v, .string (str (lead 8 s.data.toList).2)]) ∧ w'.ownsRow w.heap.size 9 1 v (lead 8 s.data.toList).1.length (scells (lead 8 s.data.toList).1) := by
  obtain ⟨i0, hi, hz0, hz1, hz2⟩ := info_parts Tryz.info9
  go_enter Tryz.func97, Tryz.ntmps97
  go_wp2
  go_loopw [0, 4] (fun sv fv wr => ∃ (ps : List Bs) (S : ByteArray), sv = .string S ∧ wr.ownsRow w.heap.size 9 1 fv ps.length (scells ps) ∧ Below w.heap.size w wr ∧ ps.length ≤ 8 ∧ S.size ≤ 9223372036854775807 ∧ Took s.data.toList ps S) (fun _ fv _ => 8 - sliceLen fv)
  case atStart =>
    exact ⟨[], s, rfl, ⟨rfl, .inl ⟨rfl, rfl⟩⟩, Below.refl _ _, by simp, hs, ⟨rfl, by simp⟩⟩
  case round =>
    obtain ⟨ps, S, rfl, hown, hbw, hp8, hS, htk⟩ := hrel
    have hsz := hbw.size
    have HT := hidIt htk
    clear htk
    obtain ⟨ao, cap, rfl⟩ := own_slice hown
    by_cases h8 : ps.length < 8
    · have h8' : (ps.length : Int) < 8 := by omega
      have hN := hidIt (fl_any S wr hS)
      have hle := flen_le S.data.toList
      rw [← size_len] at hle
      by_cases h0 : flen S.data.toList = 0
      · have HF := hidIt h0
        rw [h0] at hN
        clear h0 hle
        go_wp2_with fail
        refine hN.out.mono ?_
        rintro e w' ⟨rfl, hww⟩; cases hww
        go_wp2
        go_ret2
        refine ⟨hbw, ?_⟩
        have e : lead 8 s.data.toList = (ps, S.data.toList) := by rw [HT.out.eq]; exact lead_char 8 ps _ HT.out.fld hp8 (.inr HF.out)
        rw [e]
        exact ⟨_, by rw [str_data]; rfl, hown⟩
      · have HM := hidIt (HT.out.more h0)
        have e1 := ext_str S 0 (flen S.data.toList)
        rw [Nat.sub_zero, List.drop_zero] at e1
        generalize flen S.data.toList = K at *
        have hK0 : ((K : Int) == 0) = false := by simp; omega
        obtain ⟨hK1, hK2⟩ := hle
        go_wp2_with fail
        refine hN.out.mono ?_
        rintro e w' ⟨rfl, hww⟩; cases hww
        go_wp2_with (at_builtin; refine wpList_append_own_at _ rfl _ _ 23 rfl w.heap.size 9 i0 (.string ⟨#[]⟩) 1 16 Tryz.underlying23 hi hz0 hz1 hz2 rfl (by decide) _ _ _ rfl (hown.alloc _) _ 1 1 [.string (str (List.take K S.data.toList))] rfl rfl ?c1 ?c2 ?c3 ?c4 ?c5 ?_)
        case c1 =>
          intro j u hj
          match j, hj with
          | 0, hj => simp at hj; subst hj; simp [Addr.add]
          | (j + 1), hj => simp at hj
        case c2 => intro u hu; simp at hu; rcases hu with rfl; rfl
        case c3 => unfold maxLen; omega
        case c4 => omega
        case c5 => simp; omega
        intro v' w2 hown' hgrow _ hat
        go_wp2
        obtain ⟨ao', cap', rfl⟩ := own_slice hown'
        refine ⟨⟨ps ++ [List.take K S.data.toList], _, rfl, ?_, ?_, ?_, ?_, HM.out⟩, ?_⟩
        · rw [scells_snoc, List.length_append]; exact hown'
        · exact (hbw.alloc hsz _).grown hgrow (by simp; omega) (fun k hk => (hown.lt k hk).1)
        · simp; omega
        · rw [size_len, ext_data, List.length_drop, ← size_len]; omega
        · simp only [sliceLen]; omega
    · have h8' : ¬ (ps.length : Int) < 8 := by omega
      go_wp2
      go_ret2
      refine ⟨hbw, ?_⟩
      have e : lead 8 s.data.toList = (ps, S.data.toList) := by rw [HT.out.eq]; exact lead_char 8 ps _ HT.out.fld hp8 (.inl (by omega))
      rw [e]
      exact ⟨_, by rw [str_data]; rfl, hown⟩

theorem hp_nil (d : UInt8) : Lib.hasPrefix [] [d] = false := rfl
theorem hp_cons (c d : UInt8) (t : Bs) : Lib.hasPrefix (c :: t) [d] = (d == c) := by simp [Lib.hasPrefix, List.isPrefixOf]
theorem hp_yes (d : UInt8) (t : Bs) : Lib.hasPrefix (d :: t) [d] = true := by rw [hp_cons]; simp
theorem hp_no {c d : UInt8} (t : Bs) (h : c ≠ d) : Lib.hasPrefix (c :: t) [d] = false := by rw [hp_cons]; simpa using fun e => h e.symm
theorem tp_yes (d : UInt8) (t : Bs) : Lib.trimPrefix (d :: t) [d] = t := by unfold Lib.trimPrefix; rw [hp_yes, if_pos rfl]; rfl
theorem lead_le (m : Nat) (l : Bs) : (lead m l).2.length ≤ l.length := by
  have h := (lead_inv m l).2.2.1
  have := congrArg List.length h
  rw [List.length_append] at this; omega

def MethAns (l : Bs) (B : Nat) (e : Ending) (w' : World) : Prop :=
  (∃ ps r v, meth l = some (ps, r) ∧ e = .returned (.tuple #[v, .string (str r), .bool true]) ∧ w'.ownsRow B 9 1 v ps.length (scells ps)) ∨
  (meth l = none ∧ e = .returned (.tuple #[.slice none 0 0, .string ⟨#[]⟩, .bool false]))

set_option maxRecDepth 8000 in
set_option maxHeartbeats 4000000 in
theorem method_bad (s : ByteArray) (w : World) (h : Lib.hasPrefix s.data.toList [40] = false) :
    Calls Tryz.prog 52 #[.string s] w fun e w' => e = .returned (.tuple #[.slice none 0 0, .string ⟨#[]⟩, .bool false]) ∧ w' = w := by
  have hH := hidIt (Tryz.strings_HasPrefix s ⟨#[40]⟩ w)
  rw [show (ByteArray.mk #[40]).data.toList = [40] from rfl, h] at hH
  clear h
  go_enter Tryz.func52, Tryz.ntmps52
  go_wp2_with fail
  refine hH.out.mono ?_
  rintro e w' ⟨rfl, hww⟩; cases hww
  go_wp2
  go_ret3
  exact ⟨rfl, rfl⟩

set_option maxRecDepth 8000 in
set_option maxHeartbeats 4000000 in
theorem method_open (s : ByteArray) (w : World) (t : Bs) (hs : s.size ≤ 9223372036854775807) (h : s.data.toList = 40 :: t) :
    Calls Tryz.prog 52 #[.string s] w fun e w' => Below w.heap.size w w' ∧ MethAns s.data.toList w.heap.size e w' := by
  have hH := hidIt (Tryz.strings_HasPrefix s ⟨#[40]⟩ w)
  rw [show (ByteArray.mk #[40]).data.toList = [40] from rfl, h, hp_yes] at hH
  have hsz : 1 ≤ s.size := by rw [size_len, h]; simp
  have he := ext_end s 1
  rw [h, show List.drop 1 (40 :: t) = t from rfl] at he
  have hL := hidIt (lead_any (str t) w (by rw [str_size]; rw [size_len, h] at hs; simp at hs; omega))
  rw [data_str] at hL
  have HM : Hid (meth s.data.toList = (match (lead 8 t).2 with
       | [] => none
       | d :: r => if d = 41 then (if r = [86] ∨ (0 < flen r ∧ flen r = r.length) then some ((lead 8 t).1, r) else none) else none)) := by
    show _ = _
    rw [h]; unfold meth; simp only; rw [if_pos trivial]; rfl
  have hR := lead_le 8 t
  have ht : t.length ≤ 9223372036854775807 := by rw [size_len, h] at hs; simp at hs; omega
  generalize (lead 8 t).2 = R at *
  generalize (lead 8 t).1 = ps at *
  generalize hl : s.data.toList = l at *
  clear hl h
  generalize str t = T at *
  have hshort : ∀ (P : Prop), P → P := fun _ h => h
  cases R with
  | nil =>
    have FIN := hidIt HM.out
    simp only at FIN
    go_enter Tryz.func52, Tryz.ntmps52
    go_wp2_with fail
    refine hH.out.mono ?_
    rintro e w' ⟨rfl, hww⟩; cases hww
    go_wp2_with fail
    refine hL.out.mono ?_
    rintro e w1 ⟨hb, v, rfl, hown⟩
    go_wp2_with fail
    refine (Tryz.strings_CutPrefix _ _ _).mono ?_
    rw [data_str, show (ByteArray.mk #[41]).data.toList = [41] from rfl, hp_nil]
    rintro e w' ⟨rfl, hww⟩; cases hww
    go_wp2
    go_ret3
    exact ⟨hb, .inr ⟨FIN.out, rfl⟩⟩
  | cons d r =>
    by_cases hd : d = 41
    · subst hd
      have hF := fun w => hidIt (field_any (str r) w (by rw [str_size]; simp at hR; omega))
      rw [data_str] at hF
      by_cases hV : r = [86]
      · subst hV
        have FIN : Hid (meth l = some (ps, [86])) := by
          show _ = _
          rw [HM.out]; simp only; rw [if_pos trivial, if_pos (.inl trivial)]
        go_enter Tryz.func52, Tryz.ntmps52
        go_wp2_with fail
        refine hH.out.mono ?_
        rintro e w' ⟨rfl, hww⟩; cases hww
        go_wp2_with fail
        refine hL.out.mono ?_
        rintro e w1 ⟨hb, v, rfl, hown⟩
        go_wp2_with fail
        refine (Tryz.strings_CutPrefix _ _ _).mono ?_
        rw [data_str, show (ByteArray.mk #[41]).data.toList = [41] from rfl, hp_yes, tp_yes]
        rintro e w' ⟨rfl, hww⟩; cases hww
        go_wp2
        go_ret3
        exact ⟨hb, .inl ⟨_, _, _, FIN.out, rfl, hown⟩⟩
      · have hne : (str r).toList ≠ [86] := by rw [Lib.toList_data]; exact hV
        have hne' : ((str r).toList == [86]) = false := by simpa using hne
        have hne2 : ((str r).toList != [86]) = true := by simpa using hne
        by_cases hf : fieldB r = true
        · have FIN : Hid (meth l = some (ps, r)) := by
            show _ = _
            rw [HM.out]; simp only; rw [if_pos trivial, if_pos (.inr (of_decide_eq_true hf))]
          rw [hf] at hF
          clear hf hne
          go_enter Tryz.func52, Tryz.ntmps52
          go_wp2_with fail
          refine hH.out.mono ?_
          rintro e w' ⟨rfl, hww⟩; cases hww
          go_wp2_with fail
          refine hL.out.mono ?_
          rintro e w1 ⟨hb, v, rfl, hown⟩
          go_wp2_with fail
          refine (Tryz.strings_CutPrefix _ _ _).mono ?_
          rw [data_str, show (ByteArray.mk #[41]).data.toList = [41] from rfl, hp_yes, tp_yes]
          rintro e w' ⟨rfl, hww⟩; cases hww
          rw [show (ByteArray.mk r.toArray) = str r from rfl]
          go_wp2_with fail
          refine (hF _).out.mono ?_
          rintro e w' ⟨rfl, hww⟩; cases hww
          go_wp2
          go_ret3
          exact ⟨hb, .inl ⟨_, _, _, FIN.out, rfl, hown⟩⟩
        · have FIN : Hid (meth l = none) := by
            show _ = _
            rw [HM.out]; simp only; rw [if_pos trivial, if_neg]
            rintro (h | h)
            · exact hV h
            · exact hf (decide_eq_true h)
          simp only [Bool.not_eq_true] at hf
          rw [hf] at hF
          clear hf hne
          go_enter Tryz.func52, Tryz.ntmps52
          go_wp2_with fail
          refine hH.out.mono ?_
          rintro e w' ⟨rfl, hww⟩; cases hww
          go_wp2_with fail
          refine hL.out.mono ?_
          rintro e w1 ⟨hb, v, rfl, hown⟩
          go_wp2_with fail
          refine (Tryz.strings_CutPrefix _ _ _).mono ?_
          rw [data_str, show (ByteArray.mk #[41]).data.toList = [41] from rfl, hp_yes, tp_yes]
          rintro e w' ⟨rfl, hww⟩; cases hww
          rw [show (ByteArray.mk r.toArray) = str r from rfl]
          go_wp2_with fail
          refine (hF _).out.mono ?_
          rintro e w' ⟨rfl, hww⟩; cases hww
          go_wp2
          go_ret3
          exact ⟨hb, .inr ⟨FIN.out, rfl⟩⟩
    · have FIN : Hid (meth l = none) := by
        show _ = _
        rw [HM.out]; simp only; rw [if_neg hd]
      go_enter Tryz.func52, Tryz.ntmps52
      go_wp2_with fail
      refine hH.out.mono ?_
      rintro e w' ⟨rfl, hww⟩; cases hww
      go_wp2_with fail
      refine hL.out.mono ?_
      rintro e w1 ⟨hb, v, rfl, hown⟩
      go_wp2_with fail
      refine (Tryz.strings_CutPrefix _ _ _).mono ?_
      rw [data_str, show (ByteArray.mk #[41]).data.toList = [41] from rfl, hp_no _ hd]
      rintro e w' ⟨rfl, hww⟩; cases hww
      go_wp2
      go_ret3
      exact ⟨hb, .inr ⟨FIN.out, rfl⟩⟩

theorem method_any (s : ByteArray) (w : World) (hs : s.size ≤ 9223372036854775807) :
    Calls Tryz.prog 52 #[.string s] w fun e w' => Below w.heap.size w w' ∧ MethAns s.data.toList w.heap.size e w' := by
  have no : meth s.data.toList = none → Lib.hasPrefix s.data.toList [40] = false → Calls Tryz.prog 52 #[.string s] w fun e w' => Below w.heap.size w w' ∧ MethAns s.data.toList w.heap.size e w' :=
    fun h1 h2 => (method_bad s w h2).mono fun e w' ⟨he, hw⟩ => by cases hw; exact ⟨Below.refl _ _, .inr ⟨h1, he⟩⟩
  match h : s.data.toList with
  | [] => rw [h] at no; exact no rfl rfl
  | c :: t =>
    by_cases hc : c = 40
    · subst hc; rw [← h]; exact method_open s w t hs h
    · rw [h] at no
      exact no (by unfold meth; simp only; rw [if_neg hc]) (hp_no t hc)
end Go.Proofs.YtccbgdbipihoaaaGreat.Q.D
