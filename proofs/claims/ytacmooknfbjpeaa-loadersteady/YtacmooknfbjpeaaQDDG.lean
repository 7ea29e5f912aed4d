/- Name, Field, Class, Elem, Ref: walked. -/
import Derived.Test.YtacmooknfbjpeaaQDDF
namespace Go.Proofs.Ytacmooknfbjpeaa.Q.D
open Go.RowKit
def str (l : Bs) : ByteArray := ⟨l.toArray⟩
theorem str_data (s : ByteArray) : str s.data.toList = s := by cases s; rfl
theorem data_str (l : Bs) : (str l).data.toList = l := rfl
theorem str_size (l : Bs) : (str l).size = l.length := by rw [size_len]; rfl
theorem ext_str (s : ByteArray) (a b : Nat) : s.extract a b = str ((s.data.toList.drop a).take (b - a)) := Lib.extract_eq s a b
theorem ext_end (s : ByteArray) (n : Nat) : s.extract n s.size = str (s.data.toList.drop n) := by rw [← str_data (s.extract n s.size), ext_data]

theorem cat_data (a b : ByteArray) : (a ++ b).data.toList = a.data.toList ++ b.data.toList := by simp [ByteArray.data_append]
theorem str_of {s : ByteArray} {l : Bs} (h : s.data.toList = l) : s = str l := by rw [← h, str_data]
theorem str_cat (a b : Bs) : str (a ++ b) = str a ++ str b := (str_of (by rw [cat_data]; rfl)).symm

def nameB (l : Bs) : Bool := decide (0 < nl l ∧ nl l = l.length)
def fieldB (l : Bs) : Bool := decide (0 < flen l ∧ flen l = l.length)
theorem nameB_iff (l : Bs) : nameB l = true ↔ isName l := by rw [isName_iff]; simp [nameB]
theorem fieldB_iff (l : Bs) : fieldB l = true ↔ Fld l := by rw [fld_iff]; simp [fieldB]
def classZ (l : Bs) : Bs := if fieldB l = true then (if l[0]? = some 76 then (l.drop 1).take (l.length - 2) else if l[0]? = some 91 then [79, 98, 106, 101, 99, 116] else []) else []
def elemZ (l : Bs) : Bs × Bool := if fieldB l = true ∧ l[0]? = some 91 then (l.drop 1, true) else ([], false)

theorem ret_bool {a b : Bool} (h : a = b) : Ending.returned (.bool a) = .returned (.bool b) := by rw [h]

set_option maxRecDepth 8000 in
set_option maxHeartbeats 1000000 in
theorem name_any (s : ByteArray) (w : World) :
    Calls Try.prog 27 #[.string s] w fun e w' => e = .returned (.bool (nameB s.data.toList)) ∧ w' = w := by
  have hN := hidIt (nl_any s w)
  unfold nameB
  rw [← size_len]
  generalize nl s.data.toList = K at *
  by_cases h1 : 0 < K
  · by_cases h2 : K = s.size
    · rw [decide_eq_true ⟨h1, h2⟩]
      have b : ((K : Int) == (s.size : Int)) = true := by simp; omega
      go_enter Try.func27, Try.ntmps27
      go_wp2_with fail
      refine hN.out.mono ?_
      rintro e w' ⟨rfl, hww⟩; cases hww
      go_wp2
      go_ret
      exact ⟨rfl, rfl⟩
    · rw [decide_eq_false (fun h => h2 h.2)]
      have b : ((K : Int) == (s.size : Int)) = false := by simp; omega
      go_enter Try.func27, Try.ntmps27
      go_wp2_with fail
      refine hN.out.mono ?_
      rintro e w' ⟨rfl, hww⟩; cases hww
      go_wp2
      go_ret
      exact ⟨rfl, rfl⟩
  · rw [decide_eq_false (fun h => h1 h.1)]
    obtain rfl : K = 0 := by omega
    go_enter Try.func27, Try.ntmps27
    go_wp2_with fail
    refine hN.out.mono ?_
    rintro e w' ⟨rfl, hww⟩; cases hww
    go_wp2
    go_ret
    exact ⟨rfl, rfl⟩


theorem field_pos {s : ByteArray} (h : fieldB s.data.toList = true) : 0 < s.size := by
  have := fld_pos ((fieldB_iff _).1 h)
  rw [size_len]; exact this
theorem at0 (s : ByteArray) (h : 0 < s.size) (n : Nat) (hn : n < 256) : s.data.toList[0]? = some (UInt8.ofNat n) ↔ s[0].toNat = n := by
  rw [at_get s 0 h]
  simp only [Option.some.injEq]
  constructor
  · intro e; rw [e]; simp; omega
  · intro e; exact u8_of e hn





end Go.Proofs.Ytacmooknfbjpeaa.Q.D

