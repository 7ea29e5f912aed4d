import Derived.Test.YtpehimfnkmepnaaGreatBx01
import Derived.Shelf.Small.Wraps
import Derived.Shelf.Strings.Prefix
import Derived.Ground.NamesProg
import Derived.Lib.OthersKept
import Derived.Deep.LoopGhost
set_option maxRecDepth 8000
set_option maxHeartbeats 40000000
namespace Go.Proofs.YtpehimfnkmepnaaGreat.Q.D
open Go.RowKit
theorem zFt {c : UInt8} {n : Nat} (h : c.toNat = n) (hn : n < 256) : c = UInt8.ofNat n := by
 apply UInt8.toNat.inj; rw [h]; simp; omega
theorem zCd (s : ByteArray) (n : Nat) (h : n < s.size) : s.data.toList.drop n = s[n] :: s.data.toList.drop (n + 1) := by
 have h' : n < s.data.toList.length := by rw [← zA7]; exact h
 rw [List.drop_eq_getElem_cons h']; rfl
theorem zBy (s : ByteArray) (n : Nat) : (s.extract n s.size).data.toList = s.data.toList.drop n := by
 rw [Lib.extract_data, List.take_of_length_le]
 rw [List.length_drop, zA7]; omega
theorem zOi (s : ByteArray) (n : Nat) (h : n < s.size) (hc : s[n].toNat = 73) : base (s.data.toList.drop n) = 1 := by
 rw [zCd s n h, zFt hc (by omega)]; rfl
theorem zMc (s : ByteArray) (n : Nat) (h : n < s.size) (hc : s[n].toNat = 76) : base (s.data.toList.drop n) =
 if 0 < nl (s.extract (n + 1) s.size).data.toList ∧ (s.data.toList.drop (n + 1))[nl (s.extract (n + 1) s.size).data.toList]? = some 59 then nl (s.extract (n + 1) s.size).data.toList + 2 else 0 := by
 rw [zCd s n h, zFt hc (by omega), zBy]; rfl
theorem zL3 (s : ByteArray) (n : Nat) (h : n < s.size) (hc : s[n].toNat ≠ 73) (hd : s[n].toNat ≠ 76) : base (s.data.toList.drop n) = 0 := by
 rw [zCd s n h]
 unfold base
 simp only
 rw [if_neg (by intro e; rw [e] at hc; exact hc rfl), if_neg (by intro e; rw [e] at hd; exact hd rfl)]
theorem zKs (s : ByteArray) (n : Nat) (h : s.size ≤ n) : base (s.data.toList.drop n) = 0 := by
 rw [List.drop_eq_nil_of_le (by rw [← zA7]; exact h)]; rfl
theorem zGq (s : ByteArray) (h : 0 < s.size) (hc : s[0].toNat = 91) : flen s.data.toList = if base (s.data.toList.drop 1) = 0 then 0 else base (s.data.toList.drop 1) + 1 := by
 have e := zCd s 0 h
 rw [List.drop_zero] at e
 conv => lhs; rw [e, zFt hc (by omega)]
 rfl
theorem zNr (s : ByteArray) (h : 0 < s.size) (hc : s[0].toNat ≠ 91) : flen s.data.toList = base (s.data.toList.drop 0) := by
 have e := zCd s 0 h
 rw [List.drop_zero] at e ⊢
 conv => lhs; rw [e]
 conv => rhs; rw [e]
 unfold flen
 simp only
 rw [if_neg (by intro e; rw [e] at hc; exact hc rfl)]
theorem zFk (s : ByteArray) (m k : Nat) (h : m + k < s.size) : (s.data.toList.drop m)[k]? = some 59 ↔ s[m + k].toNat = 59 := by
 rw [List.getElem?_drop, zDa s (m + k) h]
 simp only [Option.some.injEq]
 constructor
 · intro e; rw [e]; rfl
 · intro e; rw [zFt e (by omega)]; rfl
theorem zLe (s : ByteArray) (m k : Nat) (h : s.size ≤ m + k) : (s.data.toList.drop m)[k]? = none := by
 rw [List.getElem?_drop, List.getElem?_eq_none]; rw [← zA7]; exact h
theorem zCi (s : ByteArray) (h : 0 < s.size) : (s.toList == []) = false := by
 rw [Lib.toList_data]
 have : s.data.toList ≠ [] := by intro e; rw [zA7, e] at h; simp at h
 simpa using this
theorem fl_nil (s : ByteArray) (w : World) (h : s.size = 0) :
 Calls Tryz.prog 152 #[.string s] w fun e w' => e = .returned (.int .i64 (flen s.data.toList)) ∧ w' = w := by
 have e1 : s.data.toList = [] := List.eq_nil_of_length_eq_zero (by rw [← zA7]; exact h)
 have e2 : s.toList = [] := by rw [Lib.toList_data]; exact e1
 rw [e1]
 clear e1
 go_enter Tryz.func152, Tryz.ntmps152
 go_wp2
 go_ret
 exact ⟨rfl, rfl⟩
theorem zW5 (s : ByteArray) (w : World) (h0 : 0 < s.size) (hs : s.size ≤ 9223372036854775807) (hc : s[0].toNat ≠ 91) :
 Calls Tryz.prog 152 #[.string s] w fun e w' => e = .returned (.int .i64 (flen s.data.toList)) ∧ w' = w := by
 have e2 := zCi s (by omega)
 have z0 : ((0 : Int) == (s.size : Int)) = false := by simp; omega
 have b0 : ((s[0].toNat : Int) == 91) = false := by simp; omega
 rw [zNr s h0 hc]
 by_cases c1 : s[0].toNat = 73
 · rw [zOi s 0 h0 c1]
   have b1 : ((s[0].toNat : Int) == 73) = true := by simp; omega
   go_enter Tryz.func152, Tryz.ntmps152
   go_wp2
   go_ret
   exact ⟨rfl, rfl⟩
 · have b1 : ((s[0].toNat : Int) == 73) = false := by simp; omega
   by_cases c2 : s[0].toNat = 76
   · rw [zMc s 0 h0 c2]
     have b2 : ((s[0].toNat : Int) == 76) = true := by simp; omega
     have hN := zA0 (zSi (s.extract 1 s.size) w)
     have hk := zJ8 (s.extract 1 s.size).data.toList
     rw [show (0 + 1 : Nat) = 1 from rfl]
     generalize nl (s.extract 1 s.size).data.toList = K at *
     have hsz : (1 : Int) ≤ (s.size : Int) := by omega
     by_cases d1 : 0 < K
     · by_cases d2 : 1 + K < s.size
       · by_cases d3 : s[1 + K].toNat = 59
         · simp only [if_pos (show 0 < K ∧ (s.data.toList.drop 1)[K]? = some 59 from ⟨d1, (zFk s 1 K d2).2 d3⟩)]
           have b3 : ((s[1 + K].toNat : Int) == 59) = true := by simp; omega
           go_enter Tryz.func152, Tryz.ntmps152
           go_wp2_with fail
           refine hN.out.mono ?_
           rintro e w' ⟨rfl, hww⟩; cases hww
           go_wp2
           go_ret
           refine ⟨zC3 ?_, rfl⟩
           omega
         · simp only [if_neg (show ¬ (0 < K ∧ (s.data.toList.drop 1)[K]? = some 59) from fun h => d3 ((zFk s 1 K d2).1 h.2))]
           have b3 : ((s[1 + K].toNat : Int) == 59) = false := by simp; omega
           go_enter Tryz.func152, Tryz.ntmps152
           go_wp2_with fail
           refine hN.out.mono ?_
           rintro e w' ⟨rfl, hww⟩; cases hww
           go_wp2
           go_ret
           exact ⟨rfl, rfl⟩
       · simp only [if_neg (show ¬ (0 < K ∧ (s.data.toList.drop 1)[K]? = some 59) from fun h => by have := h.2; rw [zLe s 1 K (by omega)] at this; cases this)]
         go_enter Tryz.func152, Tryz.ntmps152
         go_wp2_with fail
         refine hN.out.mono ?_
         rintro e w' ⟨rfl, hww⟩; cases hww
         go_wp2
         go_ret
         exact ⟨rfl, rfl⟩
     · simp only [if_neg (show ¬ (0 < K ∧ (s.data.toList.drop 1)[K]? = some 59) from fun h => d1 h.1)]
       obtain rfl : K = 0 := by omega
       go_enter Tryz.func152, Tryz.ntmps152
       go_wp2_with fail
       refine hN.out.mono ?_
       rintro e w' ⟨rfl, hww⟩; cases hww
       go_wp2
       go_ret
       exact ⟨rfl, rfl⟩
   · rw [zL3 s 0 h0 c1 c2]
     have b2 : ((s[0].toNat : Int) == 76) = false := by simp; omega
     go_enter Tryz.func152, Tryz.ntmps152
     go_wp2
     go_ret
     exact ⟨rfl, rfl⟩
theorem fl_one (s : ByteArray) (w : World) (h1 : 1 < s.size) (hs : s.size ≤ 9223372036854775807) (hc : s[0].toNat = 91) :
 Calls Tryz.prog 152 #[.string s] w fun e w' => e = .returned (.int .i64 (flen s.data.toList)) ∧ w' = w := by
 have e2 := zCi s (by omega)
 have z0 : ((1 : Int) == (s.size : Int)) = false := by simp; omega
 have b0 : ((s[0].toNat : Int) == 91) = true := by simp; omega
 have h0 : 0 < s.size := by omega
 rw [zGq s (by omega) hc]
 by_cases c1 : s[1].toNat = 73
 · rw [zOi s 1 h1 c1]
   have b1 : ((s[1].toNat : Int) == 73) = true := by simp; omega
   go_enter Tryz.func152, Tryz.ntmps152
   go_wp2
   go_ret
   exact ⟨rfl, rfl⟩
 · have b1 : ((s[1].toNat : Int) == 73) = false := by simp; omega
   by_cases c2 : s[1].toNat = 76
   · rw [zMc s 1 h1 c2]
     have b2 : ((s[1].toNat : Int) == 76) = true := by simp; omega
     have hN := zA0 (zSi (s.extract 2 s.size) w)
     have hk := zJ8 (s.extract 2 s.size).data.toList
     rw [show (1 + 1 : Nat) = 2 from rfl]
     generalize nl (s.extract 2 s.size).data.toList = K at *
     have hsz : (1 : Int) ≤ (s.size : Int) := by omega
     by_cases d1 : 0 < K
     · by_cases d2 : 2 + K < s.size
       · by_cases d3 : s[2 + K].toNat = 59
         · simp only [if_pos (show 0 < K ∧ (s.data.toList.drop 2)[K]? = some 59 from ⟨d1, (zFk s 2 K d2).2 d3⟩)]
           try simp only [if_neg (show ¬ (K + 2 = 0) by omega)]
           have b3 : ((s[2 + K].toNat : Int) == 59) = true := by simp; omega
           go_enter Tryz.func152, Tryz.ntmps152
           go_wp2_with fail
           refine hN.out.mono ?_
           rintro e w' ⟨rfl, hww⟩; cases hww
           go_wp2
           go_ret
           refine ⟨zC3 ?_, rfl⟩
           omega
         · simp only [if_neg (show ¬ (0 < K ∧ (s.data.toList.drop 2)[K]? = some 59) from fun h => d3 ((zFk s 2 K d2).1 h.2))]
           try simp only [if_pos]
           have b3 : ((s[2 + K].toNat : Int) == 59) = false := by simp; omega
           go_enter Tryz.func152, Tryz.ntmps152
           go_wp2_with fail
           refine hN.out.mono ?_
           rintro e w' ⟨rfl, hww⟩; cases hww
           go_wp2
           go_ret
           exact ⟨rfl, rfl⟩
       · simp only [if_neg (show ¬ (0 < K ∧ (s.data.toList.drop 2)[K]? = some 59) from fun h => by have := h.2; rw [zLe s 2 K (by omega)] at this; cases this)]
         try simp only [if_pos]
         go_enter Tryz.func152, Tryz.ntmps152
         go_wp2_with fail
         refine hN.out.mono ?_
         rintro e w' ⟨rfl, hww⟩; cases hww
         go_wp2
         go_ret
         exact ⟨rfl, rfl⟩
     · simp only [if_neg (show ¬ (0 < K ∧ (s.data.toList.drop 2)[K]? = some 59) from fun h => d1 h.1)]
       try simp only [if_pos]
       obtain rfl : K = 0 := by omega
       go_enter Tryz.func152, Tryz.ntmps152
       go_wp2_with fail
       refine hN.out.mono ?_
       rintro e w' ⟨rfl, hww⟩; cases hww
       go_wp2
       go_ret
       exact ⟨rfl, rfl⟩
   · rw [zL3 s 1 h1 c1 c2]
     have b2 : ((s[1].toNat : Int) == 76) = false := by simp; omega
     go_enter Tryz.func152, Tryz.ntmps152
     go_wp2
     go_ret
     exact ⟨rfl, rfl⟩
theorem zW6 (s : ByteArray) (w : World) (h : s.size = 1) (hc : s[0].toNat = 91) :
 Calls Tryz.prog 152 #[.string s] w fun e w' => e = .returned (.int .i64 (flen s.data.toList)) ∧ w' = w := by
 have e2 := zCi s (by omega)
 have z0 : ((1 : Int) == (s.size : Int)) = true := by simp; omega
 have b0 : ((s[0].toNat : Int) == 91) = true := by simp; omega
 rw [zGq s (by omega) hc, zKs s 1 (by omega), if_pos rfl]
 go_enter Tryz.func152, Tryz.ntmps152
 go_wp2
 go_ret
 exact ⟨rfl, rfl⟩
theorem zUp (s : ByteArray) (w : World) (hs : s.size ≤ 9223372036854775807) :
 Calls Tryz.prog 152 #[.string s] w fun e w' => e = .returned (.int .i64 (flen s.data.toList)) ∧ w' = w := by
 by_cases h : s.size = 0
 · exact fl_nil s w h
 · by_cases hc : (s[0]'(by omega)).toNat = 91
   · by_cases h1 : s.size = 1
     · exact zW6 s w h1 hc
     · exact fl_one s w (by omega) hs hc
   · exact zW5 s w (by omega) hs hc
def str (l : Bs) : ByteArray := ⟨l.toArray⟩
theorem zB2 (s : ByteArray) : str s.data.toList = s := by cases s; rfl
theorem zDm (l : Bs) : (str l).data.toList = l := rfl
theorem zDk (l : Bs) : (str l).size = l.length := by rw [zA7]; rfl
theorem zKh (s : ByteArray) (a b : Nat) : s.extract a b = str ((s.data.toList.drop a).take (b - a)) := Lib.extract_eq s a b
theorem zJi (s : ByteArray) (n : Nat) : s.extract n s.size = str (s.data.toList.drop n) := by rw [← zB2 (s.extract n s.size), zBy]
theorem zH9 (a b : ByteArray) : (a ++ b).data.toList = a.data.toList ++ b.data.toList := by simp [ByteArray.data_append]
theorem zSc {s : ByteArray} {l : Bs} (h : s.data.toList = l) : s = str l := by rw [← h, zB2]
def zAw (l : Bs) : Bool := decide (0 < nl l ∧ nl l = l.length)
def zAp (l : Bs) : Bool := decide (0 < flen l ∧ flen l = l.length)
theorem zC8 (l : Bs) : zAw l = true ↔ zCj l := by rw [zHj]; simp [zAw]
theorem zBp (l : Bs) : zAp l = true ↔ Fld l := by rw [zGe]; simp [zAp]
def zFu (l : Bs) : Bs := if zAp l = true then (if l[0]? = some 76 then (l.drop 1).take (l.length - 2) else if l[0]? = some 91 then [79, 98, 106, 101, 99, 116] else []) else []
def zEr (l : Bs) : Bs × Bool := if zAp l = true ∧ l[0]? = some 91 then (l.drop 1, true) else ([], false)
theorem zOj {a b : Bool} (h : a = b) : Ending.returned (.bool a) = .returned (.bool b) := by rw [h]
theorem zEd (s : ByteArray) (w : World) :
 Calls Tryz.prog 147 #[.string s] w fun e w' => e = .returned (.bool (zAw s.data.toList)) ∧ w' = w := by
 have hN := zA0 (zSi s w)
 unfold zAw
 rw [← zA7]
 generalize nl s.data.toList = K at *
 by_cases h1 : 0 < K
 · by_cases h2 : K = s.size
   · rw [decide_eq_true ⟨h1, h2⟩]
     have b : ((K : Int) == (s.size : Int)) = true := by simp; omega
     go_enter Tryz.func147, Tryz.ntmps147
     go_wp2_with fail
     refine hN.out.mono ?_
     rintro e w' ⟨rfl, hww⟩; cases hww
     go_wp2
     go_ret
     exact ⟨rfl, rfl⟩
   · rw [decide_eq_false (fun h => h2 h.2)]
     have b : ((K : Int) == (s.size : Int)) = false := by simp; omega
     go_enter Tryz.func147, Tryz.ntmps147
     go_wp2_with fail
     refine hN.out.mono ?_
     rintro e w' ⟨rfl, hww⟩; cases hww
     go_wp2
     go_ret
     exact ⟨rfl, rfl⟩
 · rw [decide_eq_false (fun h => h1 h.1)]
   obtain rfl : K = 0 := by omega
   go_enter Tryz.func147, Tryz.ntmps147
   go_wp2_with fail
   refine hN.out.mono ?_
   rintro e w' ⟨rfl, hww⟩; cases hww
   go_wp2
   go_ret
   exact ⟨rfl, rfl⟩
theorem zB3 (s : ByteArray) (w : World) (hs : s.size ≤ 9223372036854775807) :
 Calls Tryz.prog 117 #[.string s] w fun e w' => e = .returned (.bool (zAp s.data.toList)) ∧ w' = w := by
 have hN := zA0 (zUp s w hs)
 unfold zAp
 rw [← zA7]
 generalize flen s.data.toList = K at *
 by_cases h1 : 0 < K
 · by_cases h2 : K = s.size
   · rw [decide_eq_true ⟨h1, h2⟩]
     have b : ((K : Int) == (s.size : Int)) = true := by simp; omega
     go_enter Tryz.func117, Tryz.ntmps117
     go_wp2_with fail
     refine hN.out.mono ?_
     rintro e w' ⟨rfl, hww⟩; cases hww
     go_wp2
     go_ret
     exact ⟨rfl, rfl⟩
   · rw [decide_eq_false (fun h => h2 h.2)]
     have b : ((K : Int) == (s.size : Int)) = false := by simp; omega
     go_enter Tryz.func117, Tryz.ntmps117
     go_wp2_with fail
     refine hN.out.mono ?_
     rintro e w' ⟨rfl, hww⟩; cases hww
     go_wp2
     go_ret
     exact ⟨rfl, rfl⟩
 · rw [decide_eq_false (fun h => h1 h.1)]
   obtain rfl : K = 0 := by omega
   go_enter Tryz.func117, Tryz.ntmps117
   go_wp2_with fail
   refine hN.out.mono ?_
   rintro e w' ⟨rfl, hww⟩; cases hww
   go_wp2
   go_ret
   exact ⟨rfl, rfl⟩
theorem zGt {s : ByteArray} (h : zAp s.data.toList = true) : 0 < s.size := by
 have := zGk ((zBp _).1 h)
 rw [zA7]; exact this
theorem at0 (s : ByteArray) (h : 0 < s.size) (n : Nat) (hn : n < 256) : s.data.toList[0]? = some (UInt8.ofNat n) ↔ s[0].toNat = n := by
 rw [zDa s 0 h]
 simp only [Option.some.injEq]
 constructor
 · intro e; rw [e]; simp; omega
 · intro e; exact zFt e hn
theorem zO5 (s : ByteArray) (w : World) (hs : s.size ≤ 9223372036854775807) :
 Calls Tryz.prog 120 #[.string s] w fun e w' => e = .returned (.tuple #[.string (str (zEr s.data.toList).1), .bool (zEr s.data.toList).2]) ∧ w' = w := by
 have hN := zA0 (zB3 s w hs)
 unfold zEr
 by_cases h1 : zAp s.data.toList = true
 · have h0 := zGt h1
   by_cases h2 : s[0].toNat = 91
   · rw [if_pos ⟨h1, (at0 s h0 91 (by omega)).2 h2⟩]
     rw [h1] at hN
     have b : ((s[0].toNat : Int) == 91) = true := by simp; omega
     have b' : ((s[0].toNat : Int) != 91) = false := by simp; omega
     have e := zJi s 1
     generalize str (List.drop 1 s.data.toList) = X at *
     clear h1
     go_enter Tryz.func120, Tryz.ntmps120
     go_wp2_with fail
     refine hN.out.mono ?_
     rintro e w' ⟨rfl, hww⟩; cases hww
     go_wp2
     go_ret2
     exact ⟨rfl, rfl⟩
   · rw [if_neg (fun h => h2 ((at0 s h0 91 (by omega)).1 h.2))]
     rw [h1] at hN
     have b : ((s[0].toNat : Int) == 91) = false := by simp; omega
     have b' : ((s[0].toNat : Int) != 91) = true := by simp; omega
     clear h1
     go_enter Tryz.func120, Tryz.ntmps120
     go_wp2_with fail
     refine hN.out.mono ?_
     rintro e w' ⟨rfl, hww⟩; cases hww
     go_wp2
     go_ret2
     exact ⟨rfl, rfl⟩
 · rw [if_neg (fun h => h1 h.1)]
   simp only [Bool.not_eq_true] at h1
   rw [h1] at hN
   clear h1
   go_enter Tryz.func120, Tryz.ntmps120
   go_wp2_with fail
   refine hN.out.mono ?_
   rintro e w' ⟨rfl, hww⟩; cases hww
   go_wp2
   go_ret2
   exact ⟨rfl, rfl⟩
end Go.Proofs.YtpehimfnkmepnaaGreat.Q.D
namespace Go.Proofs
open Go.Shelf
def Tryz.lays103_ren : Go.Shelf.Ren := ⟨fun | 103 => 125 | 210 => 154 | 206 => 119 | n => n, fun | 9 => 9 | 4 => 4 | 24 => 123 | 3 => 3 | n => n, fun | n => n⟩
theorem Tryz.lays103 : Go.Proofs.Lays.n103 Tryz.prog Tryz.lays103_ren := {
 mixed := by kernel_rfl
 f103 := Tryz.func125.trans (congrArg some (by kernel_rfl))
 f206 := Tryz.func119.trans (congrArg some (by kernel_rfl))
 f210 := Tryz.func154.trans (congrArg some (by kernel_rfl))
 t3 := Tryz.underlying3
 a3 := Tryz.isAgg3
 z3 := Tryz.sizeOf3
 v3 := Tryz.zeroValue3
 t4 := Tryz.underlying4
 a4 := Tryz.isAgg4
 z4 := Tryz.sizeOf4
 v4 := Tryz.zeroValue4
 t9 := Tryz.underlying9
 a9 := Tryz.isAgg9
 z9 := Tryz.sizeOf9
 v9 := Tryz.zeroValue9
 t24 := Tryz.underlying123
 a24 := Tryz.isAgg123
 z24 := Tryz.sizeOf123
 v24 := Tryz.zeroValue123 }
open Go.RowKit in
theorem Tryz.strings_CutPrefix (s p : ByteArray) (w : World) :
 Calls Tryz.prog 125 #[.string s, .string p] w fun e w' => e = .returned (.tuple #[.string ⟨(Lib.trimPrefix s.data.toList p.data.toList).toArray⟩, .bool (Lib.hasPrefix s.data.toList p.data.toList)]) ∧ w' = w := Any.strings_CutPrefix Tryz.lays103 s p w
def Tryz.lays99_ren : Go.Shelf.Ren := ⟨fun | 99 => 71 | 206 => 119 | n => n, fun | 9 => 9 | 4 => 4 | 3 => 3 | n => n, fun | n => n⟩
theorem Tryz.lays99 : Go.Proofs.Lays.n99 Tryz.prog Tryz.lays99_ren := {
 mixed := by kernel_rfl
 f99 := Tryz.func71.trans (congrArg some (by kernel_rfl))
 f206 := Tryz.func119.trans (congrArg some (by kernel_rfl))
 t3 := Tryz.underlying3
 a3 := Tryz.isAgg3
 z3 := Tryz.sizeOf3
 v3 := Tryz.zeroValue3
 t4 := Tryz.underlying4
 a4 := Tryz.isAgg4
 z4 := Tryz.sizeOf4
 v4 := Tryz.zeroValue4
 t9 := Tryz.underlying9
 a9 := Tryz.isAgg9
 z9 := Tryz.sizeOf9
 v9 := Tryz.zeroValue9 }
open Go.RowKit Go.Lib in
theorem Tryz.strings_HasPrefix (s p : ByteArray) (w : World) :
 Calls Tryz.prog 71 #[.string s, .string p] w fun e w' => e = .returned (.bool (Lib.hasPrefix s.data.toList p.data.toList)) ∧ w' = w := Any.strings_HasPrefix Tryz.lays99 s p w
end Go.Proofs
namespace Go.Proofs.YtpehimfnkmepnaaGreat.Q.D
open Go.RowKit
theorem Tryz.info9 : (Tryz.prog.info? 9).map (fun i => (i.zero, i.size, i.bytes)) = some (some (.string ⟨#[]⟩), 1, 16) := by kernel_rfl
def zDf (ps : List Bs) : List Value := ps.map fun p => Value.string (str p)
theorem zGb (ps : List Bs) (p : Bs) : zDf (ps ++ [p]) = zDf ps ++ [Value.string (str p)] := by simp [zDf]
theorem zA4 {w : World} {B n e : Nat} {v : Value} {xs : List Value} (h : w.ownsRow B e 1 v n xs) : ∃ ao cap, v = .slice ao n cap := by
 rcases h.2 with ⟨rfl, rfl⟩ | ⟨g, cap, cur, rfl, _⟩
 · exact ⟨_, _, rfl⟩
 · exact ⟨_, _, rfl⟩
def zHa : Value → Nat
 | .slice _ n _ => n
 | _ => 0
structure Took (l : Bs) (ps : List Bs) (S : ByteArray) : Prop where
 eq : l = ps.flatten ++ S.data.toList
 fld : ∀ p ∈ ps, Fld p
theorem Took.more {l : Bs} {ps : List Bs} {S : ByteArray} (h : Took l ps S) (h0 : flen S.data.toList ≠ 0) :
 Took l (ps ++ [S.data.toList.take (flen S.data.toList)]) (S.extract (flen S.data.toList) S.size) := by
 refine ⟨?_, ?_⟩
 · rw [h.eq, zBy]; simp
 · intro p hp
   rcases List.mem_append.1 hp with hp | hp
   · exact h.fld p hp
   · simp at hp; subst hp; exact zFj h0
theorem zU6 (s : ByteArray) (w : World) (hs : s.size ≤ 9223372036854775807) :
 Calls Tryz.prog 124 #[.string s] w fun e w' => Below w.heap.size w w' ∧
  ∃ v, e = .returned (.tuple #[v, .string (str (lead 8 s.data.toList).2)]) ∧ w'.ownsRow w.heap.size 9 1 v (lead 8 s.data.toList).1.length (zDf (lead 8 s.data.toList).1) := by
 obtain ⟨i0, hi, hz0, hz1, hz2⟩ := info_parts Tryz.info9
 go_enter Tryz.func124, Tryz.ntmps124
 go_wp2
 go_loopw [0, 4] (fun sv fv wr => ∃ (ps : List Bs) (S : ByteArray), sv = .string S ∧ wr.ownsRow w.heap.size 9 1 fv ps.length (zDf ps) ∧ Below w.heap.size w wr ∧ ps.length ≤ 8 ∧ S.size ≤ 9223372036854775807 ∧ Took s.data.toList ps S) (fun _ fv _ => 8 - zHa fv)
 case atStart =>
  exact ⟨[], s, rfl, ⟨rfl, .inl ⟨rfl, rfl⟩⟩, Below.refl _ _, by simp, hs, ⟨rfl, by simp⟩⟩
 case round =>
  obtain ⟨ps, S, rfl, hown, hbw, hp8, hS, htk⟩ := hrel
  have hsz := hbw.size
  have HT := zA0 htk
  clear htk
  obtain ⟨ao, cap, rfl⟩ := zA4 hown
  by_cases h8 : ps.length < 8
  · have h8' : (ps.length : Int) < 8 := by omega
    have hN := zA0 (zUp S wr hS)
    have hle := zKk S.data.toList
    rw [← zA7] at hle
    by_cases h0 : flen S.data.toList = 0
    · have HF := zA0 h0
      rw [h0] at hN
      clear h0 hle
      go_wp2_with fail
      refine hN.out.mono ?_
      rintro e w' ⟨rfl, hww⟩; cases hww
      go_wp2
      go_ret2
      refine ⟨hbw, ?_⟩
      have e : lead 8 s.data.toList = (ps, S.data.toList) := by rw [HT.out.eq]; exact zE3 8 ps _ HT.out.fld hp8 (.inr HF.out)
      rw [e]
      exact ⟨_, by rw [zB2]; rfl, hown⟩
    · have HM := zA0 (HT.out.more h0)
      have e1 := zKh S 0 (flen S.data.toList)
      rw [Nat.sub_zero, List.drop_zero] at e1
      generalize flen S.data.toList = K at *
      have hK0 : ((K : Int) == 0) = false := by simp; omega
      obtain ⟨hK1, hK2⟩ := hle
      go_wp2_with fail
      refine hN.out.mono ?_
      rintro e w' ⟨rfl, hww⟩; cases hww
      go_wp2_with (at_builtin; refine wpList_append_own_at _ rfl _ _ 47 rfl w.heap.size 9 i0 (.string ⟨#[]⟩) 1 16 Tryz.underlying47 hi hz0 hz1 hz2 rfl (by decide) _ _ _ rfl (hown.alloc _) _ 1 1 [.string (str (List.take K S.data.toList))] rfl rfl ?c1 ?c2 ?c3 ?c4 ?c5 ?_)
      case c1 =>
       intro j u hj
       match j, hj with
       | 0, hj => simp at hj; subst hj; simp [Addr.add]
       | (j + 1), hj => simp at hj
      case c2 => intro u hu; simp at hu; rcases hu with rfl; rfl
      case c3 => unfold maxLen; omega
      case c4 => omega
      case c5 => simp; omega
      intro v' w2 hown' hgrow _ hat
      go_wp2
      obtain ⟨ao', cap', rfl⟩ := zA4 hown'
      refine ⟨⟨ps ++ [List.take K S.data.toList], _, rfl, ?_, ?_, ?_, ?_, HM.out⟩, ?_⟩
      · rw [zGb, List.length_append]; exact hown'
      · exact (hbw.alloc hsz _).grown hgrow (by simp; omega) (fun k hk => (hown.lt k hk).1)
      · simp; omega
      · rw [zA7, zBy, List.length_drop, ← zA7]; omega
      · simp only [zHa]; omega
  · have h8' : ¬ (ps.length : Int) < 8 := by omega
    go_wp2
    go_ret2
    refine ⟨hbw, ?_⟩
    have e : lead 8 s.data.toList = (ps, S.data.toList) := by rw [HT.out.eq]; exact zE3 8 ps _ HT.out.fld hp8 (.inl (by omega))
    rw [e]
    exact ⟨_, by rw [zB2]; rfl, hown⟩
theorem zUo (d : UInt8) : Lib.hasPrefix [] [d] = false := rfl
theorem zIn (c d : UInt8) (t : Bs) : Lib.hasPrefix (c :: t) [d] = (d == c) := by simp [Lib.hasPrefix, List.isPrefixOf]
theorem zIr (d : UInt8) (t : Bs) : Lib.hasPrefix (d :: t) [d] = true := by rw [zIn]; simp
theorem zW8 {c d : UInt8} (t : Bs) (h : c ≠ d) : Lib.hasPrefix (c :: t) [d] = false := by rw [zIn]; simpa using fun e => h e.symm
theorem zOt (d : UInt8) (t : Bs) : Lib.trimPrefix (d :: t) [d] = t := by unfold Lib.trimPrefix; rw [zIr, if_pos rfl]; rfl
theorem zRm (m : Nat) (l : Bs) : (lead m l).2.length ≤ l.length := by
 have h := (zH6 m l).2.2.1
 have := congrArg List.length h
 rw [List.length_append] at this; omega
def zF8 (l : Bs) (B : Nat) (e : Ending) (w' : World) : Prop :=
 (∃ ps r v, meth l = some (ps, r) ∧ e = .returned (.tuple #[v, .string (str r), .bool true]) ∧ w'.ownsRow B 9 1 v ps.length (zDf ps)) ∨
 (meth l = none ∧ e = .returned (.tuple #[.slice none 0 0, .string ⟨#[]⟩, .bool false]))
theorem zPd (s : ByteArray) (w : World) (h : Lib.hasPrefix s.data.toList [40] = false) :
 Calls Tryz.prog 85 #[.string s] w fun e w' => e = .returned (.tuple #[.slice none 0 0, .string ⟨#[]⟩, .bool false]) ∧ w' = w := by
 have hH := zA0 (Tryz.strings_HasPrefix s ⟨#[40]⟩ w)
 rw [show (ByteArray.mk #[40]).data.toList = [40] from rfl, h] at hH
 clear h
 go_enter Tryz.func85, Tryz.ntmps85
 go_wp2_with fail
 refine hH.out.mono ?_
 rintro e w' ⟨rfl, hww⟩; cases hww
 go_wp2
 go_ret3
 exact ⟨rfl, rfl⟩
theorem zMu (s : ByteArray) (w : World) (t : Bs) (hs : s.size ≤ 9223372036854775807) (h : s.data.toList = 40 :: t) :
 Calls Tryz.prog 85 #[.string s] w fun e w' => Below w.heap.size w w' ∧ zF8 s.data.toList w.heap.size e w' := by
 have hH := zA0 (Tryz.strings_HasPrefix s ⟨#[40]⟩ w)
 rw [show (ByteArray.mk #[40]).data.toList = [40] from rfl, h, zIr] at hH
 have hsz : 1 ≤ s.size := by rw [zA7, h]; simp
 have he := zJi s 1
 rw [h, show List.drop 1 (40 :: t) = t from rfl] at he
 have hL := zA0 (zU6 (str t) w (by rw [zDk]; rw [zA7, h] at hs; simp at hs; omega))
 rw [zDm] at hL
 have HM : Hid (meth s.data.toList = (match (lead 8 t).2 with
      | [] => none
      | d :: r => if d = 41 then (if r = [86] ∨ (0 < flen r ∧ flen r = r.length) then some ((lead 8 t).1, r) else none) else none)) := by
  show _ = _
  rw [h]; unfold meth; simp only; rw [if_pos trivial]; rfl
 have hR := zRm 8 t
 have ht : t.length ≤ 9223372036854775807 := by rw [zA7, h] at hs; simp at hs; omega
 generalize (lead 8 t).2 = R at *
 generalize (lead 8 t).1 = ps at *
 generalize hl : s.data.toList = l at *
 clear hl h
 generalize str t = T at *
 have hshort : ∀ (P : Prop), P → P := fun _ h => h
 cases R with
 | nil =>
   have FIN := zA0 HM.out
   simp only at FIN
   go_enter Tryz.func85, Tryz.ntmps85
   go_wp2_with fail
   refine hH.out.mono ?_
   rintro e w' ⟨rfl, hww⟩; cases hww
   go_wp2_with fail
   refine hL.out.mono ?_
   rintro e w1 ⟨hb, v, rfl, hown⟩
   go_wp2_with fail
   refine (Tryz.strings_CutPrefix _ _ _).mono ?_
   rw [zDm, show (ByteArray.mk #[41]).data.toList = [41] from rfl, zUo]
   rintro e w' ⟨rfl, hww⟩; cases hww
   go_wp2
   go_ret3
   exact ⟨hb, .inr ⟨FIN.out, rfl⟩⟩
 | cons d r =>
   by_cases hd : d = 41
   · subst hd
     have hF := fun w => zA0 (zB3 (str r) w (by rw [zDk]; simp at hR; omega))
     rw [zDm] at hF
     by_cases hV : r = [86]
     · subst hV
       have FIN : Hid (meth l = some (ps, [86])) := by
        show _ = _
        rw [HM.out]; simp only; rw [if_pos trivial, if_pos (.inl trivial)]
       go_enter Tryz.func85, Tryz.ntmps85
       go_wp2_with fail
       refine hH.out.mono ?_
       rintro e w' ⟨rfl, hww⟩; cases hww
       go_wp2_with fail
       refine hL.out.mono ?_
       rintro e w1 ⟨hb, v, rfl, hown⟩
       go_wp2_with fail
       refine (Tryz.strings_CutPrefix _ _ _).mono ?_
       rw [zDm, show (ByteArray.mk #[41]).data.toList = [41] from rfl, zIr, zOt]
       rintro e w' ⟨rfl, hww⟩; cases hww
       go_wp2
       go_ret3
       exact ⟨hb, .inl ⟨_, _, _, FIN.out, rfl, hown⟩⟩
     · have hne : (str r).toList ≠ [86] := by rw [Lib.toList_data]; exact hV
       have hne' : ((str r).toList == [86]) = false := by simpa using hne
       have hne2 : ((str r).toList != [86]) = true := by simpa using hne
       by_cases hf : zAp r = true
       · have FIN : Hid (meth l = some (ps, r)) := by
          show _ = _
          rw [HM.out]; simp only; rw [if_pos trivial, if_pos (.inr (of_decide_eq_true hf))]
         rw [hf] at hF
         clear hf hne
         go_enter Tryz.func85, Tryz.ntmps85
         go_wp2_with fail
         refine hH.out.mono ?_
         rintro e w' ⟨rfl, hww⟩; cases hww
         go_wp2_with fail
         refine hL.out.mono ?_
         rintro e w1 ⟨hb, v, rfl, hown⟩
         go_wp2_with fail
         refine (Tryz.strings_CutPrefix _ _ _).mono ?_
         rw [zDm, show (ByteArray.mk #[41]).data.toList = [41] from rfl, zIr, zOt]
         rintro e w' ⟨rfl, hww⟩; cases hww
         rw [show (ByteArray.mk r.toArray) = str r from rfl]
         go_wp2_with fail
         refine (hF _).out.mono ?_
         rintro e w' ⟨rfl, hww⟩; cases hww
         go_wp2
         go_ret3
         exact ⟨hb, .inl ⟨_, _, _, FIN.out, rfl, hown⟩⟩
       · have FIN : Hid (meth l = none) := by
          show _ = _
          rw [HM.out]; simp only; rw [if_pos trivial, if_neg]
          rintro (h | h)
          · exact hV h
          · exact hf (decide_eq_true h)
         simp only [Bool.not_eq_true] at hf
         rw [hf] at hF
         clear hf hne
         go_enter Tryz.func85, Tryz.ntmps85
         go_wp2_with fail
         refine hH.out.mono ?_
         rintro e w' ⟨rfl, hww⟩; cases hww
         go_wp2_with fail
         refine hL.out.mono ?_
         rintro e w1 ⟨hb, v, rfl, hown⟩
         go_wp2_with fail
         refine (Tryz.strings_CutPrefix _ _ _).mono ?_
         rw [zDm, show (ByteArray.mk #[41]).data.toList = [41] from rfl, zIr, zOt]
         rintro e w' ⟨rfl, hww⟩; cases hww
         rw [show (ByteArray.mk r.toArray) = str r from rfl]
         go_wp2_with fail
         refine (hF _).out.mono ?_
         rintro e w' ⟨rfl, hww⟩; cases hww
         go_wp2
         go_ret3
         exact ⟨hb, .inr ⟨FIN.out, rfl⟩⟩
   · have FIN : Hid (meth l = none) := by
      show _ = _
      rw [HM.out]; simp only; rw [if_neg hd]
     go_enter Tryz.func85, Tryz.ntmps85
     go_wp2_with fail
     refine hH.out.mono ?_
     rintro e w' ⟨rfl, hww⟩; cases hww
     go_wp2_with fail
     refine hL.out.mono ?_
     rintro e w1 ⟨hb, v, rfl, hown⟩
     go_wp2_with fail
     refine (Tryz.strings_CutPrefix _ _ _).mono ?_
     rw [zDm, show (ByteArray.mk #[41]).data.toList = [41] from rfl, zW8 _ hd]
     rintro e w' ⟨rfl, hww⟩; cases hww
     go_wp2
     go_ret3
     exact ⟨hb, .inr ⟨FIN.out, rfl⟩⟩
theorem zAk (s : ByteArray) (w : World) (hs : s.size ≤ 9223372036854775807) :
 Calls Tryz.prog 85 #[.string s] w fun e w' => Below w.heap.size w w' ∧ zF8 s.data.toList w.heap.size e w' := by
 have no : meth s.data.toList = none → Lib.hasPrefix s.data.toList [40] = false → Calls Tryz.prog 85 #[.string s] w fun e w' => Below w.heap.size w w' ∧ zF8 s.data.toList w.heap.size e w' :=
  fun h1 h2 => (zPd s w h2).mono fun e w' ⟨he, hw⟩ => by cases hw; exact ⟨Below.refl _ _, .inr ⟨h1, he⟩⟩
 match h : s.data.toList with
 | [] => rw [h] at no; exact no rfl rfl
 | c :: t =>
   by_cases hc : c = 40
   · subst hc; rw [← h]; exact zMu s w t hs h
   · rw [h] at no
     exact no (by unfold meth; simp only; rw [if_neg hc]) (zW8 t hc)
end Go.Proofs.YtpehimfnkmepnaaGreat.Q.D
