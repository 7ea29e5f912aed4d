import Derived.Test.YtpehimfnkmepnaaGreatBz25
import Derived.Shelf.Small.Wraps
import Derived.Shelf.Strings.Prefix
import Derived.Ground.NamesProg
set_option maxRecDepth 8000
set_option maxHeartbeats 40000000
namespace Go.Proofs.YtpehimfnkmepnaaGreat.Q.D
open Go.RowKit
theorem zDe (s : ByteArray) (k : Nat) (h : k < s.size) : s.data.toList[k]? = some s[k] := by
 have h' : k < s.data.toList.length := by simpa using h
 rw [List.getElem?_eq_getElem h']; rfl
theorem zAb (s : ByteArray) : s.size = s.data.toList.length := Lib.size_eq s
theorem zA0 {p : Prop} (h : p) : Hid p := h
theorem zC4 {k : IntKind} {a b : Int} (h : a = b) : Ending.returned (.int k a) = .returned (.int k b) := by rw [h]
theorem zHm (k : Nat) (c : UInt8) : okc k c = true ↔ (97 ≤ c.toNat ∧ c.toNat ≤ 122 ∨ 65 ≤ c.toNat ∧ c.toNat ≤ 90 ∨ c.toNat = 95 ∨ c.toNat = 36) ∨ ((48 ≤ c.toNat ∧ c.toNat ≤ 57) ∧ 0 < k) := by
 simp [okc, isL, isD]
theorem zLd (k : Nat) (c : UInt8) : okc k c = false ↔ ¬ ((97 ≤ c.toNat ∧ c.toNat ≤ 122 ∨ 65 ≤ c.toNat ∧ c.toNat ≤ 90 ∨ c.toNat = 95 ∨ c.toNat = 36) ∨ ((48 ≤ c.toNat ∧ c.toNat ≤ 57) ∧ 0 < k)) := by
 rw [← zHm]; simp
def Seen (s : ByteArray) (k : Nat) : Prop := k ≤ s.size ∧ k ≤ 64 ∧ ∀ j, j < k → ∃ c, s.data.toList[j]? = some c ∧ okc j c = true
theorem Seen.more {s : ByteArray} {k : Nat} (h : Seen s k) (h1 : k < s.size) (h2 : k < 64) (h3 : okc k s[k] = true) : Seen s (k + 1) := by
 refine ⟨by omega, by omega, fun j hj => ?_⟩
 by_cases e : j = k
 · subst e; exact ⟨_, zDe s j h1, h3⟩
 · exact h.2.2 j (by omega)
theorem Seen.stop {s : ByteArray} {k : Nat} (h : Seen s k) (h1 : k < s.size) (h3 : okc k s[k] = false) : nl s.data.toList = k :=
 zFa h.2.1 h.2.2 (.inr fun c hc => by rw [zDe s k h1] at hc; cases hc; exact h3)
theorem Seen.full {s : ByteArray} {k : Nat} (h : Seen s k) (h1 : ¬ k < s.size ∨ ¬ k < 64) : nl s.data.toList = k := by
 have h2 := h.2.1
 refine zFa h.2.1 h.2.2 ?_
 rcases h1 with h1 | h1
 · right; intro c hc
   rw [List.getElem?_eq_none (by rw [← zAb]; omega)] at hc; cases hc
 · left; omega
theorem zO5 (s : ByteArray) (w : World) :
 Calls Tryz.prog 169 #[.string s] w fun e w' => e = .returned (.int .i64 (nl s.data.toList)) ∧ w' = w := by
 go_enter Tryz.func169, Tryz.ntmps169
 go_wp2
 go_step3
 go_wp2
 go_step3
 go_wp2
 go_loop [3] (fun n => ∃ (k : Nat), n = .int .i64 (k : Int) ∧ k ≤ 64 ∧ Hid (Seen s k)) (fun i => 64 - (intOf i).toNat)
 case atStart =>
  refine ⟨0, rfl, by omega, ?_⟩
  exact ⟨by omega, by omega, fun j hj => by omega⟩
 case round =>
  obtain ⟨k, rfl, hk6, hsee⟩ := hrel
  by_cases h1 : k < s.size
  · have h1' : (k : Int) < (s.size : Int) := by omega
    by_cases h2 : k < 64
    · have h2' : (k : Int) < 64 := by omega
      go_wp2
      all_goals first
       | (refine ⟨⟨k + 1, by go_num, by omega, hsee.out.more h1 h2 ((zHm _ _).2 (by simp_all; omega))⟩, by simp [intOf]; omega⟩)
       | (go_ret; refine ⟨zC4 ?_, rfl⟩; rw [hsee.out.stop h1 ((zLd _ _).2 (by simp_all; omega))])
    · have h2' : ¬ (k : Int) < 64 := by omega
      go_wp2
      go_ret
      refine ⟨?_, rfl⟩
      rw [hsee.out.full (.inr h2)]; rfl
  · have h1' : ¬ (k : Int) < (s.size : Int) := by omega
    go_wp2
    go_ret
    refine ⟨?_, rfl⟩
    rw [hsee.out.full (.inl h1)]; rfl
theorem zEs {c : UInt8} {n : Nat} (h : c.toNat = n) (hn : n < 256) : c = UInt8.ofNat n := by
 apply UInt8.toNat.inj; rw [h]; simp; omega
theorem zC2 (s : ByteArray) (n : Nat) (h : n < s.size) : s.data.toList.drop n = s[n] :: s.data.toList.drop (n + 1) := by
 have h' : n < s.data.toList.length := by rw [← zAb]; exact h
 rw [List.drop_eq_getElem_cons h']; rfl
theorem zBk (s : ByteArray) (n : Nat) : (s.extract n s.size).data.toList = s.data.toList.drop n := by
 rw [Lib.extract_data, List.take_of_length_le]
 rw [List.length_drop, zAb]; omega
theorem zLi (s : ByteArray) (n : Nat) (h : n < s.size) (hc : s[n].toNat = 73) : base (s.data.toList.drop n) = 1 := by
 rw [zC2 s n h, zEs hc (by omega)]; rfl
theorem zK0 (s : ByteArray) (n : Nat) (h : n < s.size) (hc : s[n].toNat = 76) : base (s.data.toList.drop n) =
 if 0 < nl (s.extract (n + 1) s.size).data.toList ∧ (s.data.toList.drop (n + 1))[nl (s.extract (n + 1) s.size).data.toList]? = some 59 then nl (s.extract (n + 1) s.size).data.toList + 2 else 0 := by
 rw [zC2 s n h, zEs hc (by omega), zBk]; rfl
theorem zIz (s : ByteArray) (n : Nat) (h : n < s.size) (hc : s[n].toNat ≠ 73) (hd : s[n].toNat ≠ 76) : base (s.data.toList.drop n) = 0 := by
 rw [zC2 s n h]
 unfold base
 simp only
 rw [if_neg (by intro e; rw [e] at hc; exact hc rfl), if_neg (by intro e; rw [e] at hd; exact hd rfl)]
theorem zIr (s : ByteArray) (n : Nat) (h : s.size ≤ n) : base (s.data.toList.drop n) = 0 := by
 rw [List.drop_eq_nil_of_le (by rw [← zAb]; exact h)]; rfl
theorem zFp (s : ByteArray) (h : 0 < s.size) (hc : s[0].toNat = 91) : flen s.data.toList = if base (s.data.toList.drop 1) = 0 then 0 else base (s.data.toList.drop 1) + 1 := by
 have e := zC2 s 0 h
 rw [List.drop_zero] at e
 conv => lhs; rw [e, zEs hc (by omega)]
 rfl
theorem zKd (s : ByteArray) (h : 0 < s.size) (hc : s[0].toNat ≠ 91) : flen s.data.toList = base (s.data.toList.drop 0) := by
 have e := zC2 s 0 h
 rw [List.drop_zero] at e ⊢
 conv => lhs; rw [e]
 conv => rhs; rw [e]
 unfold flen
 simp only
 rw [if_neg (by intro e; rw [e] at hc; exact hc rfl)]
theorem zEl (s : ByteArray) (m k : Nat) (h : m + k < s.size) : (s.data.toList.drop m)[k]? = some 59 ↔ s[m + k].toNat = 59 := by
 rw [List.getElem?_drop, zDe s (m + k) h]
 simp only [Option.some.injEq]
 constructor
 · intro e; rw [e]; rfl
 · intro e; rw [zEs e (by omega)]; rfl
theorem zLh (s : ByteArray) (m k : Nat) (h : s.size ≤ m + k) : (s.data.toList.drop m)[k]? = none := by
 rw [List.getElem?_drop, List.getElem?_eq_none]; rw [← zAb]; exact h
theorem zBz (s : ByteArray) (h : 0 < s.size) : (s.toList == []) = false := by
 rw [Lib.toList_data]
 have : s.data.toList ≠ [] := by intro e; rw [zAb, e] at h; simp at h
 simpa using this
theorem fl_nil (s : ByteArray) (w : World) (h : s.size = 0) :
 Calls Tryz.prog 152 #[.string s] w fun e w' => e = .returned (.int .i64 (flen s.data.toList)) ∧ w' = w := by
 have e1 : s.data.toList = [] := List.eq_nil_of_length_eq_zero (by rw [← zAb]; exact h)
 have e2 : s.toList = [] := by rw [Lib.toList_data]; exact e1
 rw [e1]
 clear e1
 go_enter Tryz.func152, Tryz.ntmps152
 go_wp2
 go_ret
 exact ⟨rfl, rfl⟩
theorem zRm (s : ByteArray) (w : World) (h0 : 0 < s.size) (hs : s.size ≤ 9223372036854775807) (hc : s[0].toNat ≠ 91) :
 Calls Tryz.prog 152 #[.string s] w fun e w' => e = .returned (.int .i64 (flen s.data.toList)) ∧ w' = w := by
 have e2 := zBz s (by omega)
 have z0 : ((0 : Int) == (s.size : Int)) = false := by simp; omega
 have b0 : ((s[0].toNat : Int) == 91) = false := by simp; omega
 rw [zKd s h0 hc]
 by_cases c1 : s[0].toNat = 73
 · rw [zLi s 0 h0 c1]
   have b1 : ((s[0].toNat : Int) == 73) = true := by simp; omega
   go_enter Tryz.func152, Tryz.ntmps152
   go_wp2
   go_ret
   exact ⟨rfl, rfl⟩
 · have b1 : ((s[0].toNat : Int) == 73) = false := by simp; omega
   by_cases c2 : s[0].toNat = 76
   · rw [zK0 s 0 h0 c2]
     have b2 : ((s[0].toNat : Int) == 76) = true := by simp; omega
     have hN := zA0 (zO5 (s.extract 1 s.size) w)
     have hk := zHp (s.extract 1 s.size).data.toList
     rw [show (0 + 1 : Nat) = 1 from rfl]
     generalize nl (s.extract 1 s.size).data.toList = K at *
     have hsz : (1 : Int) ≤ (s.size : Int) := by omega
     by_cases d1 : 0 < K
     · by_cases d2 : 1 + K < s.size
       · by_cases d3 : s[1 + K].toNat = 59
         · simp only [if_pos (show 0 < K ∧ (s.data.toList.drop 1)[K]? = some 59 from ⟨d1, (zEl s 1 K d2).2 d3⟩)]
           have b3 : ((s[1 + K].toNat : Int) == 59) = true := by simp; omega
           go_enter Tryz.func152, Tryz.ntmps152
           go_wp2_with fail
           refine hN.out.mono ?_
           rintro e w' ⟨rfl, hww⟩; cases hww
           go_wp2
           go_ret
           refine ⟨zC4 ?_, rfl⟩
           omega
         · simp only [if_neg (show ¬ (0 < K ∧ (s.data.toList.drop 1)[K]? = some 59) from fun h => d3 ((zEl s 1 K d2).1 h.2))]
           have b3 : ((s[1 + K].toNat : Int) == 59) = false := by simp; omega
           go_enter Tryz.func152, Tryz.ntmps152
           go_wp2_with fail
           refine hN.out.mono ?_
           rintro e w' ⟨rfl, hww⟩; cases hww
           go_wp2
           go_ret
           exact ⟨rfl, rfl⟩
       · simp only [if_neg (show ¬ (0 < K ∧ (s.data.toList.drop 1)[K]? = some 59) from fun h => by have := h.2; rw [zLh s 1 K (by omega)] at this; cases this)]
         go_enter Tryz.func152, Tryz.ntmps152
         go_wp2_with fail
         refine hN.out.mono ?_
         rintro e w' ⟨rfl, hww⟩; cases hww
         go_wp2
         go_ret
         exact ⟨rfl, rfl⟩
     · simp only [if_neg (show ¬ (0 < K ∧ (s.data.toList.drop 1)[K]? = some 59) from fun h => d1 h.1)]
       obtain rfl : K = 0 := by omega
       go_enter Tryz.func152, Tryz.ntmps152
       go_wp2_with fail
       refine hN.out.mono ?_
       rintro e w' ⟨rfl, hww⟩; cases hww
       go_wp2
       go_ret
       exact ⟨rfl, rfl⟩
   · rw [zIz s 0 h0 c1 c2]
     have b2 : ((s[0].toNat : Int) == 76) = false := by simp; omega
     go_enter Tryz.func152, Tryz.ntmps152
     go_wp2
     go_ret
     exact ⟨rfl, rfl⟩
theorem fl_one (s : ByteArray) (w : World) (h1 : 1 < s.size) (hs : s.size ≤ 9223372036854775807) (hc : s[0].toNat = 91) :
 Calls Tryz.prog 152 #[.string s] w fun e w' => e = .returned (.int .i64 (flen s.data.toList)) ∧ w' = w := by
 have e2 := zBz s (by omega)
 have z0 : ((1 : Int) == (s.size : Int)) = false := by simp; omega
 have b0 : ((s[0].toNat : Int) == 91) = true := by simp; omega
 have h0 : 0 < s.size := by omega
 rw [zFp s (by omega) hc]
 by_cases c1 : s[1].toNat = 73
 · rw [zLi s 1 h1 c1]
   have b1 : ((s[1].toNat : Int) == 73) = true := by simp; omega
   go_enter Tryz.func152, Tryz.ntmps152
   go_wp2
   go_ret
   exact ⟨rfl, rfl⟩
 · have b1 : ((s[1].toNat : Int) == 73) = false := by simp; omega
   by_cases c2 : s[1].toNat = 76
   · rw [zK0 s 1 h1 c2]
     have b2 : ((s[1].toNat : Int) == 76) = true := by simp; omega
     have hN := zA0 (zO5 (s.extract 2 s.size) w)
     have hk := zHp (s.extract 2 s.size).data.toList
     rw [show (1 + 1 : Nat) = 2 from rfl]
     generalize nl (s.extract 2 s.size).data.toList = K at *
     have hsz : (1 : Int) ≤ (s.size : Int) := by omega
     by_cases d1 : 0 < K
     · by_cases d2 : 2 + K < s.size
       · by_cases d3 : s[2 + K].toNat = 59
         · simp only [if_pos (show 0 < K ∧ (s.data.toList.drop 2)[K]? = some 59 from ⟨d1, (zEl s 2 K d2).2 d3⟩)]
           try simp only [if_neg (show ¬ (K + 2 = 0) by omega)]
           have b3 : ((s[2 + K].toNat : Int) == 59) = true := by simp; omega
           go_enter Tryz.func152, Tryz.ntmps152
           go_wp2_with fail
           refine hN.out.mono ?_
           rintro e w' ⟨rfl, hww⟩; cases hww
           go_wp2
           go_ret
           refine ⟨zC4 ?_, rfl⟩
           omega
         · simp only [if_neg (show ¬ (0 < K ∧ (s.data.toList.drop 2)[K]? = some 59) from fun h => d3 ((zEl s 2 K d2).1 h.2))]
           try simp only [if_pos]
           have b3 : ((s[2 + K].toNat : Int) == 59) = false := by simp; omega
           go_enter Tryz.func152, Tryz.ntmps152
           go_wp2_with fail
           refine hN.out.mono ?_
           rintro e w' ⟨rfl, hww⟩; cases hww
           go_wp2
           go_ret
           exact ⟨rfl, rfl⟩
       · simp only [if_neg (show ¬ (0 < K ∧ (s.data.toList.drop 2)[K]? = some 59) from fun h => by have := h.2; rw [zLh s 2 K (by omega)] at this; cases this)]
         try simp only [if_pos]
         go_enter Tryz.func152, Tryz.ntmps152
         go_wp2_with fail
         refine hN.out.mono ?_
         rintro e w' ⟨rfl, hww⟩; cases hww
         go_wp2
         go_ret
         exact ⟨rfl, rfl⟩
     · simp only [if_neg (show ¬ (0 < K ∧ (s.data.toList.drop 2)[K]? = some 59) from fun h => d1 h.1)]
       try simp only [if_pos]
       obtain rfl : K = 0 := by omega
       go_enter Tryz.func152, Tryz.ntmps152
       go_wp2_with fail
       refine hN.out.mono ?_
       rintro e w' ⟨rfl, hww⟩; cases hww
       go_wp2
       go_ret
       exact ⟨rfl, rfl⟩
   · rw [zIz s 1 h1 c1 c2]
     have b2 : ((s[1].toNat : Int) == 76) = false := by simp; omega
     go_enter Tryz.func152, Tryz.ntmps152
     go_wp2
     go_ret
     exact ⟨rfl, rfl⟩
theorem zRo (s : ByteArray) (w : World) (h : s.size = 1) (hc : s[0].toNat = 91) :
 Calls Tryz.prog 152 #[.string s] w fun e w' => e = .returned (.int .i64 (flen s.data.toList)) ∧ w' = w := by
 have e2 := zBz s (by omega)
 have z0 : ((1 : Int) == (s.size : Int)) = true := by simp; omega
 have b0 : ((s[0].toNat : Int) == 91) = true := by simp; omega
 rw [zFp s (by omega) hc, zIr s 1 (by omega), if_pos rfl]
 go_enter Tryz.func152, Tryz.ntmps152
 go_wp2
 go_ret
 exact ⟨rfl, rfl⟩
theorem zR1 (s : ByteArray) (w : World) (hs : s.size ≤ 9223372036854775807) :
 Calls Tryz.prog 152 #[.string s] w fun e w' => e = .returned (.int .i64 (flen s.data.toList)) ∧ w' = w := by
 by_cases h : s.size = 0
 · exact fl_nil s w h
 · by_cases hc : (s[0]'(by omega)).toNat = 91
   · by_cases h1 : s.size = 1
     · exact zRo s w h1 hc
     · exact fl_one s w (by omega) hs hc
   · exact zRm s w (by omega) hs hc
def str (l : Bs) : ByteArray := ⟨l.toArray⟩
theorem zDz (s : ByteArray) : str s.data.toList = s := by cases s; rfl
theorem zCp (l : Bs) : (str l).data.toList = l := rfl
theorem zFj (l : Bs) : (str l).size = l.length := by rw [zAb]; rfl
theorem zKm (s : ByteArray) (a b : Nat) : s.extract a b = str ((s.data.toList.drop a).take (b - a)) := Lib.extract_eq s a b
theorem zHn (s : ByteArray) (n : Nat) : s.extract n s.size = str (s.data.toList.drop n) := by rw [← zDz (s.extract n s.size), zBk]
def zB9 (l : Bs) : Bool := decide (0 < nl l ∧ nl l = l.length)
def zB8 (l : Bs) : Bool := decide (0 < flen l ∧ flen l = l.length)
theorem zCm (l : Bs) : zB9 l = true ↔ zDx l := by rw [zG5]; simp [zB9]
theorem zD0 (l : Bs) : zB8 l = true ↔ Fld l := by rw [zEy]; simp [zB8]
def zF3 (l : Bs) : Bs × Bool := if zB8 l = true ∧ l[0]? = some 91 then (l.drop 1, true) else ([], false)
theorem zDc (s : ByteArray) (w : World) :
 Calls Tryz.prog 147 #[.string s] w fun e w' => e = .returned (.bool (zB9 s.data.toList)) ∧ w' = w := by
 have hN := zA0 (zO5 s w)
 unfold zB9
 rw [← zAb]
 generalize nl s.data.toList = K at *
 by_cases h1 : 0 < K
 · by_cases h2 : K = s.size
   · rw [decide_eq_true ⟨h1, h2⟩]
     have b : ((K : Int) == (s.size : Int)) = true := by simp; omega
     go_enter Tryz.func147, Tryz.ntmps147
     go_wp2_with fail
     refine hN.out.mono ?_
     rintro e w' ⟨rfl, hww⟩; cases hww
     go_wp2
     go_ret
     exact ⟨rfl, rfl⟩
   · rw [decide_eq_false (fun h => h2 h.2)]
     have b : ((K : Int) == (s.size : Int)) = false := by simp; omega
     go_enter Tryz.func147, Tryz.ntmps147
     go_wp2_with fail
     refine hN.out.mono ?_
     rintro e w' ⟨rfl, hww⟩; cases hww
     go_wp2
     go_ret
     exact ⟨rfl, rfl⟩
 · rw [decide_eq_false (fun h => h1 h.1)]
   obtain rfl : K = 0 := by omega
   go_enter Tryz.func147, Tryz.ntmps147
   go_wp2_with fail
   refine hN.out.mono ?_
   rintro e w' ⟨rfl, hww⟩; cases hww
   go_wp2
   go_ret
   exact ⟨rfl, rfl⟩
theorem zAy (s : ByteArray) (w : World) (hs : s.size ≤ 9223372036854775807) :
 Calls Tryz.prog 117 #[.string s] w fun e w' => e = .returned (.bool (zB8 s.data.toList)) ∧ w' = w := by
 have hN := zA0 (zR1 s w hs)
 unfold zB8
 rw [← zAb]
 generalize flen s.data.toList = K at *
 by_cases h1 : 0 < K
 · by_cases h2 : K = s.size
   · rw [decide_eq_true ⟨h1, h2⟩]
     have b : ((K : Int) == (s.size : Int)) = true := by simp; omega
     go_enter Tryz.func117, Tryz.ntmps117
     go_wp2_with fail
     refine hN.out.mono ?_
     rintro e w' ⟨rfl, hww⟩; cases hww
     go_wp2
     go_ret
     exact ⟨rfl, rfl⟩
   · rw [decide_eq_false (fun h => h2 h.2)]
     have b : ((K : Int) == (s.size : Int)) = false := by simp; omega
     go_enter Tryz.func117, Tryz.ntmps117
     go_wp2_with fail
     refine hN.out.mono ?_
     rintro e w' ⟨rfl, hww⟩; cases hww
     go_wp2
     go_ret
     exact ⟨rfl, rfl⟩
 · rw [decide_eq_false (fun h => h1 h.1)]
   obtain rfl : K = 0 := by omega
   go_enter Tryz.func117, Tryz.ntmps117
   go_wp2_with fail
   refine hN.out.mono ?_
   rintro e w' ⟨rfl, hww⟩; cases hww
   go_wp2
   go_ret
   exact ⟨rfl, rfl⟩
theorem zOd {s : ByteArray} (h : zB8 s.data.toList = true) : 0 < s.size := by
 have := zG2 ((zD0 _).1 h)
 rw [zAb]; exact this
theorem at0 (s : ByteArray) (h : 0 < s.size) (n : Nat) (hn : n < 256) : s.data.toList[0]? = some (UInt8.ofNat n) ↔ s[0].toNat = n := by
 rw [zDe s 0 h]
 simp only [Option.some.injEq]
 constructor
 · intro e; rw [e]; simp; omega
 · intro e; exact zEs e hn
theorem zPl (s : ByteArray) (w : World) (hs : s.size ≤ 9223372036854775807) :
 Calls Tryz.prog 120 #[.string s] w fun e w' => e = .returned (.tuple #[.string (str (zF3 s.data.toList).1), .bool (zF3 s.data.toList).2]) ∧ w' = w := by
 have hN := zA0 (zAy s w hs)
 unfold zF3
 by_cases h1 : zB8 s.data.toList = true
 · have h0 := zOd h1
   by_cases h2 : s[0].toNat = 91
   · rw [if_pos ⟨h1, (at0 s h0 91 (by omega)).2 h2⟩]
     rw [h1] at hN
     have b : ((s[0].toNat : Int) == 91) = true := by simp; omega
     have b' : ((s[0].toNat : Int) != 91) = false := by simp; omega
     have e := zHn s 1
     generalize str (List.drop 1 s.data.toList) = X at *
     clear h1
     go_enter Tryz.func120, Tryz.ntmps120
     go_wp2_with fail
     refine hN.out.mono ?_
     rintro e w' ⟨rfl, hww⟩; cases hww
     go_wp2
     go_ret2
     exact ⟨rfl, rfl⟩
   · rw [if_neg (fun h => h2 ((at0 s h0 91 (by omega)).1 h.2))]
     rw [h1] at hN
     have b : ((s[0].toNat : Int) == 91) = false := by simp; omega
     have b' : ((s[0].toNat : Int) != 91) = true := by simp; omega
     clear h1
     go_enter Tryz.func120, Tryz.ntmps120
     go_wp2_with fail
     refine hN.out.mono ?_
     rintro e w' ⟨rfl, hww⟩; cases hww
     go_wp2
     go_ret2
     exact ⟨rfl, rfl⟩
 · rw [if_neg (fun h => h1 h.1)]
   simp only [Bool.not_eq_true] at h1
   rw [h1] at hN
   clear h1
   go_enter Tryz.func120, Tryz.ntmps120
   go_wp2_with fail
   refine hN.out.mono ?_
   rintro e w' ⟨rfl, hww⟩; cases hww
   go_wp2
   go_ret2
   exact ⟨rfl, rfl⟩
end Go.Proofs.YtpehimfnkmepnaaGreat.Q.D
namespace Go.Proofs
open Go.Shelf
def Tryz.lays103_ren : Go.Shelf.Ren := ⟨fun | 103 => 125 | 210 => 154 | 206 => 119 | n => n, fun | 9 => 9 | 4 => 4 | 24 => 123 | 3 => 3 | n => n, fun | n => n⟩
theorem Tryz.lays103 : Go.Proofs.Lays.n103 Tryz.prog Tryz.lays103_ren := {
 mixed := by kernel_rfl
 f103 := Tryz.func125.trans (congrArg some (by kernel_rfl))
 f206 := Tryz.func119.trans (congrArg some (by kernel_rfl))
 f210 := Tryz.func154.trans (congrArg some (by kernel_rfl))
 t3 := Tryz.underlying3
 a3 := Tryz.isAgg3
 z3 := Tryz.sizeOf3
 v3 := Tryz.zeroValue3
 t4 := Tryz.underlying4
 a4 := Tryz.isAgg4
 z4 := Tryz.sizeOf4
 v4 := Tryz.zeroValue4
 t9 := Tryz.underlying9
 a9 := Tryz.isAgg9
 z9 := Tryz.sizeOf9
 v9 := Tryz.zeroValue9
 t24 := Tryz.underlying123
 a24 := Tryz.isAgg123
 z24 := Tryz.sizeOf123
 v24 := Tryz.zeroValue123 }
open Go.RowKit in
theorem Tryz.strings_CutPrefix (s p : ByteArray) (w : World) :
 Calls Tryz.prog 125 #[.string s, .string p] w fun e w' => e = .returned (.tuple #[.string ⟨(Lib.trimPrefix s.data.toList p.data.toList).toArray⟩, .bool (Lib.hasPrefix s.data.toList p.data.toList)]) ∧ w' = w := Any.strings_CutPrefix Tryz.lays103 s p w
def Tryz.lays99_ren : Go.Shelf.Ren := ⟨fun | 99 => 71 | 206 => 119 | n => n, fun | 9 => 9 | 4 => 4 | 3 => 3 | n => n, fun | n => n⟩
theorem Tryz.lays99 : Go.Proofs.Lays.n99 Tryz.prog Tryz.lays99_ren := {
 mixed := by kernel_rfl
 f99 := Tryz.func71.trans (congrArg some (by kernel_rfl))
 f206 := Tryz.func119.trans (congrArg some (by kernel_rfl))
 t3 := Tryz.underlying3
 a3 := Tryz.isAgg3
 z3 := Tryz.sizeOf3
 v3 := Tryz.zeroValue3
 t4 := Tryz.underlying4
 a4 := Tryz.isAgg4
 z4 := Tryz.sizeOf4
 v4 := Tryz.zeroValue4
 t9 := Tryz.underlying9
 a9 := Tryz.isAgg9
 z9 := Tryz.sizeOf9
 v9 := Tryz.zeroValue9 }
open Go.RowKit Go.Lib in
theorem Tryz.strings_HasPrefix (s p : ByteArray) (w : World) :
 Calls Tryz.prog 71 #[.string s, .string p] w fun e w' => e = .returned (.bool (Lib.hasPrefix s.data.toList p.data.toList)) ∧ w' = w := Any.strings_HasPrefix Tryz.lays99 s p w
end Go.Proofs
