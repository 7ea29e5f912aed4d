import Derived.Test.YtpehimfnkmepnaaGreatBz01
set_option maxRecDepth 8000
set_option maxHeartbeats 40000000
namespace Go.Proofs.YtpehimfnkmepnaaGreat.P3
open Go.RowKit
def idxO (c : CD) : List CD → Option Nat
 | [] => none
 | d :: l => if ceq c d = true then some 0 else (idxO c l).map (· + 1)
theorem zOc {c : CD} : ∀ {l : List CD} {k : Nat} {d : CD}, l[k]? = some d → ceq c d = true → (∀ x ∈ l.take k, ceq c x = false) → idxO c l = some k := by
 intro l
 induction l with
 | nil => intro k d h; simp at h
 | cons x l ih =>
   intro k d h he hn
   cases k with
   | zero => simp at h; subst h; simp [idxO, he]
   | succ k =>
     have hx := hn x (by simp)
     simp only [idxO, hx, Bool.false_eq_true, if_false]
     rw [ih (k := k) (d := d) (by simpa using h) he (fun y hy => hn y (by simp [hy]))]
     rfl
theorem zNm {c : CD} {l : List CD} (hn : ∀ x ∈ l, ceq c x = false) : idxO c l = none := by
 induction l with
 | nil => rfl
 | cons x l ih =>
   simp only [idxO, hn x (by simp), Bool.false_eq_true, if_false]
   rw [ih (fun y hy => hn y (by simp [hy]))]
   rfl
theorem zLn (w : World) (c : CD) : CAt (w.alloc (.cells #[.int .i64 c.kind, .int .i32 c.n, .string c.cls, .string c.nm, .string c.dsc] 112)) w.heap.size 0 c := by
 have h := heap_alloc_new w (.cells #[.int .i64 c.kind, .int .i32 c.n, .string c.cls, .string c.nm, .string c.dsc] 112)
 constructor
 all_goals rw [cell_of_row _ _ _ _ 112 (0, 0) h]; rfl
theorem zA5 {B : Nat} {w W : World} (h : Below B w W) (q : Nat) : Below B w (W.drewN q) := ⟨h.os, h.tape, h.output, h.size, h.block⟩
end Go.Proofs.YtpehimfnkmepnaaGreat.P3
namespace Go.Proofs.YtpehimfnkmepnaaGreat.P3.D
open Go.RowKit
def zMl (s : ByteArray) (k : Nat) : Prop := k ≤ s.size ∧ ∀ j, j < k → ∃ c, s.data.toList[j]? = some c ∧ okc j c = true
theorem zMl.more {s : ByteArray} {k : Nat} (h : zMl s k) (h1 : k < s.size) (h3 : okc k s[k] = true) : zMl s (k + 1) := by
 refine ⟨by omega, fun j hj => ?_⟩
 by_cases e : j = k
 · subst e; exact ⟨_, zDe s j h1, h3⟩
 · exact h.2 j (by omega)
theorem zRh {s : ByteArray} {k : Nat} (h1 : k < s.size) (h3 : okc k s[k] = false) : zB9 s.data.toList = false := by
 cases h : zB9 s.data.toList with
 | false => rfl
 | true =>
   have := ((zCm _).1 h).2.2 k _ (zDe s k h1)
   rw [h3] at this; cases this
theorem zMl.name {s : ByteArray} (h : zMl s s.size) (h1 : 1 ≤ s.size) (h2 : s.size ≤ 64) : zB9 s.data.toList = true := by
 rw [zCm]
 refine ⟨by rw [← zAb]; exact h1, by rw [← zAb]; exact h2, fun j c hj => ?_⟩
 obtain ⟨c', e1, e2⟩ := h.2 j (by rw [zAb]; exact (List.getElem?_eq_some_iff.1 hj).1)
 rw [e1] at hj; cases hj; exact e2
theorem zR6 {s : ByteArray} (h : ¬ (1 ≤ s.size ∧ s.size ≤ 64)) : zB9 s.data.toList = false := by
 cases h' : zB9 s.data.toList with
 | false => rfl
 | true =>
   have := (zCm _).1 h'
   rw [zAb] at h
   exact absurd ⟨this.1, this.2.1⟩ h
theorem zHs (s : ByteArray) (w : World) (hs : s.size ≤ 9223372036854775807) :
 Calls Tryz.prog 121 #[.string s] w fun e w' => e = .returned (.bool (zB9 s.data.toList)) ∧ w' = w := by
 go_enter Tryz.func121, Tryz.ntmps121
 go_wp2
 go_loop [3] (fun n => ∃ (k : Nat), n = .int .i64 (k : Int) ∧ k ≤ s.size ∧ Hid (zMl s k)) (fun i => s.size - (intOf i).toNat)
 case atStart =>
  exact ⟨0, rfl, by omega, ⟨by omega, fun j hj => by omega⟩⟩
 case round =>
  obtain ⟨k, rfl, hk, hsee⟩ := hrel
  by_cases h1 : k < s.size
  · have h1' : (k : Int) < (s.size : Int) := by omega
    go_wp2
    all_goals first
     | (refine ⟨⟨k + 1, by go_num, by omega, hsee.out.more h1 ((zHm _ _).2 (by simp_all; omega))⟩, by simp [intOf]; omega⟩)
     | (go_ret; refine ⟨zQh ?_, rfl⟩; rw [zRh h1 ((zLd _ _).2 (by simp_all; omega))])
     | (exfalso; simp_all; done)
     | (exfalso; simp_all; omega)
  · have h1' : ¬ (k : Int) < (s.size : Int) := by omega
    obtain rfl : k = s.size := by omega
    by_cases c1 : 1 ≤ s.size
    · have c1' : (1 : Int) ≤ (s.size : Int) := by omega
      by_cases c2 : s.size ≤ 64
      · have c2' : (s.size : Int) ≤ 64 := by omega
        have F := zA0 (hsee.out.name c1 c2)
        go_wp2
        go_ret
        exact ⟨by rw [F.out]; rfl, rfl⟩
      · have c2' : ¬ (s.size : Int) ≤ 64 := by omega
        have F := zA0 (zR6 (s := s) (by omega))
        go_wp2
        go_ret
        exact ⟨by rw [F.out]; rfl, rfl⟩
    · have c1' : ¬ (1 : Int) ≤ (s.size : Int) := by omega
      have F := zA0 (zR6 (s := s) (by omega))
      go_wp2
      go_ret
      exact ⟨by rw [F.out]; rfl, rfl⟩
def zI3 (s : ByteArray) (k : Nat) : Prop := ∀ j, 1 ≤ j → j < k → ∀ h : j < s.size, s[j].toNat ≠ 59
theorem zI3.more {s : ByteArray} {k : Nat} (h : zI3 s k) (hk : k < s.size) (h1 : s[k].toNat ≠ 59) : zI3 s (k + 1) := by
 intro j h2 h3 h4
 by_cases e : j = k
 · subst e; exact h1
 · exact h j h2 (by omega) h4
theorem zNx (s : ByteArray) (k : Nat) (h0 : 0 < s.size) (hc : s[0].toNat = 76) (hn : zI3 s k) (hk1 : 1 ≤ k) (hk : k < s.size) (h59 : s[k].toNat = 59) :
 base s.data.toList = if zB9 (s.extract 1 k).data.toList = true then k + 1 else 0 := by
 have e0 := zK0 s 0 h0 hc
 rw [List.drop_zero, show (0 + 1 : Nat) = 1 from rfl] at e0
 have et : (s.extract 1 s.size).data.toList = (s.extract 1 k).data.toList ++ 59 :: s.data.toList.drop (k + 1) := by
  rw [zBk, Lib.extract_data]
  have e1 : s.data.toList.drop k = 59 :: s.data.toList.drop (k + 1) := by rw [zC2 s k hk, zEs h59 (by omega)]; rfl
  rw [← e1]
  conv => lhs; rw [← List.take_append_drop (k - 1) (s.data.toList.drop 1)]
  rw [List.drop_drop, show 1 + (k - 1) = k by omega]
 by_cases hN : zB9 (s.extract 1 k).data.toList = true
 · rw [if_pos hN]
   have hN' := (zCm _).1 hN
   have e2 := zJd (rest := s.data.toList.drop (k + 1)) hN'
   rw [← et] at e2
   have e3 : (s.extract 1 k).data.toList.length = k - 1 := by
    rw [Lib.extract_data, List.length_take, List.length_drop, ← zAb]; omega
   rw [e0, e2, e3, if_pos]
   · omega
   · refine ⟨by have := hN'.1; omega, ?_⟩
     rw [zEl s 1 (k - 1) (by omega)]
     have : 1 + (k - 1) = k := by omega
     simp only [this]; exact h59
 · rw [if_neg hN, e0, if_neg]
   rintro ⟨h1, h2⟩
   apply hN
   rw [zCm]
   have hlt : nl (s.extract 1 s.size).data.toList < (s.data.toList.drop 1).length := by
    rcases Nat.lt_or_ge (nl (s.extract 1 s.size).data.toList) (s.data.toList.drop 1).length with h | h
    · exact h
    · rw [List.getElem?_eq_none h] at h2; cases h2
   rw [List.length_drop, ← zAb] at hlt
   have h3 := (zEl s 1 _ (by omega)).1 h2
   have h4 := zDw h1
   obtain ⟨K, hK⟩ : ∃ K, nl (s.extract 1 s.size).data.toList = K := ⟨_, rfl⟩
   simp only [hK] at h3 h4 hlt h1
   have hKk : 1 + K = k := by
    rcases Nat.lt_trichotomy (1 + K) k with h | h | h
    · exact absurd h3 (hn (1 + K) (by omega) h (by omega))
    · exact h
    · exfalso
      have := zQr (l := (s.extract 1 s.size).data.toList) (j := k - 1) (by omega)
      obtain ⟨c, h5, h6⟩ := this
      rw [zBk, List.getElem?_drop, show 1 + (k - 1) = k by omega, zDe s k hk] at h5
      cases h5
      rw [zEs h59 (by omega)] at h6
      exact absurd h6 (by rw [show UInt8.ofNat 59 = 59 from rfl, zGo]; simp)
   rw [zBk] at h4
   rw [Lib.extract_data, show k - 1 = K by omega]
   exact h4
theorem zL2 (s : ByteArray) (h0 : 0 < s.size) (hc : s[0].toNat = 76) (hn : zI3 s s.size) : base s.data.toList = 0 := by
 have e0 := zK0 s 0 h0 hc
 rw [List.drop_zero, show (0 + 1 : Nat) = 1 from rfl] at e0
 rw [e0, if_neg]
 rintro ⟨h1, h2⟩
 have hlt : nl (s.extract 1 s.size).data.toList < (s.data.toList.drop 1).length := by
  rcases Nat.lt_or_ge (nl (s.extract 1 s.size).data.toList) (s.data.toList.drop 1).length with h | h
  · exact h
  · rw [List.getElem?_eq_none h] at h2; cases h2
 rw [List.length_drop, ← zAb] at hlt
 exact hn _ (by omega) (by omega) (by omega) ((zEl s 1 _ (by omega)).1 h2)
theorem zLg (s : ByteArray) (w : World) (hs : s.size ≤ 9223372036854775807) (h0 : 0 < s.size) (hc : s[0].toNat ≠ 91) :
 Calls Tryz.prog 128 #[.string s] w fun e w' => e = .returned (.int .i64 (base s.data.toList)) ∧ w' = w := by
 have e2 := zBz s h0
 have b0 : ((s[0].toNat : Int) == 91) = false := by simp; omega
 by_cases c1 : s[0].toNat = 73
 · have e := zLi s 0 h0 c1
   rw [List.drop_zero] at e
   rw [e]
   have b1 : ((s[0].toNat : Int) == 73) = true := by simp; omega
   go_enter Tryz.func128, Tryz.ntmps128
   go_wp2
   go_ret
   exact ⟨rfl, rfl⟩
 · have b1 : ((s[0].toNat : Int) == 73) = false := by simp; omega
   by_cases c2 : s[0].toNat = 76
   · have b2 : ((s[0].toNat : Int) == 76) = true := by simp; omega
     go_enter Tryz.func128, Tryz.ntmps128
     go_wp2
     go_loop [4] (fun n => ∃ (k : Nat), n = .int .i64 (k : Int) ∧ 1 ≤ k ∧ k ≤ s.size ∧ Hid (zI3 s k)) (fun i => s.size - (intOf i).toNat)
     case atStart =>
      exact ⟨1, rfl, by omega, by omega, fun j h1 h2 => by omega⟩
     case round =>
      obtain ⟨k, rfl, hk1, hk, hns⟩ := hrel
      by_cases h1 : k < s.size
      · have h1' : (k : Int) < (s.size : Int) := by omega
        by_cases h2 : s[k].toNat = 59
        · have b3 : ((s[k].toNat : Int) == 59) = true := by simp; omega
          have F := zA0 (zNx s k h0 c2 hns.out hk1 h1 h2)
          have hN := zA0 (zHs (s.extract 1 k) w (by rw [zAb, Lib.extract_data, List.length_take, List.length_drop, ← zAb]; omega))
          by_cases h3 : zB9 (s.extract 1 k).data.toList = true
          · rw [h3] at hN F
            clear h3
            go_wp2_with fail
            refine hN.out.mono ?_
            rintro e w' ⟨rfl, hww⟩; cases hww
            go_wp2
            go_ret
            exact ⟨zC4 (by rw [F.out]; simp), rfl⟩
          · simp only [Bool.not_eq_true] at h3
            rw [h3] at hN F
            clear h3
            go_wp2_with fail
            refine hN.out.mono ?_
            rintro e w' ⟨rfl, hww⟩; cases hww
            go_wp2
            go_ret
            exact ⟨zC4 (by rw [F.out]; simp), rfl⟩
        · have b3 : ((s[k].toNat : Int) == 59) = false := by simp; omega
          go_wp2
          exact ⟨⟨k + 1, by go_num, by omega, by omega, hns.out.more h1 h2⟩, by simp [intOf]; omega⟩
      · have h1' : ¬ (k : Int) < (s.size : Int) := by omega
        obtain rfl : k = s.size := by omega
        have F := zA0 (zL2 s h0 c2 hns.out)
        go_wp2
        go_ret
        exact ⟨by rw [F.out]; rfl, rfl⟩
   · have e := zIz s 0 h0 c1 c2
     rw [List.drop_zero] at e
     rw [e]
     have b2 : ((s[0].toNat : Int) == 76) = false := by simp; omega
     go_enter Tryz.func128, Tryz.ntmps128
     go_wp2
     go_ret
     exact ⟨rfl, rfl⟩
theorem zP2 (t : Bs) : base (91 :: t) = 0 := by simp [base]
theorem zFb (s : ByteArray) (w : World) (hs : s.size ≤ 9223372036854775807) :
 Calls Tryz.prog 128 #[.string s] w fun e w' => e = .returned (.int .i64 (flen s.data.toList)) ∧ w' = w := by
 by_cases h : s.size = 0
 · have e1 : s.data.toList = [] := List.eq_nil_of_length_eq_zero (by rw [← zAb]; exact h)
   have e2 : s.toList = [] := by rw [Lib.toList_data]; exact e1
   rw [e1]
   clear e1
   go_enter Tryz.func128, Tryz.ntmps128
   go_wp2
   go_ret
   exact ⟨rfl, rfl⟩
 · have h0 : 0 < s.size := by omega
   by_cases hc : s[0].toNat = 91
   · have e2 := zBz s h0
     have b0 : ((s[0].toNat : Int) == 91) = true := by simp; omega
     have b1 : ((s[0].toNat : Int) == 73) = false := by simp; omega
     rw [zFp s h0 hc]
     by_cases h1 : s.size = 1
     · rw [zIr s 1 (by omega), if_pos rfl]
       have h1' : ¬ (1 : Int) < (s.size : Int) := by omega
       go_enter Tryz.func128, Tryz.ntmps128
       go_wp2
       go_ret
       exact ⟨rfl, rfl⟩
     · have h1' : (1 : Int) < (s.size : Int) := by omega
       have h1n : 1 < s.size := by omega
       by_cases hd : s[1].toNat = 91
       · have b2 : ((s[1].toNat : Int) == 91) = true := by simp; omega
         have b2' : ((s[1].toNat : Int) != 91) = false := by simp; omega
         rw [zC2 s 1 h1n, zEs hd (by omega), show UInt8.ofNat 91 = 91 from rfl, zP2, if_pos rfl]
         go_enter Tryz.func128, Tryz.ntmps128
         go_wp2
         go_ret
         exact ⟨rfl, rfl⟩
       · have b2 : ((s[1].toNat : Int) == 91) = false := by simp; omega
         have b2' : ((s[1].toNat : Int) != 91) = true := by simp; omega
         have z : (s.extract 1 s.size).size = s.size - 1 := by rw [zAb, zBk, List.length_drop, ← zAb]
         have hO := zA0 (zLg (s.extract 1 s.size) w (by omega) (by omega) (by
          have e := zC2 s 1 h1n
          have e' := zDe (s.extract 1 s.size) 0 (by omega)
          rw [zBk, e] at e'
          simp at e'
          rw [← e']; exact hd))
         rw [zBk] at hO
         have hb := (zJf (s.data.toList)).2
         rw [zFp s h0 hc] at hb
         generalize base (s.data.toList.drop 1) = K at *
         by_cases hK : K = 0
         · subst hK
           rw [if_pos rfl]
           go_enter Tryz.func128, Tryz.ntmps128
           go_wp2_with fail
           refine hO.out.mono ?_
           rintro e w' ⟨rfl, hww⟩; cases hww
           go_wp2
           go_ret
           exact ⟨rfl, rfl⟩
         · rw [if_neg hK] at hb ⊢
           have hK' : (0 : Int) < (K : Int) := by omega
           go_enter Tryz.func128, Tryz.ntmps128
           go_wp2_with fail
           refine hO.out.mono ?_
           rintro e w' ⟨rfl, hww⟩; cases hww
           go_wp2
           go_ret
           exact ⟨zC4 (by omega), rfl⟩
   · rw [zKd s h0 hc, List.drop_zero]
     exact zLg s w hs h0 hc
theorem zG0 (s : ByteArray) (w : World) (hs : s.size ≤ 9223372036854775807) :
 Calls Tryz.prog 118 #[.string s] w fun e w' => e = .returned (.bool (zB8 s.data.toList)) ∧ w' = w := by
 have hN := zA0 (zFb s w hs)
 by_cases h0 : s.size = 0
 · have e1 : s.data.toList = [] := List.eq_nil_of_length_eq_zero (by rw [← zAb]; exact h0)
   have e2 : s.toList = [] := by rw [Lib.toList_data]; exact e1
   rw [e1, show zB8 [] = false from rfl]
   clear e1 hN
   go_enter Tryz.func118, Tryz.ntmps118
   go_wp2
   go_ret
   exact ⟨rfl, rfl⟩
 · have e2 := zBz s (by omega)
   unfold zB8
   rw [← zAb]
   generalize flen s.data.toList = K at *
   by_cases h2 : K = s.size
   · rw [decide_eq_true ⟨by omega, h2⟩]
     have b : ((K : Int) == (s.size : Int)) = true := by simp; omega
     go_enter Tryz.func118, Tryz.ntmps118
     go_wp2_with fail
     refine hN.out.mono ?_
     rintro e w' ⟨rfl, hww⟩; cases hww
     go_wp2
     go_ret
     exact ⟨rfl, rfl⟩
   · rw [decide_eq_false (fun h => h2 h.2)]
     have b : ((K : Int) == (s.size : Int)) = false := by simp; omega
     go_enter Tryz.func118, Tryz.ntmps118
     go_wp2_with fail
     refine hN.out.mono ?_
     rintro e w' ⟨rfl, hww⟩; cases hww
     go_wp2
     go_ret
     exact ⟨rfl, rfl⟩
theorem str_ne {s : ByteArray} {l : Bs} (h : s.data.toList ≠ l) : (s.toList == l) = false := by
 rw [Lib.toList_data]; simpa using h
theorem zL7 {ps qs : List Bs} {a b : Bs} (hp : ∀ p ∈ ps, Fld p) (hq : ∀ p ∈ qs, Fld p) (ha : flen a = 0) (hb : flen b = 0) (h : ps.flatten ++ a = qs.flatten ++ b) : ps = qs ∧ a = b := by
 have h1 := zD6 (max ps.length qs.length) ps a hp (Nat.le_max_left _ _) (.inr ha)
 have h2 := zD6 (max ps.length qs.length) qs b hq (Nat.le_max_right _ _) (.inr hb)
 rw [h, h2] at h1
 simp only [Prod.mk.injEq] at h1
 exact ⟨h1.1.symm, h1.2.symm⟩
theorem zIp {l : Bs} {ps : List Bs} {rest : Bs} (he : l = 40 :: (ps.flatten ++ rest)) (hp : ∀ p ∈ ps, Fld p) (h0 : flen rest = 0)
 (h : ∀ r, rest = 41 :: r → ps.length ≤ 8 → (r = [86] ∨ Fld r) → False) : meth l = none := by
 cases hm : meth l with
 | none => rfl
 | some x =>
   exfalso
   obtain ⟨qs, r⟩ := x
   obtain ⟨h1, h2, h3, h4⟩ := zGv hm
   rw [he] at h1
   simp only [List.cons.injEq, true_and] at h1
   obtain ⟨rfl, e⟩ := zL7 hp h2 h0 (zCy r) h1
   exact h r e h3 h4
theorem zPh : flen [] = 0 := rfl
theorem zKi (s : ByteArray) (w : World) (h : s.size = 0 ∨ ∃ h : 0 < s.size, s[0].toNat ≠ 40) :
 Calls Tryz.prog 87 #[.string s] w fun e w' => e = .returned (.tuple #[.slice none 0 0, .string ⟨#[]⟩, .bool false]) ∧ w' = w := by
 rcases h with h | ⟨h0, h⟩
 · have e1 : s.data.toList = [] := List.eq_nil_of_length_eq_zero (by rw [← zAb]; exact h)
   have e2 : s.toList = [] := by rw [Lib.toList_data]; exact e1
   clear e1
   go_enter Tryz.func87, Tryz.ntmps87
   go_wp2
   go_ret3
   exact ⟨rfl, rfl⟩
 · have e2 := zBz s h0
   have b : ((s[0].toNat : Int) == 40) = false := by simp; omega
   have b' : ((s[0].toNat : Int) != 40) = true := by simp; omega
   go_enter Tryz.func87, Tryz.ntmps87
   go_wp2
   go_ret3
   exact ⟨rfl, rfl⟩
def zR9 : Value → Nat
 | .string s => s.size
 | _ => 0
theorem zJj (s : ByteArray) (w : World) (t : Bs) (hs : s.size ≤ 1073741824) (h : s.data.toList = 40 :: t) :
 Calls Tryz.prog 87 #[.string s] w fun e w' => Below w.heap.size w w' ∧ zF8 s.data.toList w.heap.size e w' := by
 obtain ⟨i0, hi, hz0, hz1, hz2⟩ := info_parts Tryz.info9
 have h0 : 0 < s.size := by rw [zAb, h]; simp
 have hc : s[0].toNat = 40 := by
  have := zDe s 0 h0
  rw [h] at this; simp at this; rw [← this]; rfl
 have e2 := zBz s h0
 have b : ((s[0].toNat : Int) == 40) = true := by simp; omega
 have b' : ((s[0].toNat : Int) != 40) = false := by simp; omega
 have he := zHn s 1
 rw [h, show List.drop 1 (40 :: t) = t from rfl] at he
 have ht : t.length + 1 = s.size := by rw [zAb, h]; simp
 have hl := zA0 h
 generalize s.data.toList = l at *
 clear h
 have hT : (str t).data.toList = t := rfl
 have hTs : (str t).size + 1 = s.size := by rw [zFj]; exact ht
 generalize str t = T at *
 go_enter Tryz.func87, Tryz.ntmps87
 go_wp2
 go_loopw [0, 5] (fun sv ov wr => ∃ (ps : List Bs) (S : ByteArray), sv = .string S ∧ wr.ownsRow w.heap.size 9 1 ov ps.length (zE5 ps) ∧ Below w.heap.size w wr ∧ ps.length + S.size ≤ 1073741824 ∧ Took t ps S) (fun sv _ _ => zR9 sv)
 case atStart =>
  exact ⟨[], T, rfl, ⟨rfl, .inl ⟨rfl, rfl⟩⟩, Below.refl _ _, by simp; omega, ⟨hT.symm, by simp⟩⟩
 case round =>
  obtain ⟨ps, S, rfl, hown, hbw, hps, htk⟩ := hrel
  have hsz := hbw.size
  have HT := zA0 htk
  clear htk e2 b b' he hc
  obtain ⟨ao, cap, rfl⟩ := zA4 hown
  by_cases hS0 : S.size = 0
  · have e1 : S.data.toList = [] := List.eq_nil_of_length_eq_zero (by rw [← zAb]; exact hS0)
    have e2 : S.toList = [] := by rw [Lib.toList_data]; exact e1
    have FIN : Hid (meth l = none) := zIp (rest := []) (by rw [hl.out, HT.out.eq, e1]) HT.out.fld zPh (fun r hr => by cases hr)
    clear e1
    go_wp2
    go_ret3
    exact ⟨hbw, .inr ⟨FIN.out, rfl⟩⟩
  · have hS1 : 0 < S.size := by omega
    have e2 := zBz S hS1
    by_cases hcl : S[0].toNat = 41
    · have b : ((S[0].toNat : Int) == 41) = true := by simp; omega
      have b' : ((S[0].toNat : Int) != 41) = false := by simp; omega
      have eS : S.data.toList = 41 :: S.data.toList.drop 1 := by
       have e := zC2 S 0 hS1
       rw [List.drop_zero, zEs hcl (by omega)] at e
       exact e
      have he := zHn S 1
      have HEQ : Hid (l = 40 :: (ps.flatten ++ 41 :: S.data.toList.drop 1)) := by
       show _ = _
       rw [hl.out, HT.out.eq]; conv => lhs; rw [eS]
      have hR : (str (List.drop 1 S.data.toList)).size ≤ 1073741824 := by rw [zFj, List.length_drop, ← zAb]; omega
      have hRF := fun w => zA0 (zG0 (str (List.drop 1 S.data.toList)) w (by omega))
      rw [zCp] at hRF
      have HF := zA0 HT.out.fld
      clear HT eS
      have hRd : (str (List.drop 1 S.data.toList)).data.toList = List.drop 1 S.data.toList := rfl
      generalize List.drop 1 S.data.toList = r at *
      by_cases h8 : ps.length ≤ 8
      · have h8' : ¬ (8 : Int) < (ps.length : Int) := by omega
        by_cases hV : r = [86]
        · subst hV
          have FIN : Hid (meth l = some (ps, [86])) := zHf ⟨HEQ.out, HF.out, h8, .inl rfl⟩
          have hne : (str [86]).toList = [86] := by rw [Lib.toList_data]; rfl
          go_wp2
          go_quiet (fail)
          go_wp2
          go_ret3
          exact ⟨⟨hbw.os, hbw.tape, hbw.output, hbw.size, hbw.block⟩, .inl ⟨_, _, _, FIN.out, rfl, hown⟩⟩
        · have hne' : ((str r).toList == [86]) = false := str_ne hV
          have hne2 : ((str r).toList != [86]) = true := by simpa using hne'
          by_cases hf : zB8 r = true
          · have FIN : Hid (meth l = some (ps, r)) := zHf ⟨HEQ.out, HF.out, h8, .inr ((zD0 _).1 hf)⟩
            rw [hf] at hRF
            clear hf hV
            go_wp2_with fail
            refine (hRF _).out.mono ?_
            rintro e w' ⟨rfl, hww⟩; cases hww
            go_wp2
            go_quiet (fail)
            go_wp2
            go_ret3
            exact ⟨⟨hbw.os, hbw.tape, hbw.output, hbw.size, hbw.block⟩, .inl ⟨_, _, _, FIN.out, rfl, hown⟩⟩
          · have FIN : Hid (meth l = none) := zIp HEQ.out HF.out (zCy r) (fun r' hr _ hx => by
             simp only [List.cons.injEq, true_and] at hr
             subst hr
             rcases hx with hx | hx
             · exact hV hx
             · exact hf ((zD0 _).2 hx))
            simp only [Bool.not_eq_true] at hf
            rw [hf] at hRF
            clear hf hV
            go_wp2_with fail
            refine (hRF _).out.mono ?_
            rintro e w' ⟨rfl, hww⟩; cases hww
            go_wp2
            go_ret3
            exact ⟨hbw, .inr ⟨FIN.out, rfl⟩⟩
      · have h8' : (8 : Int) < (ps.length : Int) := by omega
        have FIN : Hid (meth l = none) := zIp HEQ.out HF.out (zCy r) (fun r' hr h _ => h8 h)
        go_wp2
        go_ret3
        exact ⟨hbw, .inr ⟨FIN.out, rfl⟩⟩
    · have b : ((S[0].toNat : Int) == 41) = false := by simp; omega
      have b' : ((S[0].toNat : Int) != 41) = true := by simp; omega
      have hN := zA0 (zFb S wr (by omega))
      have hle := zJf S.data.toList
      rw [← zAb] at hle
      by_cases hK : flen S.data.toList = 0
      · have FIN : Hid (meth l = none) := zIp (by rw [hl.out, HT.out.eq]) HT.out.fld hK (fun r hr _ _ => by
         apply hcl
         have := zDe S 0 hS1
         rw [hr] at this
         simp at this
         rw [← this]; rfl)
        rw [hK] at hN
        clear hK hle
        go_wp2_with fail
        refine hN.out.mono ?_
        rintro e w' ⟨rfl, hww⟩; cases hww
        go_wp2
        go_ret3
        exact ⟨hbw, .inr ⟨FIN.out, rfl⟩⟩
      · have HM := zA0 (HT.out.more hK)
        have e1 := zKm S 0 (flen S.data.toList)
        rw [Nat.sub_zero, List.drop_zero] at e1
        generalize flen S.data.toList = K at *
        have hK0 : ((K : Int) == 0) = false := by simp; omega
        obtain ⟨hK1, hK2⟩ := hle
        go_wp2_with fail
        refine hN.out.mono ?_
        rintro e w' ⟨rfl, hww⟩; cases hww
        go_wp2_with (at_builtin; refine wpList_append_own_at _ rfl _ _ 47 rfl w.heap.size 9 i0 (.string ⟨#[]⟩) 1 16 Tryz.underlying47 hi hz0 hz1 hz2 rfl (by decide) _ _ _ rfl (hown.alloc _) _ 1 1 [.string (str (List.take K S.data.toList))] rfl rfl ?c1 ?c2 ?c3 ?c4 ?c5 ?_)
        case c1 =>
         intro j u hj
         match j, hj with
         | 0, hj => simp at hj; subst hj; simp [Addr.add]
         | (j + 1), hj => simp at hj
        case c2 => intro u hu; simp at hu; rcases hu with rfl; rfl
        case c3 => unfold maxLen; omega
        case c4 => omega
        case c5 => simp; omega
        intro v' w2 hown' hgrow _ hat
        go_wp2
        obtain ⟨ao', cap', rfl⟩ := zA4 hown'
        have hz : (S.extract K S.size).size = S.size - K := by rw [zAb, zBk, List.length_drop, ← zAb]
        refine ⟨⟨ps ++ [List.take K S.data.toList], _, rfl, ?_, ?_, ?_, HM.out⟩, ?_⟩
        · rw [zF0, List.length_append]; exact hown'
        · exact (hbw.alloc hsz _).grown hgrow (by simp; omega) (fun k hk => (hown.lt k hk).1)
        · simp; omega
        · simp only [zR9]; omega
theorem zKe (s : ByteArray) (w : World) (hs : s.size ≤ 1073741824) :
 Calls Tryz.prog 87 #[.string s] w fun e w' => Below w.heap.size w w' ∧ zF8 s.data.toList w.heap.size e w' := by
 have no : meth s.data.toList = none → (s.size = 0 ∨ ∃ h : 0 < s.size, s[0].toNat ≠ 40) → Calls Tryz.prog 87 #[.string s] w fun e w' => Below w.heap.size w w' ∧ zF8 s.data.toList w.heap.size e w' :=
  fun h1 h2 => (zKi s w h2).mono fun e w' ⟨he, hw⟩ => by cases hw; exact ⟨Below.refl _ _, .inr ⟨h1, he⟩⟩
 match h : s.data.toList with
 | [] =>
   rw [h] at no
   exact no rfl (.inl (by rw [zAb, h]; rfl))
 | c :: t =>
   by_cases hc : c = 40
   · subst hc; rw [← h]; exact zJj s w t hs h
   · have h0 : 0 < s.size := by rw [zAb, h]; simp
     have := zDe s 0 h0
     rw [h] at no this
     simp at this
     refine no (by unfold meth; simp only; rw [if_neg hc]) (.inr ⟨h0, ?_⟩)
     rw [← this]
     intro e
     exact hc (zEs (n := 40) e (by decide))
end Go.Proofs.YtpehimfnkmepnaaGreat.P3.D
