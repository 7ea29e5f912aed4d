import Derived.Test.YtpehimfnkmepnaaGreatBx15
set_option maxRecDepth 8000
set_option maxHeartbeats 40000000
namespace Go.Proofs.YtpehimfnkmepnaaGreat.Q.D
open Go.RowKit
theorem zBf (s : ByteArray) (w : World) (hs : s.size ≤ 9223372036854775807) :
 Calls Tryz.prog 116 #[.string s] w fun e w' => e = .returned (.string (str (zFu s.data.toList))) ∧ w' = w := by
 have hN := zA0 (zB3 s w hs)
 unfold zFu
 by_cases h1 : zAp s.data.toList = true
 · have h0 := zGt h1
   rw [if_pos h1]
   rw [h1] at hN
   by_cases h2 : s[0].toNat = 76
   · rw [if_pos (show s.data.toList[0]? = some 76 from (at0 s h0 76 (by omega)).2 h2)]
     have b : ((s[0].toNat : Int) == 76) = true := by simp; omega
     have h3 : 2 ≤ s.size := by
      rcases Nat.lt_or_ge s.size 2 with h | h
      · exfalso
        have hl : s.data.toList = [76] := by
         have e := zCd s 0 h0
         rw [List.drop_zero, List.drop_eq_nil_of_le (by rw [← zA7]; omega), zFt h2 (by omega)] at e
         exact e
        rw [hl] at h1
        exact absurd h1 (by decide)
      · exact h
     have e := zKh s 1 (s.size - 1)
     rw [show s.size - 1 - 1 = s.data.toList.length - 2 by rw [← zA7]; omega] at e
     generalize str (List.take (s.data.toList.length - 2) (List.drop 1 s.data.toList)) = X at *
     clear h1
     go_enter Tryz.func116, Tryz.ntmps116
     go_wp2_with fail
     refine hN.out.mono ?_
     rintro e w' ⟨rfl, hww⟩; cases hww
     go_wp2
     go_ret
     exact ⟨rfl, rfl⟩
   · rw [if_neg (show ¬ s.data.toList[0]? = some 76 from fun h => h2 ((at0 s h0 76 (by omega)).1 h))]
     have b : ((s[0].toNat : Int) == 76) = false := by simp; omega
     by_cases h3 : s[0].toNat = 91
     · rw [if_pos (show s.data.toList[0]? = some 91 from (at0 s h0 91 (by omega)).2 h3)]
       have b2 : ((s[0].toNat : Int) == 91) = true := by simp; omega
       clear h1
       go_enter Tryz.func116, Tryz.ntmps116
       go_wp2_with fail
       refine hN.out.mono ?_
       rintro e w' ⟨rfl, hww⟩; cases hww
       go_wp2
       go_ret
       exact ⟨rfl, rfl⟩
     · rw [if_neg (show ¬ s.data.toList[0]? = some 91 from fun h => h3 ((at0 s h0 91 (by omega)).1 h))]
       have b2 : ((s[0].toNat : Int) == 91) = false := by simp; omega
       clear h1
       go_enter Tryz.func116, Tryz.ntmps116
       go_wp2_with fail
       refine hN.out.mono ?_
       rintro e w' ⟨rfl, hww⟩; cases hww
       go_wp2
       go_ret
       exact ⟨rfl, rfl⟩
 · rw [if_neg h1]
   simp only [Bool.not_eq_true] at h1
   rw [h1] at hN
   clear h1
   go_enter Tryz.func116, Tryz.ntmps116
   go_wp2_with fail
   refine hN.out.mono ?_
   rintro e w' ⟨rfl, hww⟩; cases hww
   go_wp2
   go_ret
   exact ⟨rfl, rfl⟩
theorem zQv (s : ByteArray) (w : World) (hs : s.size ≤ 1073741824) :
 Calls Tryz.prog 75 #[.string s] w fun e w' => e = .returned (.string (str (76 :: (s.data.toList ++ [59])))) ∧ w' = w := by
 go_enter Tryz.func75, Tryz.ntmps75
 go_wp2
 go_ret
 refine ⟨?_, rfl⟩
 rw [← zSc (s := { data := #[76] } ++ s ++ { data := #[59] }) (by rw [zH9, zH9]; simp)]
 rfl
end Go.Proofs.YtpehimfnkmepnaaGreat.Q.D
namespace Go.Proofs.YtpehimfnkmepnaaGreat.T
open Go.RowKit Q Q.D K
def eS (s : ByteArray) : ByteArray := str (zEr (bsB s)).1
def cS (s : ByteArray) : ByteArray := if bsB (eS s) == [] then str (zFu (bsB s)) else str (zFu (bsB (eS s)))
theorem zGg (s : ByteArray) : (eS s).size ≤ s.size := by
 unfold eS zEr
 rw [zDk, zA7]
 split
 · simp
 · simp
def ksub (R : List KD) (a b : ByteArray) : Bool := (klin R a).any fun k => bsB k.nm == bsB b
theorem any_map {α β : Type} (f : α → β) (p : β → Bool) (l : List α) : (l.map f).any p = l.any (fun x => p (f x)) := by rw [List.any_map]; rfl
theorem zNf (R : List Mem) (a b : ByteArray) : subB R a b = ksub (R.map Mem.k) a b := by
 unfold subB ksub
 rw [← zM7, any_map]
 congr 1
 funext m
 rw [Lib.toList_data, Lib.toList_data]
def zGp (s : ByteArray) : Bool := (bsB s == [63]) || ((bsB s == [48]) || zAp (bsB s))
theorem zUx (s : ByteArray) : zCy s = zGp s := by unfold zCy zGp; rw [Lib.toList_data]
def zE2 (s : ByteArray) : Bool := (bsB s == [48]) || ((Lib.hasPrefix (bsB s) [76] || Lib.hasPrefix (bsB s) [91]) && zGp s)
def zC5 (R : List KD) (s : ByteArray) : Bool := zGp s && ((bsB (cS s) == []) || ksub R (cS s) (cS s))
def zD2 (a b : ByteArray) (p : Bs) : Bool := Lib.hasPrefix (bsB a) p && Lib.hasPrefix (bsB b) p
def objL : Bs := [76, 79, 98, 106, 101, 99, 116, 59]
def zF2 (R : List KD) : Nat → ByteArray → ByteArray → Bool
 | 0, _, _ => false
 | n + 1, a, b => if (bsB b == [63]) || (bsB a == bsB b) then true else if bsB a == [48] then zE2 b else if zD2 a b [76] then ksub R (cS a) (cS b) else if Lib.hasPrefix (bsB a) [91] && (bsB b == objL) then true else if zD2 a b [91, 76] then zF2 R n (eS a) (eS b) else false
def zP9 (R : List KD) (a b : ByteArray) : Bool := zC5 R a && (zC5 R b && zF2 R 2 a b)
def zHz (R : List KD) (a b : ByteArray) : ByteArray := match (klin R a).find? (fun k => ksub R b k.nm) with | some k => k.nm | none => zAc
def refS (s : ByteArray) : ByteArray := str (76 :: (bsB s ++ [59]))
def zLp (R : List KD) : Nat → ByteArray → ByteArray → ByteArray
 | 0, _, _ => ⟨#[]⟩
 | n + 1, a, b => if (zC5 R a && zC5 R b) = false then ⟨#[63]⟩ else if zF2 R 2 b a then a else if zF2 R 2 a b then b else if zD2 a b [76] then refS (zHz R (cS a) (cS b)) else if zD2 a b [91, 76] then ⟨#[91]⟩ ++ zLp R n (eS a) (eS b) else if zE2 a && zE2 b then str objL else ⟨#[63]⟩
def zUd (R : List KD) (a b : ByteArray) : ByteArray := zLp R 2 a b
theorem zLv (s : ByteArray) (w : World) (hs : s.size ≤ 9223372036854775807) : Calls Tryz.prog 77 #[.string s] w fun e w' => e = .returned (.string (eS s)) ∧ w' = w := by
 have hE := D.zA0 (zO5 s w hs)
 unfold eS
 go_enter Tryz.func77, Tryz.ntmps77
 go_wp2_with (go_at_call 120; refine hE.out.mono ?_; rintro e w' ⟨rfl, hww⟩; cases hww)
 go_ret
 exact ⟨rfl, rfl⟩
theorem zIl (s : ByteArray) (w : World) (hs : s.size ≤ 9223372036854775807) : Calls Tryz.prog 64 #[.string s] w fun e w' => e = .returned (.string (cS s)) ∧ w' = w := by
 have hE := D.zA0 (zLv s w hs)
 have hz := zGg s
 have t1 : ((eS s).toList == []) = (bsB (eS s) == []) := by rw [Lib.toList_data]
 have t2 : ((eS s).toList != []) = !(bsB (eS s) == []) := by rw [← t1]; rfl
 unfold cS
 generalize eS s = E at *
 have hC1 := D.zA0 (zBf s w hs)
 have hC2 := D.zA0 (zBf E w (by omega))
 cases h : bsB E == []
 · rw [h] at t1 t2
   go_enter Tryz.func64, Tryz.ntmps64
   go_wp2_with (first | (go_at_call 77; refine hE.out.mono ?_; rintro e w' ⟨rfl, hww⟩; cases hww) | (go_at_call 116; refine hC2.out.mono ?_; rintro e w' ⟨rfl, hww⟩; cases hww))
   go_ret
   exact ⟨rfl, rfl⟩
 · rw [h] at t1 t2
   go_enter Tryz.func64, Tryz.ntmps64
   go_wp2_with (first | (go_at_call 77; refine hE.out.mono ?_; rintro e w' ⟨rfl, hww⟩; cases hww) | (go_at_call 116; refine hC1.out.mono ?_; rintro e w' ⟨rfl, hww⟩; cases hww))
   go_ret
   exact ⟨rfl, rfl⟩
theorem zP6 (a b p : ByteArray) (w : World) : Calls Tryz.prog 74 #[.string a, .string b, .string p] w fun e w' => e = .returned (.bool (zD2 a b (bsB p))) ∧ w' = w := by
 have h1 := D.zA0 (Tryz.strings_HasPrefix a p w)
 have h2 := D.zA0 (Tryz.strings_HasPrefix b p w)
 unfold zD2 bsB
 generalize Lib.hasPrefix a.data.toList p.data.toList = x at *
 generalize Lib.hasPrefix b.data.toList p.data.toList = y at *
 cases x
 · go_enter Tryz.func74, Tryz.ntmps74
   go_wp2_with (go_at_call 71; refine h1.out.mono ?_; rintro e w' ⟨rfl, hww⟩; cases hww)
   go_ret
   exact ⟨rfl, rfl⟩
 · go_enter Tryz.func74, Tryz.ntmps74
   go_wp2_with fail
   refine h1.out.mono ?_; rintro e w' ⟨rfl, hww⟩; cases hww
   go_wp2_with fail
   refine h2.out.mono ?_; rintro e w' ⟨rfl, hww⟩; cases hww
   go_wp2_with fail
   go_ret
   exact ⟨by simp, rfl⟩
theorem zNo (s : ByteArray) (w : World) (hs : s.size ≤ 9223372036854775807) : Calls Tryz.prog 21 #[.string s] w fun e w' => e = .returned (.bool (zE2 s)) ∧ w' = w := by
 have h1 := D.zA0 (Tryz.strings_HasPrefix s ⟨#[76]⟩ w)
 have h2 := D.zA0 (Tryz.strings_HasPrefix s ⟨#[91]⟩ w)
 have h3 := D.zA0 (zLf s w hs)
 rw [zUx] at h3
 have t1 : (s.toList == [48]) = (bsB s == [48]) := by rw [Lib.toList_data]
 unfold zE2
 change Hid (Calls _ _ _ _ fun e w' => e = .returned (.bool (Lib.hasPrefix (bsB s) [76])) ∧ w' = w) at h1
 change Hid (Calls _ _ _ _ fun e w' => e = .returned (.bool (Lib.hasPrefix (bsB s) [91])) ∧ w' = w) at h2
 generalize Lib.hasPrefix (bsB s) [76] = x at *
 generalize Lib.hasPrefix (bsB s) [91] = y at *
 generalize zGp s = z at *
 cases hq : bsB s == [48]
 · rw [hq] at t1
   cases x
   · cases y
     · go_enter Tryz.func21, Tryz.ntmps21
       go_wp2_with fail
       refine h1.out.mono ?_; rintro e w' ⟨rfl, hww⟩; cases hww
       go_wp2_with fail
       refine h2.out.mono ?_; rintro e w' ⟨rfl, hww⟩; cases hww
       go_wp2_with fail
       go_ret
       exact ⟨rfl, rfl⟩
     · go_enter Tryz.func21, Tryz.ntmps21
       go_wp2_with fail
       refine h1.out.mono ?_; rintro e w' ⟨rfl, hww⟩; cases hww
       go_wp2_with fail
       refine h2.out.mono ?_; rintro e w' ⟨rfl, hww⟩; cases hww
       go_wp2_with fail
       refine h3.out.mono ?_; rintro e w' ⟨rfl, hww⟩; cases hww
       go_wp2_with fail
       go_ret
       exact ⟨by simp, rfl⟩
   · go_enter Tryz.func21, Tryz.ntmps21
     go_wp2_with fail
     refine h1.out.mono ?_; rintro e w' ⟨rfl, hww⟩; cases hww
     go_wp2_with fail
     refine h3.out.mono ?_; rintro e w' ⟨rfl, hww⟩; cases hww
     go_wp2_with fail
     go_ret
     exact ⟨by simp, rfl⟩
 · rw [hq] at t1
   go_enter Tryz.func21, Tryz.ntmps21
   go_wp2_with fail
   go_ret
   exact ⟨rfl, rfl⟩
theorem zFi (w : World) (pk : Nat) (R : List Mem) (mb : Nat) (ao : Option Addr) (c : Nat) (h : KinV w pk R mb ao c) (s : ByteArray) (hs : s.size ≤ 9223372036854775000) :
 Calls Tryz.prog 19 #[.pointer (some ⟨pk, 0, none⟩), .string s] w fun e w' => e = .returned (.bool (zC5 (R.map Mem.k) s)) ∧ Below w.heap.size w w' := by
 have h1 := D.zA0 (zIl s w (by omega))
 have h2 := D.zA0 (zLf s w (by omega))
 have h3 := D.zA0 (zN0 w pk R mb ao c h (cS s) (cS s))
 rw [zUx] at h2
 rw [zNf] at h3
 unfold zC5
 have t1 : ((cS s).toList == []) = (bsB (cS s) == []) := by rw [Lib.toList_data]
 generalize zGp s = z at *
 generalize cS s = C at *
 generalize ksub (R.map Mem.k) C C = q at *
 cases z
 · go_enter Tryz.func19, Tryz.ntmps19
   go_wp2_with fail
   refine h1.out.mono ?_; rintro e w' ⟨rfl, hww⟩; cases hww
   go_wp2_with fail
   refine h2.out.mono ?_; rintro e w' ⟨rfl, hww⟩; cases hww
   go_wp2_with fail
   go_ret
   exact ⟨rfl, Below.refl _ _⟩
 · cases hq : bsB C == []
   · rw [hq] at t1
     go_enter Tryz.func19, Tryz.ntmps19
     go_wp2_with fail
     refine h1.out.mono ?_; rintro e w' ⟨rfl, hww⟩; cases hww
     go_wp2_with fail
     refine h2.out.mono ?_; rintro e w' ⟨rfl, hww⟩; cases hww
     go_wp2_with fail
     refine h3.out.mono ?_; rintro e w' ⟨rfl, hb⟩
     go_wp2_with fail
     go_ret
     exact ⟨by simp, hb⟩
   · rw [hq] at t1
     go_enter Tryz.func19, Tryz.ntmps19
     go_wp2_with fail
     refine h1.out.mono ?_; rintro e w' ⟨rfl, hww⟩; cases hww
     go_wp2_with fail
     refine h2.out.mono ?_; rintro e w' ⟨rfl, hww⟩; cases hww
     go_wp2_with fail
     go_ret
     exact ⟨rfl, Below.refl _ _⟩
end Go.Proofs.YtpehimfnkmepnaaGreat.T
namespace Go.Proofs.YtpehimfnkmepnaaGreat.K
open Go.RowKit Q Q.D
def KWf : List KD → Prop
 | [] => True
 | k :: o => zB7 o k.nm = none ∧ ((o = [] ∧ k.nm = zAc) ∨ ∃ m, zB7 o k.sup = some m) ∧ KWf o
theorem zF0 {a b : ByteArray} : (a == b) = true ↔ a = b := MapKept.bytes_beq a b
theorem zDu : ∀ {R : List KD} {s : ByteArray} {k : KD}, zB7 R s = some k → k.nm = s ∧ k ∈ R
 | [], _, _, h => by simp [zB7] at h
 | m :: o, s, k, h => by
   unfold zB7 at h
   split at h
   · rename_i hs
     cases h
     exact ⟨(zF0.1 hs).symm, by simp⟩
   · have := zDu h
     exact ⟨this.1, by simp [this.2]⟩
theorem zCm : ∀ {R : List KD} {s : ByteArray}, zB7 R s = none → ∀ k ∈ R, k.nm ≠ s
 | [], _, _ => fun k hk => by simp at hk
 | m :: o, s, h => by
   unfold zB7 at h
   split at h
   · cases h
   · rename_i hs
     intro k hk
     rcases List.mem_cons.1 hk with rfl | hk
     · intro e
       exact hs (zF0.2 e.symm)
     · exact zCm h k hk
theorem zHg : ∀ {R : List KD} {s : ByteArray} {k : KD}, k ∈ klin R s → k ∈ R
 | [], _, _, h => by simp [klin] at h
 | x :: R, s, m, h => by
   unfold klin at h
   split at h
   · rcases List.mem_cons.1 h with rfl | h
     · simp
     · simp [zHg h]
   · simp [zHg h]
theorem zDn {m : KD} {o : List KD} {s : ByteArray} (h : s = m.nm) : klin (m :: o) s = m :: klin o m.sup := by
 show (if s == m.nm then m :: klin o m.sup else klin o s) = _
 rw [if_pos (zF0.2 h)]
theorem zD5 {m : KD} {o : List KD} {s : ByteArray} (h : s ≠ m.nm) : klin (m :: o) s = klin o s := by
 conv => lhs; unfold klin
 rw [if_neg (fun e => h (zF0.1 e))]
theorem zCs {m : KD} {o : List KD} {s : ByteArray} (h : s = m.nm) : zB7 (m :: o) s = some m := by
 unfold zB7
 rw [if_pos (zF0.2 h)]
theorem zD8 {m : KD} {o : List KD} {s : ByteArray} (h : s ≠ m.nm) : zB7 (m :: o) s = zB7 o s := by
 conv => lhs; unfold zB7
 rw [if_neg (fun e => h (zF0.1 e))]
theorem zJh : ∀ {R : List KD} {s : ByteArray} {k : KD}, zB7 R s = some k → ∃ t, klin R s = k :: t
 | [], _, _, h => by simp [zB7] at h
 | m :: o, s, k, h => by
   by_cases hs : s = m.nm
   · rw [zCs hs] at h
     cases h
     exact ⟨_, zDn hs⟩
   · rw [zD8 hs] at h
     rw [zD5 hs]
     exact zJh h
theorem zJc : ∀ {R : List KD} {s : ByteArray} {k : KD}, KWf R → k ∈ klin R s → zB7 R k.nm = some k
 | [], _, _, _, h => by simp [klin] at h
 | m :: o, s, k, hw, h => by
   have older : ∀ {t : ByteArray}, k ∈ klin o t → zB7 (m :: o) k.nm = some k := fun hk => by
    rw [zD8 (fun e => zCm hw.1 k (zHg hk) e)]
    exact zJc hw.2.2 hk
   by_cases hs : s = m.nm
   · rw [zDn hs] at h
     rcases List.mem_cons.1 h with rfl | h
     · exact zCs rfl
     · exact older h
   · rw [zD5 hs] at h
     exact older h
theorem zJ3 : ∀ {R : List KD} {s : ByteArray} {k : KD}, KWf R → zB7 R s = some k → ∃ z, (klin R s).getLast? = some z ∧ z.nm = zAc
 | [], _, _, _, h => by simp [zB7] at h
 | m :: o, s, k, hw, h => by
   by_cases hs : s = m.nm
   · rw [zDn hs]
     rcases hw.2.1 with ⟨rfl, he⟩ | ⟨p, hp⟩
     · exact ⟨m, rfl, he⟩
     · obtain ⟨z, hz, hzn⟩ := zJ3 hw.2.2 hp
       refine ⟨z, ?_, hzn⟩
       obtain ⟨t, ht⟩ := zJh hp
       rw [ht] at hz ⊢
       rw [List.getLast?_cons_cons]
       exact hz
   · rw [zD8 hs] at h
     rw [zD5 hs]
     exact zJ3 hw.2.2 h
def zDq (R : List KD) (a b : ByteArray) : Bool := (klin R a).any fun k => k.nm.toList == b.toList
theorem zUr {a b : ByteArray} : (a.toList == b.toList) = true ↔ a = b := ⟨fun h => zCg (eq_of_beq h), fun h => by rw [h]; exact beq_self_eq_true _⟩
theorem zDv {R : List KD} {a b : ByteArray} : zDq R a b = true ↔ ∃ k ∈ klin R a, k.nm = b := by
 unfold zDq
 rw [List.any_eq_true]
 exact ⟨fun ⟨k, hk, e⟩ => ⟨k, hk, zUr.1 e⟩, fun ⟨k, hk, e⟩ => ⟨k, hk, zUr.2 e⟩⟩
theorem zH3 {R : List KD} {s : ByteArray} {k : KD} (h : zB7 R s = some k) : zDq R s s = true := by
 obtain ⟨t, ht⟩ := zJh h
 exact zDv.2 ⟨k, by rw [ht]; simp, (zDu h).1⟩
theorem zM2 : ∀ {R : List KD} {s : ByteArray} {j : Nat} {x : KD}, KWf R → (klin R s)[j + 1]? = some x → zDq R x.nm s = false
 | [], _, _, _, _, h => by simp [klin] at h
 | m :: o, s, j, x, hw, h => by
   have key : ∀ {t : ByteArray}, x ∈ klin o t → klin (m :: o) x.nm = klin o x.nm := fun hx => zD5 (fun e => zCm hw.1 x (zHg hx) e)
   by_cases hs : s = m.nm
   · rw [zDn hs] at h
     simp at h
     have hx := List.mem_of_getElem? h
     rw [Bool.eq_false_iff]
     intro e
     obtain ⟨k, hk, he⟩ := zDv.1 e
     rw [key hx] at hk
     exact zCm hw.1 k (zHg hk) (he.trans hs)
   · rw [zD5 hs] at h
     have hx := List.mem_of_getElem? h
     have ih := zM2 hw.2.2 h
     unfold zDq at ih ⊢
     rw [key hx]
     exact ih
theorem zRd {R : List KD} {k : KD} (h : zG3 R k = 0) : zB7 R k.nm = none ∧ R.length < 32 ∧ ∃ m, zB7 R k.sup = some m := by
 unfold zG3 at h
 split at h
 case isFalse hr => exact absurd h hr
 split at h
 · cases h
 · split at h
   · cases h
   · split at h
     · cases h
     · rename_i h2 h3 h4
       refine ⟨?_, by omega, ?_⟩
       · cases e : zB7 R k.nm with
         | none => rfl
         | some m => rw [e] at h2; simp at h2
       · cases e : zB7 R k.sup with
         | none => rw [e] at h4; simp at h4
         | some m => exact ⟨m, rfl⟩
theorem KWf.add {R : List KD} {k : KD} (hw : KWf R) (h : zG3 R k = 0) : KWf (k :: R) := ⟨(zRd h).1, .inr (zRd h).2.2, hw⟩
def kwfB : List KD → Bool
 | [] => true
 | k :: o => (zB7 o k.nm).isNone && ((o.isEmpty && (k.nm == zAc)) || (zB7 o k.sup).isSome) && kwfB o
theorem zUu : ∀ {R : List KD}, kwfB R = true → KWf R
 | [], _ => trivial
 | k :: o, h => by
   unfold kwfB at h
   simp only [Bool.and_eq_true, Bool.or_eq_true] at h
   obtain ⟨⟨h1, h2⟩, h3⟩ := h
   refine ⟨Option.isNone_iff_eq_none.1 h1, ?_, zUu h3⟩
   rcases h2 with ⟨h2, h4⟩ | h2
   · exact .inl ⟨List.isEmpty_iff.1 h2, zF0.1 h4⟩
   · exact .inr (Option.isSome_iff_exists.1 h2)
theorem zSd : KWf zBd.reverse := zUu (by decide +kernel)
end Go.Proofs.YtpehimfnkmepnaaGreat.K
namespace Go.Proofs.YtpehimfnkmepnaaGreat.T
open Go.RowKit Q Q.D K
inductive Ty
 | i | q | z | ai
 | l (n : ByteArray)
 | al (n : ByteArray)
def Ty.tb : Ty → Bs
 | .i => [73]
 | .q => [63]
 | .z => [48]
 | .ai => [91, 73]
 | .l n => 76 :: (bsB n ++ [59])
 | .al n => 91 :: 76 :: (bsB n ++ [59])
def Ty.txt (t : Ty) : ByteArray := str t.tb
def Nok (R : List KD) (n : ByteArray) : Prop := zCj (bsB n) ∧ ∃ k, zB7 R n = some k
def Ty.Ok (R : List KD) : Ty → Prop
 | .l n => Nok R n
 | .al n => Nok R n
 | _ => True
theorem zKo (l : Bs) : bsB (str l) = l := rfl
theorem zNa {a b : ByteArray} (h : bsB a = bsB b) : a = b := by
 have := congrArg str h
 rwa [show str (bsB a) = a from zB2 a, show str (bsB b) = b from zB2 b] at this
theorem fld_l {n : ByteArray} (h : zCj (bsB n)) : zAp (76 :: (bsB n ++ [59])) = true := (zBp _).2 (.inl (.inr ⟨_, h, rfl⟩))
theorem zV7 {n : ByteArray} (h : zCj (bsB n)) : zAp (91 :: 76 :: (bsB n ++ [59])) = true := (zBp _).2 (.inr ⟨_, .inr ⟨_, h, rfl⟩, rfl⟩)
theorem fld_ai : zAp [91, 73] = true := by decide
def Ty.el : Ty → Bs
 | .ai => [73]
 | .al n => 76 :: (bsB n ++ [59])
 | _ => []
theorem zQd {R : List KD} (t : Ty) (h : t.Ok R) : eS t.txt = str t.el := by
 unfold eS Ty.txt
 rw [zKo]
 unfold zEr
 cases t with
 | i => rfl
 | q => rfl
 | z => rfl
 | ai => rw [if_pos ⟨fld_ai, rfl⟩]; rfl
 | l n => rw [if_neg (fun h => by simp [Ty.tb] at h)]; rfl
 | al n => rw [if_pos ⟨zV7 h.1, rfl⟩]; rfl
def Ty.cl : Ty → Bs
 | .l n => bsB n
 | .al n => bsB n
 | _ => []
theorem zSz {n : ByteArray} (h : zCj (bsB n)) : zFu (76 :: (bsB n ++ [59])) = bsB n := by
 unfold zFu
 rw [if_pos (fld_l h), if_pos (show (76 :: (bsB n ++ [59]) : Bs)[0]? = some 76 from rfl)]
 simp
theorem zLz {R : List KD} (t : Ty) (h : t.Ok R) : cS t.txt = str t.cl := by
 unfold cS
 rw [zQd t h, zKo]
 cases t with
 | i => rfl
 | q => rfl
 | z => rfl
 | ai => rfl
 | l n =>
   show (if (([] : Bs) == []) = true then str (zFu (bsB (Ty.txt (.l n)))) else _) = str (bsB n)
   rw [if_pos (show (([] : Bs) == []) = true from rfl)]
   show str (zFu (76 :: (bsB n ++ [59]))) = _
   rw [zSz h.1]
 | al n =>
   show (if ((76 :: (bsB n ++ [59]) : Bs) == []) = true then _ else str (zFu (76 :: (bsB n ++ [59])))) = str (bsB n)
   rw [if_neg (by simp), zSz h.1]
theorem zO2 {R : List KD} (t : Ty) (h : t.Ok R) : zGp t.txt = true := by
 unfold zGp Ty.txt
 rw [zKo]
 cases t with
 | i => rfl
 | q => rfl
 | z => rfl
 | ai => rfl
 | l n => show ((_ == _) || ((_ == _) || zAp (76 :: (bsB n ++ [59])))) = true; rw [fld_l h.1]; simp
 | al n => show ((_ == _) || ((_ == _) || zAp (91 :: 76 :: (bsB n ++ [59])))) = true; rw [zV7 h.1]; simp
theorem zN2 (R : List KD) (a b : ByteArray) : ksub R a b = zDq R a b := by
 unfold ksub zDq
 congr 1
 funext k
 rw [Lib.toList_data, Lib.toList_data]
theorem zLy {R : List KD} (t : Ty) (h : t.Ok R) : zC5 R t.txt = true := by
 unfold zC5
 rw [zO2 t h, zLz t h, zKo]
 have hn : ∀ n, Nok R n → ksub R (str (bsB n)) (str (bsB n)) = true := fun n hn => by
  obtain ⟨_, k, hk⟩ := hn
  rw [show str (bsB n) = n from zB2 n, zN2]
  exact zH3 hk
 cases t with
 | i => rfl
 | q => rfl
 | z => rfl
 | ai => rfl
 | l n => show (true && ((_ == _) || ksub R (str (bsB n)) (str (bsB n)))) = true; rw [hn n h]; simp
 | al n => show (true && ((_ == _) || ksub R (str (bsB n)) (str (bsB n)))) = true; rw [hn n h]; simp
def fitT (R : List KD) : Ty → Ty → Bool
 | _, .q => true
 | .i, .i => true
 | .z, .z => true
 | .z, .ai => true
 | .z, .l _ => true
 | .z, .al _ => true
 | .ai, .ai => true
 | .l n, .l m => zDq R n m
 | .ai, .l m => decide (m = zAc)
 | .al _, .l m => decide (m = zAc)
 | .al n, .al m => zDq R n m
 | _, _ => false
theorem zKg : ∀ {R : List KD} {s : ByteArray} {x : KD}, (klin R s)[0]? = some x → x.nm = s
 | [], _, _, h => by simp [klin] at h
 | m :: o, s, x, h => by
   by_cases hs : s = m.nm
   · rw [zDn hs] at h
     simp at h
     subst h
     exact hs.symm
   · rw [zD5 hs] at h
     exact zKg h
theorem zJo : ∀ {R : List KD} {s : ByteArray} {j : Nat} {x : KD}, KWf R → (klin R s)[j]? = some x → klin R x.nm = (klin R s).drop j
 | [], _, _, _, _, h => by simp [klin] at h
 | m :: o, s, j, x, hw, h => by
   have key : ∀ {t : ByteArray}, x ∈ klin o t → klin (m :: o) x.nm = klin o x.nm := fun hx => zD5 (fun e => zCm hw.1 x (zHg hx) e)
   by_cases hs : s = m.nm
   · rw [zDn hs] at h ⊢
     cases j with
     | zero =>
       simp at h
       subst h
       rw [zDn rfl]
       rfl
     | succ j =>
       simp at h
       rw [key (List.mem_of_getElem? h), zJo hw.2.2 h]
       rfl
   · rw [zD5 hs] at h ⊢
     rw [key (List.mem_of_getElem? h), zJo hw.2.2 h]
theorem zS1 {R : List KD} {a b : ByteArray} (h : zDq R a b = true) : ∃ (j : Nat) (x : KD), (klin R a)[j]? = some x ∧ x.nm = b := by
 obtain ⟨k, hk, e⟩ := zDv.1 h
 obtain ⟨j, hj⟩ := List.mem_iff_getElem?.1 hk
 exact ⟨j, k, hj, e⟩
theorem zPp {R : List KD} {a b c : ByteArray} (hw : KWf R) (h : zDq R a b = true) (g : zDq R b c = true) : zDq R a c = true := by
 obtain ⟨j, x, hj, rfl⟩ := zS1 h
 obtain ⟨k, hk, e⟩ := zDv.1 g
 rw [zJo hw hj] at hk
 exact zDv.2 ⟨k, List.mem_of_mem_drop hk, e⟩
theorem zMq {R : List KD} {a b : ByteArray} (hw : KWf R) (h : zDq R a b = true) (g : zDq R b a = true) : a = b := by
 obtain ⟨j, x, hj, rfl⟩ := zS1 h
 cases j with
 | zero => exact (zKg hj).symm
 | succ j => rw [zM2 hw hj] at g; cases g
theorem zOg : ∀ {R : List KD} {m : ByteArray}, KWf R → R ≠ [] → zDq R zAc m = true → m = zAc
 | [], _, _, h, _ => absurd rfl h
 | k :: o, m, hw, _, h => by
   by_cases ho : o = []
   · subst ho
     obtain ⟨x, hx, e⟩ := zDv.1 h
     rcases hw.2.1 with ⟨_, hk⟩ | ⟨q, hq⟩
     · rw [zDn hk.symm] at hx
       simp [klin] at hx
       subst hx
       rw [← e, hk]
     · simp [zB7] at hq
   · have hk : zAc ≠ k.nm := fun e => by
      rcases hw.2.1 with ⟨h0, _⟩ | ⟨q, hq⟩
      · exact ho h0
      · obtain ⟨z, hz, hz2⟩ := zJ3 hw.2.2 hq
        have := zJc hw.2.2 (List.mem_of_getLast? hz)
        rw [hz2, e, hw.1] at this
        cases this
     have h' : zDq o zAc m = true := by
      unfold zDq at h ⊢
      rwa [zD5 hk] at h
     exact zOg hw.2.2 ho h'
theorem zRw : ∀ {a b : Ty}, a.tb = b.tb → a = b := by
 intro a b h
 have hl : ∀ {n m : ByteArray}, bsB n ++ [59] = bsB m ++ [59] → n = m := fun h => zNa (List.append_cancel_right h)
 cases a <;> cases b <;> first | rfl | (simp [Ty.tb] at h; done) | skip
 · simp only [Ty.tb, List.cons.injEq, true_and] at h; rw [hl h]
 · simp only [Ty.tb, List.cons.injEq, true_and] at h; rw [hl h]
theorem zSs (t : Ty) : Lib.hasPrefix t.tb [76] = (match t with | .l _ => true | _ => false) := by cases t <;> rfl
theorem pre91 (t : Ty) : Lib.hasPrefix t.tb [91] = (match t with | .ai => true | .al _ => true | _ => false) := by cases t <;> rfl
theorem zQy (t : Ty) : Lib.hasPrefix t.tb [91, 76] = (match t with | .al _ => true | _ => false) := by cases t <;> rfl
theorem is63 (t : Ty) : (t.tb == [63]) = (match t with | .q => true | _ => false) := by cases t <;> rfl
theorem is48 (t : Ty) : (t.tb == [48]) = (match t with | .z => true | _ => false) := by cases t <;> rfl
theorem isobj (t : Ty) : (t.tb == objL) = (match t with | .l m => decide (m = zAc) | _ => false) := by
 cases t with
 | l m =>
   show ((76 :: (bsB m ++ [59]) : Bs) == objL) = decide (m = zAc)
   by_cases h : m = zAc
   · subst h; rfl
   · rw [decide_eq_false h, beq_eq_false_iff_ne]
     intro e
     apply h
     apply zNa
     have e2 : bsB m ++ [59] = bsB zAc ++ [59] := (List.cons.inj e).2
     exact List.append_cancel_right e2
 | al m => rfl
 | i => rfl
 | q => rfl
 | z => rfl
 | ai => rfl
def refT : Ty → Bool
 | .z => true
 | .ai => true
 | .l _ => true
 | .al _ => true
 | _ => false
theorem zRs {R : List KD} (t : Ty) (h : t.Ok R) : zE2 t.txt = refT t := by
 unfold zE2
 rw [zO2 t h]
 show ((t.tb == [48]) || ((Lib.hasPrefix t.tb [76] || Lib.hasPrefix t.tb [91]) && true)) = _
 rw [is48, zSs, pre91]
 cases t <;> rfl
theorem zMi {R : List KD} (t : Ty) (h : t.Ok R) : fitT R t t = true := by
 cases t with
 | l n => exact zH3 h.2.choose_spec
 | al n => exact zH3 h.2.choose_spec
 | i => rfl
 | q => rfl
 | z => rfl
 | ai => rfl
theorem zKx (R : List KD) (k : Nat) (a b : Ty) : zF2 R (k + 1) a.txt b.txt = if (b.tb == [63]) || (a.tb == b.tb) then true else if a.tb == [48] then zE2 b.txt else if Lib.hasPrefix a.tb [76] && Lib.hasPrefix b.tb [76] then ksub R (cS a.txt) (cS b.txt) else if Lib.hasPrefix a.tb [91] && (b.tb == objL) then true else if Lib.hasPrefix a.tb [91, 76] && Lib.hasPrefix b.tb [91, 76] then zF2 R k (eS a.txt) (eS b.txt) else false := rfl
theorem fits_l {R : List KD} (k : Nat) {n m : ByteArray} (hn : Nok R n) (hm : Nok R m) : zF2 R (k + 1) (Ty.l n).txt (Ty.l m).txt = zDq R n m := by
 rw [zKx, is63, is48, zSs, zSs]
 by_cases e : n = m
 · subst e
   rw [show ((Ty.l n).tb == (Ty.l n).tb) = true from beq_self_eq_true _]
   exact (zH3 hn.2.choose_spec).symm
 · rw [show ((Ty.l n).tb == (Ty.l m).tb) = false from beq_eq_false_iff_ne.2 (fun h => e (by have := zRw h; cases this; rfl))]
   show ksub R (cS (Ty.l n).txt) (cS (Ty.l m).txt) = _
   rw [zLz (R := R) (.l n) hn, zLz (R := R) (.l m) hm, zN2]
   show zDq R (str (bsB n)) (str (bsB m)) = _
   rw [show str (bsB n) = n from zB2 n, show str (bsB m) = m from zB2 m]
theorem zT0 {R : List KD} (a b : Ty) (ha : a.Ok R) (hb : b.Ok R) : zF2 R 2 a.txt b.txt = fitT R a b := by
 by_cases e : a = b
 · subst e
   rw [zKx, show (a.tb == a.tb) = true from beq_self_eq_true _, Bool.or_true, if_pos rfl, zMi a ha]
 · rw [zKx, show (a.tb == b.tb) = false from beq_eq_false_iff_ne.2 (fun h => e (zRw h)), is63, is48, zSs, zSs, pre91, isobj, zQy, zQy, zRs b hb]
   cases a <;> cases b <;> first | rfl | exact absurd rfl e | skip
   all_goals simp only [Bool.or_false, Bool.false_eq_true, if_false, Bool.and_true, Bool.and_self, if_true, Bool.and_false, Bool.true_and, Bool.false_and]
   · rename_i m
     show (if decide (m = zAc) = true then true else false) = decide (m = zAc)
     cases decide (m = zAc) <;> rfl
   · rename_i n m
     show ksub R (cS (Ty.l n).txt) (cS (Ty.l m).txt) = zDq R n m
     rw [zLz (R := R) (.l n) ha, zLz (R := R) (.l m) hb, zN2]
     show zDq R (str (bsB n)) (str (bsB m)) = _
     rw [show str (bsB n) = n from zB2 n, show str (bsB m) = m from zB2 m]
   · rename_i n m
     show (if decide (m = zAc) = true then true else false) = decide (m = zAc)
     cases decide (m = zAc) <;> rfl
   · rename_i n m
     show zF2 R 1 (eS (Ty.al n).txt) (eS (Ty.al m).txt) = zDq R n m
     rw [zQd (R := R) (.al n) ha, zQd (R := R) (.al m) hb]
     exact fits_l 0 ha hb
theorem zTb {R : List KD} (a b : Ty) (ha : a.Ok R) (hb : b.Ok R) : zP9 R a.txt b.txt = fitT R a b := by
 unfold zP9
 rw [zLy a ha, zLy b hb, zT0 a b ha hb]
 rfl
theorem zRo {R : List KD} (hw : KWf R) (a b : Ty) (h : fitT R a b = true) (g : fitT R b a = true) : a = b := by
 cases a <;> cases b <;> simp [fitT] at h g <;> first | rfl | skip
 · rw [zMq hw h g]
 · rw [zMq hw h g]
theorem zPn {R : List KD} (hw : KWf R) (a b c : Ty) (ha : a.Ok R) (hb : b.Ok R) (h : fitT R a b = true) (g : fitT R b c = true) : fitT R a c = true := by
 have ho : ∀ {n m : ByteArray}, Nok R n → n = zAc → zDq R n m = true → m = zAc := fun hn e hk => by
  subst e
  exact zOg hw (fun e => by subst e; obtain ⟨_, k, hk⟩ := hn; simp [zB7] at hk) hk
 cases a <;> cases b <;> cases c <;> simp [fitT] at h g ⊢
 all_goals first | exact zPp hw h g | exact ho hb h g | exact g | exact h
end Go.Proofs.YtpehimfnkmepnaaGreat.T
