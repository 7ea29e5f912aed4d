import Derived.Test.YtpehimfnkmepnaaGreatBy15
set_option maxRecDepth 8000
set_option maxHeartbeats 40000000
namespace Go.Proofs.YtpehimfnkmepnaaGreat.Q.D
open Go.RowKit
theorem zBc (s : ByteArray) (w : World) (hs : s.size ≤ 9223372036854775807) :
 Calls Tryz.prog 116 #[.string s] w fun e w' => e = .returned (.string (str (zFn s.data.toList))) ∧ w' = w := by
 have hN := zA0 (zB4 s w hs)
 unfold zFn
 by_cases h1 : zAp s.data.toList = true
 · have h0 := zHe h1
   rw [if_pos h1]
   rw [h1] at hN
   by_cases h2 : s[0].toNat = 76
   · rw [if_pos (show s.data.toList[0]? = some 76 from (at0 s h0 76 (by omega)).2 h2)]
     have b : ((s[0].toNat : Int) == 76) = true := by simp; omega
     have h3 : 2 ≤ s.size := by
      rcases Nat.lt_or_ge s.size 2 with h | h
      · exfalso
        have hl : s.data.toList = [76] := by
         have e := zCe s 0 h0
         rw [List.drop_zero, List.drop_eq_nil_of_le (by rw [← zA7]; omega), zFr h2 (by omega)] at e
         exact e
        rw [hl] at h1
        exact absurd h1 (by decide)
      · exact h
     have e := zLj s 1 (s.size - 1)
     rw [show s.size - 1 - 1 = s.data.toList.length - 2 by rw [← zA7]; omega] at e
     generalize str (List.take (s.data.toList.length - 2) (List.drop 1 s.data.toList)) = X at *
     clear h1
     go_enter Tryz.func116, Tryz.ntmps116
     go_wp2_with fail
     refine hN.out.mono ?_
     rintro e w' ⟨rfl, hww⟩; cases hww
     go_wp2
     go_ret
     exact ⟨rfl, rfl⟩
   · rw [if_neg (show ¬ s.data.toList[0]? = some 76 from fun h => h2 ((at0 s h0 76 (by omega)).1 h))]
     have b : ((s[0].toNat : Int) == 76) = false := by simp; omega
     by_cases h3 : s[0].toNat = 91
     · rw [if_pos (show s.data.toList[0]? = some 91 from (at0 s h0 91 (by omega)).2 h3)]
       have b2 : ((s[0].toNat : Int) == 91) = true := by simp; omega
       clear h1
       go_enter Tryz.func116, Tryz.ntmps116
       go_wp2_with fail
       refine hN.out.mono ?_
       rintro e w' ⟨rfl, hww⟩; cases hww
       go_wp2
       go_ret
       exact ⟨rfl, rfl⟩
     · rw [if_neg (show ¬ s.data.toList[0]? = some 91 from fun h => h3 ((at0 s h0 91 (by omega)).1 h))]
       have b2 : ((s[0].toNat : Int) == 91) = false := by simp; omega
       clear h1
       go_enter Tryz.func116, Tryz.ntmps116
       go_wp2_with fail
       refine hN.out.mono ?_
       rintro e w' ⟨rfl, hww⟩; cases hww
       go_wp2
       go_ret
       exact ⟨rfl, rfl⟩
 · rw [if_neg h1]
   simp only [Bool.not_eq_true] at h1
   rw [h1] at hN
   clear h1
   go_enter Tryz.func116, Tryz.ntmps116
   go_wp2_with fail
   refine hN.out.mono ?_
   rintro e w' ⟨rfl, hww⟩; cases hww
   go_wp2
   go_ret
   exact ⟨rfl, rfl⟩
theorem zT2 (s : ByteArray) (w : World) (hs : s.size ≤ 1073741824) :
 Calls Tryz.prog 75 #[.string s] w fun e w' => e = .returned (.string (str (76 :: (s.data.toList ++ [59])))) ∧ w' = w := by
 go_enter Tryz.func75, Tryz.ntmps75
 go_wp2
 go_ret
 refine ⟨?_, rfl⟩
 rw [← zRw (s := { data := #[76] } ++ s ++ { data := #[59] }) (by rw [zH4, zH4]; simp)]
 rfl
end Go.Proofs.YtpehimfnkmepnaaGreat.Q.D
namespace Go.Proofs.YtpehimfnkmepnaaGreat.T
open Go.RowKit Q Q.D K
def eS (s : ByteArray) : ByteArray := str (zEl (bsB s)).1
def cS (s : ByteArray) : ByteArray := if bsB (eS s) == [] then str (zFn (bsB s)) else str (zFn (bsB (eS s)))
theorem zGf (s : ByteArray) : (eS s).size ≤ s.size := by
 unfold eS zEl
 rw [zDn, zA7]
 split
 · simp
 · simp
def ksub (R : List KD) (a b : ByteArray) : Bool := (klin R a).any fun k => bsB k.nm == bsB b
theorem any_map {α β : Type} (f : α → β) (p : β → Bool) (l : List α) : (l.map f).any p = l.any (fun x => p (f x)) := by rw [List.any_map]; rfl
theorem zNi (R : List Mem) (a b : ByteArray) : subB R a b = ksub (R.map Mem.k) a b := by
 unfold subB ksub
 rw [← zM4, any_map]
 congr 1
 funext m
 rw [Lib.toList_data, Lib.toList_data]
def zGh (s : ByteArray) : Bool := (bsB s == [63]) || ((bsB s == [48]) || zAp (bsB s))
theorem zUt (s : ByteArray) : zD0 s = zGh s := by unfold zD0 zGh; rw [Lib.toList_data]
def zDf (s : ByteArray) : Bool := (bsB s == [48]) || ((Lib.hasPrefix (bsB s) [76] || Lib.hasPrefix (bsB s) [91]) && zGh s)
def zBs (R : List KD) (s : ByteArray) : Bool := zGh s && ((bsB (cS s) == []) || ksub R (cS s) (cS s))
def zD3 (a b : ByteArray) (p : Bs) : Bool := Lib.hasPrefix (bsB a) p && Lib.hasPrefix (bsB b) p
def objL : Bs := [76, 79, 98, 106, 101, 99, 116, 59]
def zEh (R : List KD) : Nat → ByteArray → ByteArray → Bool
 | 0, _, _ => false
 | n + 1, a, b => if (bsB b == [63]) || (bsB a == bsB b) then true else if bsB a == [48] then zDf b else if zD3 a b [76] then ksub R (cS a) (cS b) else if Lib.hasPrefix (bsB a) [91] && (bsB b == objL) then true else if zD3 a b [91, 76] then zEh R n (eS a) (eS b) else false
def zQ8 (R : List KD) (a b : ByteArray) : Bool := zBs R a && (zBs R b && zEh R 2 a b)
def zCy (R : List KD) (a b : ByteArray) : ByteArray := match (klin R a).find? (fun k => ksub R b k.nm) with | some k => k.nm | none => zAc
def refS (s : ByteArray) : ByteArray := str (76 :: (bsB s ++ [59]))
def zHv (R : List KD) : Nat → ByteArray → ByteArray → ByteArray
 | 0, _, _ => ⟨#[]⟩
 | n + 1, a, b => if (zBs R a && zBs R b) = false then ⟨#[63]⟩ else if zEh R 2 b a then a else if zEh R 2 a b then b else if zD3 a b [76] then refS (zCy R (cS a) (cS b)) else if zD3 a b [91, 76] then ⟨#[91]⟩ ++ zHv R n (eS a) (eS b) else if zDf a && zDf b then str objL else ⟨#[63]⟩
def zPx (R : List KD) (a b : ByteArray) : ByteArray := zHv R 2 a b
theorem zMx (s : ByteArray) (w : World) (hs : s.size ≤ 9223372036854775807) : Calls Tryz.prog 77 #[.string s] w fun e w' => e = .returned (.string (eS s)) ∧ w' = w := by
 have hE := D.zA0 (zP2 s w hs)
 unfold eS
 go_enter Tryz.func77, Tryz.ntmps77
 go_wp2_with (go_at_call 120; refine hE.out.mono ?_; rintro e w' ⟨rfl, hww⟩; cases hww)
 go_ret
 exact ⟨rfl, rfl⟩
theorem zJ9 (s : ByteArray) (w : World) (hs : s.size ≤ 9223372036854775807) : Calls Tryz.prog 64 #[.string s] w fun e w' => e = .returned (.string (cS s)) ∧ w' = w := by
 have hE := D.zA0 (zMx s w hs)
 have hz := zGf s
 have t1 : ((eS s).toList == []) = (bsB (eS s) == []) := by rw [Lib.toList_data]
 have t2 : ((eS s).toList != []) = !(bsB (eS s) == []) := by rw [← t1]; rfl
 unfold cS
 generalize eS s = E at *
 have hC1 := D.zA0 (zBc s w hs)
 have hC2 := D.zA0 (zBc E w (by omega))
 cases h : bsB E == []
 · rw [h] at t1 t2
   go_enter Tryz.func64, Tryz.ntmps64
   go_wp2_with (first | (go_at_call 77; refine hE.out.mono ?_; rintro e w' ⟨rfl, hww⟩; cases hww) | (go_at_call 116; refine hC2.out.mono ?_; rintro e w' ⟨rfl, hww⟩; cases hww))
   go_ret
   exact ⟨rfl, rfl⟩
 · rw [h] at t1 t2
   go_enter Tryz.func64, Tryz.ntmps64
   go_wp2_with (first | (go_at_call 77; refine hE.out.mono ?_; rintro e w' ⟨rfl, hww⟩; cases hww) | (go_at_call 116; refine hC1.out.mono ?_; rintro e w' ⟨rfl, hww⟩; cases hww))
   go_ret
   exact ⟨rfl, rfl⟩
theorem zOu (a b p : ByteArray) (w : World) : Calls Tryz.prog 74 #[.string a, .string b, .string p] w fun e w' => e = .returned (.bool (zD3 a b (bsB p))) ∧ w' = w := by
 have h1 := D.zA0 (Tryz.strings_HasPrefix a p w)
 have h2 := D.zA0 (Tryz.strings_HasPrefix b p w)
 unfold zD3 bsB
 generalize Lib.hasPrefix a.data.toList p.data.toList = x at *
 generalize Lib.hasPrefix b.data.toList p.data.toList = y at *
 cases x
 · go_enter Tryz.func74, Tryz.ntmps74
   go_wp2_with (go_at_call 71; refine h1.out.mono ?_; rintro e w' ⟨rfl, hww⟩; cases hww)
   go_ret
   exact ⟨rfl, rfl⟩
 · go_enter Tryz.func74, Tryz.ntmps74
   go_wp2_with fail
   refine h1.out.mono ?_; rintro e w' ⟨rfl, hww⟩; cases hww
   go_wp2_with fail
   refine h2.out.mono ?_; rintro e w' ⟨rfl, hww⟩; cases hww
   go_wp2_with fail
   go_ret
   exact ⟨by simp, rfl⟩
theorem zN9 (s : ByteArray) (w : World) (hs : s.size ≤ 9223372036854775807) : Calls Tryz.prog 21 #[.string s] w fun e w' => e = .returned (.bool (zDf s)) ∧ w' = w := by
 have h1 := D.zA0 (Tryz.strings_HasPrefix s ⟨#[76]⟩ w)
 have h2 := D.zA0 (Tryz.strings_HasPrefix s ⟨#[91]⟩ w)
 have h3 := D.zA0 (zLb s w hs)
 rw [zUt] at h3
 have t1 : (s.toList == [48]) = (bsB s == [48]) := by rw [Lib.toList_data]
 unfold zDf
 change Hid (Calls _ _ _ _ fun e w' => e = .returned (.bool (Lib.hasPrefix (bsB s) [76])) ∧ w' = w) at h1
 change Hid (Calls _ _ _ _ fun e w' => e = .returned (.bool (Lib.hasPrefix (bsB s) [91])) ∧ w' = w) at h2
 generalize Lib.hasPrefix (bsB s) [76] = x at *
 generalize Lib.hasPrefix (bsB s) [91] = y at *
 generalize zGh s = z at *
 cases hq : bsB s == [48]
 · rw [hq] at t1
   cases x
   · cases y
     · go_enter Tryz.func21, Tryz.ntmps21
       go_wp2_with fail
       refine h1.out.mono ?_; rintro e w' ⟨rfl, hww⟩; cases hww
       go_wp2_with fail
       refine h2.out.mono ?_; rintro e w' ⟨rfl, hww⟩; cases hww
       go_wp2_with fail
       go_ret
       exact ⟨rfl, rfl⟩
     · go_enter Tryz.func21, Tryz.ntmps21
       go_wp2_with fail
       refine h1.out.mono ?_; rintro e w' ⟨rfl, hww⟩; cases hww
       go_wp2_with fail
       refine h2.out.mono ?_; rintro e w' ⟨rfl, hww⟩; cases hww
       go_wp2_with fail
       refine h3.out.mono ?_; rintro e w' ⟨rfl, hww⟩; cases hww
       go_wp2_with fail
       go_ret
       exact ⟨by simp, rfl⟩
   · go_enter Tryz.func21, Tryz.ntmps21
     go_wp2_with fail
     refine h1.out.mono ?_; rintro e w' ⟨rfl, hww⟩; cases hww
     go_wp2_with fail
     refine h3.out.mono ?_; rintro e w' ⟨rfl, hww⟩; cases hww
     go_wp2_with fail
     go_ret
     exact ⟨by simp, rfl⟩
 · rw [hq] at t1
   go_enter Tryz.func21, Tryz.ntmps21
   go_wp2_with fail
   go_ret
   exact ⟨rfl, rfl⟩
theorem zFm (w : World) (pk : Nat) (R : List Mem) (mb : Nat) (ao : Option Addr) (c : Nat) (h : KinV w pk R mb ao c) (s : ByteArray) (hs : s.size ≤ 9223372036854775000) :
 Calls Tryz.prog 19 #[.pointer (some ⟨pk, 0, none⟩), .string s] w fun e w' => e = .returned (.bool (zBs (R.map Mem.k) s)) ∧ Below w.heap.size w w' := by
 have h1 := D.zA0 (zJ9 s w (by omega))
 have h2 := D.zA0 (zLb s w (by omega))
 have h3 := D.zA0 (zNp w pk R mb ao c h (cS s) (cS s))
 rw [zUt] at h2
 rw [zNi] at h3
 unfold zBs
 have t1 : ((cS s).toList == []) = (bsB (cS s) == []) := by rw [Lib.toList_data]
 generalize zGh s = z at *
 generalize cS s = C at *
 generalize ksub (R.map Mem.k) C C = q at *
 cases z
 · go_enter Tryz.func19, Tryz.ntmps19
   go_wp2_with fail
   refine h1.out.mono ?_; rintro e w' ⟨rfl, hww⟩; cases hww
   go_wp2_with fail
   refine h2.out.mono ?_; rintro e w' ⟨rfl, hww⟩; cases hww
   go_wp2_with fail
   go_ret
   exact ⟨rfl, Below.refl _ _⟩
 · cases hq : bsB C == []
   · rw [hq] at t1
     go_enter Tryz.func19, Tryz.ntmps19
     go_wp2_with fail
     refine h1.out.mono ?_; rintro e w' ⟨rfl, hww⟩; cases hww
     go_wp2_with fail
     refine h2.out.mono ?_; rintro e w' ⟨rfl, hww⟩; cases hww
     go_wp2_with fail
     refine h3.out.mono ?_; rintro e w' ⟨rfl, hb⟩
     go_wp2_with fail
     go_ret
     exact ⟨by simp, hb⟩
   · rw [hq] at t1
     go_enter Tryz.func19, Tryz.ntmps19
     go_wp2_with fail
     refine h1.out.mono ?_; rintro e w' ⟨rfl, hww⟩; cases hww
     go_wp2_with fail
     refine h2.out.mono ?_; rintro e w' ⟨rfl, hww⟩; cases hww
     go_wp2_with fail
     go_ret
     exact ⟨rfl, Below.refl _ _⟩
end Go.Proofs.YtpehimfnkmepnaaGreat.T
namespace Go.Proofs.YtpehimfnkmepnaaGreat.K
open Go.RowKit Q Q.D
def KWf : List KD → Prop
 | [] => True
 | k :: o => zAz o k.nm = none ∧ ((o = [] ∧ k.nm = zAc) ∨ ∃ m, zAz o k.sup = some m) ∧ KWf o
theorem zFc {a b : ByteArray} : (a == b) = true ↔ a = b := MapKept.bytes_beq a b
theorem zD4 : ∀ {R : List KD} {s : ByteArray} {k : KD}, zAz R s = some k → k.nm = s ∧ k ∈ R
 | [], _, _, h => by simp [zAz] at h
 | m :: o, s, k, h => by
   unfold zAz at h
   split at h
   · rename_i hs
     cases h
     exact ⟨(zFc.1 hs).symm, by simp⟩
   · have := zD4 h
     exact ⟨this.1, by simp [this.2]⟩
theorem zCo : ∀ {R : List KD} {s : ByteArray}, zAz R s = none → ∀ k ∈ R, k.nm ≠ s
 | [], _, _ => fun k hk => by simp at hk
 | m :: o, s, h => by
   unfold zAz at h
   split at h
   · cases h
   · rename_i hs
     intro k hk
     rcases List.mem_cons.1 hk with rfl | hk
     · intro e
       exact hs (zFc.2 e.symm)
     · exact zCo h k hk
theorem zHp : ∀ {R : List KD} {s : ByteArray} {k : KD}, k ∈ klin R s → k ∈ R
 | [], _, _, h => by simp [klin] at h
 | x :: R, s, m, h => by
   unfold klin at h
   split at h
   · rcases List.mem_cons.1 h with rfl | h
     · simp
     · simp [zHp h]
   · simp [zHp h]
theorem zEg {m : KD} {o : List KD} {s : ByteArray} (h : s = m.nm) : klin (m :: o) s = m :: klin o m.sup := by
 show (if s == m.nm then m :: klin o m.sup else klin o s) = _
 rw [if_pos (zFc.2 h)]
theorem zDi {m : KD} {o : List KD} {s : ByteArray} (h : s ≠ m.nm) : klin (m :: o) s = klin o s := by
 conv => lhs; unfold klin
 rw [if_neg (fun e => h (zFc.1 e))]
theorem zCi {m : KD} {o : List KD} {s : ByteArray} (h : s = m.nm) : zAz (m :: o) s = some m := by
 unfold zAz
 rw [if_pos (zFc.2 h)]
theorem zDc {m : KD} {o : List KD} {s : ByteArray} (h : s ≠ m.nm) : zAz (m :: o) s = zAz o s := by
 conv => lhs; unfold zAz
 rw [if_neg (fun e => h (zFc.1 e))]
theorem zJ7 : ∀ {R : List KD} {s : ByteArray} {k : KD}, zAz R s = some k → ∃ t, klin R s = k :: t
 | [], _, _, h => by simp [zAz] at h
 | m :: o, s, k, h => by
   by_cases hs : s = m.nm
   · rw [zCi hs] at h
     cases h
     exact ⟨_, zEg hs⟩
   · rw [zDc hs] at h
     rw [zDi hs]
     exact zJ7 h
theorem zHh : ∀ {R : List KD} {s : ByteArray} {k : KD}, KWf R → k ∈ klin R s → zAz R k.nm = some k
 | [], _, _, _, h => by simp [klin] at h
 | m :: o, s, k, hw, h => by
   have older : ∀ {t : ByteArray}, k ∈ klin o t → zAz (m :: o) k.nm = some k := fun hk => by
    rw [zDc (fun e => zCo hw.1 k (zHp hk) e)]
    exact zHh hw.2.2 hk
   by_cases hs : s = m.nm
   · rw [zEg hs] at h
     rcases List.mem_cons.1 h with rfl | h
     · exact zCi rfl
     · exact older h
   · rw [zDi hs] at h
     exact older h
theorem zHi : ∀ {R : List KD} {s : ByteArray} {k : KD}, KWf R → zAz R s = some k → ∃ z, (klin R s).getLast? = some z ∧ z.nm = zAc
 | [], _, _, _, h => by simp [zAz] at h
 | m :: o, s, k, hw, h => by
   by_cases hs : s = m.nm
   · rw [zEg hs]
     rcases hw.2.1 with ⟨rfl, he⟩ | ⟨p, hp⟩
     · exact ⟨m, rfl, he⟩
     · obtain ⟨z, hz, hzn⟩ := zHi hw.2.2 hp
       refine ⟨z, ?_, hzn⟩
       obtain ⟨t, ht⟩ := zJ7 hp
       rw [ht] at hz ⊢
       rw [List.getLast?_cons_cons]
       exact hz
   · rw [zDc hs] at h
     rw [zDi hs]
     exact zHi hw.2.2 h
def zCm (R : List KD) (a b : ByteArray) : Bool := (klin R a).any fun k => k.nm.toList == b.toList
theorem zV3 {a b : ByteArray} : (a.toList == b.toList) = true ↔ a = b := ⟨fun h => zCf (eq_of_beq h), fun h => by rw [h]; exact beq_self_eq_true _⟩
theorem zD5 {R : List KD} {a b : ByteArray} : zCm R a b = true ↔ ∃ k ∈ klin R a, k.nm = b := by
 unfold zCm
 rw [List.any_eq_true]
 exact ⟨fun ⟨k, hk, e⟩ => ⟨k, hk, zV3.1 e⟩, fun ⟨k, hk, e⟩ => ⟨k, hk, zV3.2 e⟩⟩
theorem zFp {R : List KD} {s : ByteArray} {k : KD} (h : zAz R s = some k) : zCm R s s = true := by
 obtain ⟨t, ht⟩ := zJ7 h
 exact zD5.2 ⟨k, by rw [ht]; simp, (zD4 h).1⟩
theorem zQz {R : List KD} {s : ByteArray} {k : KD} (h : k ∈ klin R s) : zCm R s k.nm = true := zD5.2 ⟨k, h, rfl⟩
theorem zN0 : ∀ {R : List KD} {s : ByteArray} {j : Nat} {x : KD}, KWf R → (klin R s)[j + 1]? = some x → zCm R x.nm s = false
 | [], _, _, _, _, h => by simp [klin] at h
 | m :: o, s, j, x, hw, h => by
   have key : ∀ {t : ByteArray}, x ∈ klin o t → klin (m :: o) x.nm = klin o x.nm := fun hx => zDi (fun e => zCo hw.1 x (zHp hx) e)
   by_cases hs : s = m.nm
   · rw [zEg hs] at h
     simp at h
     have hx := List.mem_of_getElem? h
     rw [Bool.eq_false_iff]
     intro e
     obtain ⟨k, hk, he⟩ := zD5.1 e
     rw [key hx] at hk
     exact zCo hw.1 k (zHp hk) (he.trans hs)
   · rw [zDi hs] at h
     have hx := List.mem_of_getElem? h
     have ih := zN0 hw.2.2 h
     unfold zCm at ih ⊢
     rw [key hx]
     exact ih
theorem zQq {R : List KD} {k : KD} (h : zG6 R k = 0) : zAz R k.nm = none ∧ R.length < 32 ∧ ∃ m, zAz R k.sup = some m := by
 unfold zG6 at h
 split at h
 case isFalse hr => exact absurd h hr
 split at h
 · cases h
 · split at h
   · cases h
   · split at h
     · cases h
     · rename_i h2 h3 h4
       refine ⟨?_, by omega, ?_⟩
       · cases e : zAz R k.nm with
         | none => rfl
         | some m => rw [e] at h2; simp at h2
       · cases e : zAz R k.sup with
         | none => rw [e] at h4; simp at h4
         | some m => exact ⟨m, rfl⟩
theorem KWf.add {R : List KD} {k : KD} (hw : KWf R) (h : zG6 R k = 0) : KWf (k :: R) := ⟨(zQq h).1, .inr (zQq h).2.2, hw⟩
def kwfB : List KD → Bool
 | [] => true
 | k :: o => (zAz o k.nm).isNone && ((o.isEmpty && (k.nm == zAc)) || (zAz o k.sup).isSome) && kwfB o
theorem zUx : ∀ {R : List KD}, kwfB R = true → KWf R
 | [], _ => trivial
 | k :: o, h => by
   unfold kwfB at h
   simp only [Bool.and_eq_true, Bool.or_eq_true] at h
   obtain ⟨⟨h1, h2⟩, h3⟩ := h
   refine ⟨Option.isNone_iff_eq_none.1 h1, ?_, zUx h3⟩
   rcases h2 with ⟨h2, h4⟩ | h2
   · exact .inl ⟨List.isEmpty_iff.1 h2, zFc.1 h4⟩
   · exact .inr (Option.isSome_iff_exists.1 h2)
theorem zQx : KWf zBf.reverse := zUx (by decide +kernel)
end Go.Proofs.YtpehimfnkmepnaaGreat.K
namespace Go.Proofs.YtpehimfnkmepnaaGreat.T
open Go.RowKit Q Q.D K
inductive Ty
 | i | q | z | ai
 | l (n : ByteArray)
 | al (n : ByteArray)
def Ty.tb : Ty → Bs
 | .i => [73]
 | .q => [63]
 | .z => [48]
 | .ai => [91, 73]
 | .l n => 76 :: (bsB n ++ [59])
 | .al n => 91 :: 76 :: (bsB n ++ [59])
def Ty.txt (t : Ty) : ByteArray := str t.tb
def Nok (R : List KD) (n : ByteArray) : Prop := zC9 (bsB n) ∧ ∃ k, zAz R n = some k
def Ty.Ok (R : List KD) : Ty → Prop
 | .l n => Nok R n
 | .al n => Nok R n
 | _ => True
theorem zLo (l : Bs) : bsB (str l) = l := rfl
theorem zNt {a b : ByteArray} (h : bsB a = bsB b) : a = b := by
 have := congrArg str h
 rwa [show str (bsB a) = a from zB1 a, show str (bsB b) = b from zB1 b] at this
theorem fld_l {n : ByteArray} (h : zC9 (bsB n)) : zAp (76 :: (bsB n ++ [59])) = true := (zBp _).2 (.inl (.inr ⟨_, h, rfl⟩))
theorem zVe {n : ByteArray} (h : zC9 (bsB n)) : zAp (91 :: 76 :: (bsB n ++ [59])) = true := (zBp _).2 (.inr ⟨_, .inr ⟨_, h, rfl⟩, rfl⟩)
theorem fld_ai : zAp [91, 73] = true := by decide
def Ty.el : Ty → Bs
 | .ai => [73]
 | .al n => 76 :: (bsB n ++ [59])
 | _ => []
theorem zM1 {R : List KD} (t : Ty) (h : t.Ok R) : eS t.txt = str t.el := by
 unfold eS Ty.txt
 rw [zLo]
 unfold zEl
 cases t with
 | i => rfl
 | q => rfl
 | z => rfl
 | ai => rw [if_pos ⟨fld_ai, rfl⟩]; rfl
 | l n => rw [if_neg (fun h => by simp [Ty.tb] at h)]; rfl
 | al n => rw [if_pos ⟨zVe h.1, rfl⟩]; rfl
def Ty.cl : Ty → Bs
 | .l n => bsB n
 | .al n => bsB n
 | _ => []
theorem zRm {n : ByteArray} (h : zC9 (bsB n)) : zFn (76 :: (bsB n ++ [59])) = bsB n := by
 unfold zFn
 rw [if_pos (fld_l h), if_pos (show (76 :: (bsB n ++ [59]) : Bs)[0]? = some 76 from rfl)]
 simp
theorem zH5 {R : List KD} (t : Ty) (h : t.Ok R) : cS t.txt = str t.cl := by
 unfold cS
 rw [zM1 t h, zLo]
 cases t with
 | i => rfl
 | q => rfl
 | z => rfl
 | ai => rfl
 | l n =>
   show (if (([] : Bs) == []) = true then str (zFn (bsB (Ty.txt (.l n)))) else _) = str (bsB n)
   rw [if_pos (show (([] : Bs) == []) = true from rfl)]
   show str (zFn (76 :: (bsB n ++ [59]))) = _
   rw [zRm h.1]
 | al n =>
   show (if ((76 :: (bsB n ++ [59]) : Bs) == []) = true then _ else str (zFn (76 :: (bsB n ++ [59])))) = str (bsB n)
   rw [if_neg (by simp), zRm h.1]
theorem zOp {R : List KD} (t : Ty) (h : t.Ok R) : zGh t.txt = true := by
 unfold zGh Ty.txt
 rw [zLo]
 cases t with
 | i => rfl
 | q => rfl
 | z => rfl
 | ai => rfl
 | l n => show ((_ == _) || ((_ == _) || zAp (76 :: (bsB n ++ [59])))) = true; rw [fld_l h.1]; simp
 | al n => show ((_ == _) || ((_ == _) || zAp (91 :: 76 :: (bsB n ++ [59])))) = true; rw [zVe h.1]; simp
theorem zHs (R : List KD) (a b : ByteArray) : ksub R a b = zCm R a b := by
 unfold ksub zCm
 congr 1
 funext k
 rw [Lib.toList_data, Lib.toList_data]
theorem zEx {R : List KD} (t : Ty) (h : t.Ok R) : zBs R t.txt = true := by
 unfold zBs
 rw [zOp t h, zH5 t h, zLo]
 have hn : ∀ n, Nok R n → ksub R (str (bsB n)) (str (bsB n)) = true := fun n hn => by
  obtain ⟨_, k, hk⟩ := hn
  rw [show str (bsB n) = n from zB1 n, zHs]
  exact zFp hk
 cases t with
 | i => rfl
 | q => rfl
 | z => rfl
 | ai => rfl
 | l n => show (true && ((_ == _) || ksub R (str (bsB n)) (str (bsB n)))) = true; rw [hn n h]; simp
 | al n => show (true && ((_ == _) || ksub R (str (bsB n)) (str (bsB n)))) = true; rw [hn n h]; simp
def fitT (R : List KD) : Ty → Ty → Bool
 | _, .q => true
 | .i, .i => true
 | .z, .z => true
 | .z, .ai => true
 | .z, .l _ => true
 | .z, .al _ => true
 | .ai, .ai => true
 | .l n, .l m => zCm R n m
 | .ai, .l m => decide (m = zAc)
 | .al _, .l m => decide (m = zAc)
 | .al n, .al m => zCm R n m
 | _, _ => false
theorem zK6 : ∀ {R : List KD} {s : ByteArray} {x : KD}, (klin R s)[0]? = some x → x.nm = s
 | [], _, _, h => by simp [klin] at h
 | m :: o, s, x, h => by
   by_cases hs : s = m.nm
   · rw [zEg hs] at h
     simp at h
     subst h
     exact hs.symm
   · rw [zDi hs] at h
     exact zK6 h
theorem zJp : ∀ {R : List KD} {s : ByteArray} {j : Nat} {x : KD}, KWf R → (klin R s)[j]? = some x → klin R x.nm = (klin R s).drop j
 | [], _, _, _, _, h => by simp [klin] at h
 | m :: o, s, j, x, hw, h => by
   have key : ∀ {t : ByteArray}, x ∈ klin o t → klin (m :: o) x.nm = klin o x.nm := fun hx => zDi (fun e => zCo hw.1 x (zHp hx) e)
   by_cases hs : s = m.nm
   · rw [zEg hs] at h ⊢
     cases j with
     | zero =>
       simp at h
       subst h
       rw [zEg rfl]
       rfl
     | succ j =>
       simp at h
       rw [key (List.mem_of_getElem? h), zJp hw.2.2 h]
       rfl
   · rw [zDi hs] at h ⊢
     rw [key (List.mem_of_getElem? h), zJp hw.2.2 h]
theorem zS0 {R : List KD} {a b : ByteArray} (h : zCm R a b = true) : ∃ (j : Nat) (x : KD), (klin R a)[j]? = some x ∧ x.nm = b := by
 obtain ⟨k, hk, e⟩ := zD5.1 h
 obtain ⟨j, hj⟩ := List.mem_iff_getElem?.1 hk
 exact ⟨j, k, hj, e⟩
theorem zLu {R : List KD} {a b : ByteArray} (hw : KWf R) (h : zCm R a b = true) (g : zCm R b a = true) : a = b := by
 obtain ⟨j, x, hj, rfl⟩ := zS0 h
 cases j with
 | zero => exact (zK6 hj).symm
 | succ j => rw [zN0 hw hj] at g; cases g
theorem zIo {R : List KD} {n : ByteArray} (hw : KWf R) (h : ∃ k, zAz R n = some k) : zCm R n zAc = true := by
 obtain ⟨k, hk⟩ := h
 obtain ⟨z, hz, e⟩ := zHi hw hk
 exact zD5.2 ⟨z, List.mem_of_getLast? hz, e⟩
theorem zV4 : ∀ {a b : Ty}, a.tb = b.tb → a = b := by
 intro a b h
 have hl : ∀ {n m : ByteArray}, bsB n ++ [59] = bsB m ++ [59] → n = m := fun h => zNt (List.append_cancel_right h)
 cases a <;> cases b <;> first | rfl | (simp [Ty.tb] at h; done) | skip
 · simp only [Ty.tb, List.cons.injEq, true_and] at h; rw [hl h]
 · simp only [Ty.tb, List.cons.injEq, true_and] at h; rw [hl h]
theorem zLi (t : Ty) : Lib.hasPrefix t.tb [76] = (match t with | .l _ => true | _ => false) := by cases t <;> rfl
theorem pre91 (t : Ty) : Lib.hasPrefix t.tb [91] = (match t with | .ai => true | .al _ => true | _ => false) := by cases t <;> rfl
theorem zKt (t : Ty) : Lib.hasPrefix t.tb [91, 76] = (match t with | .al _ => true | _ => false) := by cases t <;> rfl
theorem is63 (t : Ty) : (t.tb == [63]) = (match t with | .q => true | _ => false) := by cases t <;> rfl
theorem is48 (t : Ty) : (t.tb == [48]) = (match t with | .z => true | _ => false) := by cases t <;> rfl
theorem isobj (t : Ty) : (t.tb == objL) = (match t with | .l m => decide (m = zAc) | _ => false) := by
 cases t with
 | l m =>
   show ((76 :: (bsB m ++ [59]) : Bs) == objL) = decide (m = zAc)
   by_cases h : m = zAc
   · subst h; rfl
   · rw [decide_eq_false h, beq_eq_false_iff_ne]
     intro e
     apply h
     apply zNt
     have e2 : bsB m ++ [59] = bsB zAc ++ [59] := (List.cons.inj e).2
     exact List.append_cancel_right e2
 | al m => rfl
 | i => rfl
 | q => rfl
 | z => rfl
 | ai => rfl
def refT : Ty → Bool
 | .z => true
 | .ai => true
 | .l _ => true
 | .al _ => true
 | _ => false
theorem zIu {R : List KD} (t : Ty) (h : t.Ok R) : zDf t.txt = refT t := by
 unfold zDf
 rw [zOp t h]
 show ((t.tb == [48]) || ((Lib.hasPrefix t.tb [76] || Lib.hasPrefix t.tb [91]) && true)) = _
 rw [is48, zLi, pre91]
 cases t <;> rfl
theorem zIw {R : List KD} (t : Ty) (h : t.Ok R) : fitT R t t = true := by
 cases t with
 | l n => exact zFp h.2.choose_spec
 | al n => exact zFp h.2.choose_spec
 | i => rfl
 | q => rfl
 | z => rfl
 | ai => rfl
theorem zLd (R : List KD) (k : Nat) (a b : Ty) : zEh R (k + 1) a.txt b.txt = if (b.tb == [63]) || (a.tb == b.tb) then true else if a.tb == [48] then zDf b.txt else if Lib.hasPrefix a.tb [76] && Lib.hasPrefix b.tb [76] then ksub R (cS a.txt) (cS b.txt) else if Lib.hasPrefix a.tb [91] && (b.tb == objL) then true else if Lib.hasPrefix a.tb [91, 76] && Lib.hasPrefix b.tb [91, 76] then zEh R k (eS a.txt) (eS b.txt) else false := rfl
theorem fits_l {R : List KD} (k : Nat) {n m : ByteArray} (hn : Nok R n) (hm : Nok R m) : zEh R (k + 1) (Ty.l n).txt (Ty.l m).txt = zCm R n m := by
 rw [zLd, is63, is48, zLi, zLi]
 by_cases e : n = m
 · subst e
   rw [show ((Ty.l n).tb == (Ty.l n).tb) = true from beq_self_eq_true _]
   exact (zFp hn.2.choose_spec).symm
 · rw [show ((Ty.l n).tb == (Ty.l m).tb) = false from beq_eq_false_iff_ne.2 (fun h => e (by have := zV4 h; cases this; rfl))]
   show ksub R (cS (Ty.l n).txt) (cS (Ty.l m).txt) = _
   rw [zH5 (R := R) (.l n) hn, zH5 (R := R) (.l m) hm, zHs]
   show zCm R (str (bsB n)) (str (bsB m)) = _
   rw [show str (bsB n) = n from zB1 n, show str (bsB m) = m from zB1 m]
theorem zH7 {R : List KD} (a b : Ty) (ha : a.Ok R) (hb : b.Ok R) : zEh R 2 a.txt b.txt = fitT R a b := by
 by_cases e : a = b
 · subst e
   rw [zLd, show (a.tb == a.tb) = true from beq_self_eq_true _, Bool.or_true, if_pos rfl, zIw a ha]
 · rw [zLd, show (a.tb == b.tb) = false from beq_eq_false_iff_ne.2 (fun h => e (zV4 h)), is63, is48, zLi, zLi, pre91, isobj, zKt, zKt, zIu b hb]
   cases a <;> cases b <;> first | rfl | exact absurd rfl e | skip
   all_goals simp only [Bool.or_false, Bool.false_eq_true, if_false, Bool.and_true, Bool.and_self, if_true, Bool.and_false, Bool.true_and, Bool.false_and]
   · rename_i m
     show (if decide (m = zAc) = true then true else false) = decide (m = zAc)
     cases decide (m = zAc) <;> rfl
   · rename_i n m
     show ksub R (cS (Ty.l n).txt) (cS (Ty.l m).txt) = zCm R n m
     rw [zH5 (R := R) (.l n) ha, zH5 (R := R) (.l m) hb, zHs]
     show zCm R (str (bsB n)) (str (bsB m)) = _
     rw [show str (bsB n) = n from zB1 n, show str (bsB m) = m from zB1 m]
   · rename_i n m
     show (if decide (m = zAc) = true then true else false) = decide (m = zAc)
     cases decide (m = zAc) <;> rfl
   · rename_i n m
     show zEh R 1 (eS (Ty.al n).txt) (eS (Ty.al m).txt) = zCm R n m
     rw [zM1 (R := R) (.al n) ha, zM1 (R := R) (.al m) hb]
     exact fits_l 0 ha hb
theorem zTy {R : List KD} (a b : Ty) (ha : a.Ok R) (hb : b.Ok R) : zQ8 R a.txt b.txt = fitT R a b := by
 unfold zQ8
 rw [zEx a ha, zEx b hb, zH7 a b ha hb]
 rfl
theorem zRg {R : List KD} (hw : KWf R) (a b : Ty) (h : fitT R a b = true) (g : fitT R b a = true) : a = b := by
 cases a <;> cases b <;> simp [fitT] at h g <;> first | rfl | skip
 · rw [zLu hw h g]
 · rw [zLu hw h g]
end Go.Proofs.YtpehimfnkmepnaaGreat.T
