import Derived.Test.YtpehimfnkmepnaaGreatBy15
set_option maxRecDepth 8000
set_option maxHeartbeats 40000000
namespace Go.Proofs.YtpehimfnkmepnaaGreat.Q.D
open Go.RowKit
theorem zBb (s : ByteArray) (w : World) (hs : s.size ≤ 9223372036854775807) :
 Calls Tryz.prog 116 #[.string s] w fun e w' => e = .returned (.string (str (zFq s.data.toList))) ∧ w' = w := by
 have hN := zA0 (zB5 s w hs)
 unfold zFq
 by_cases h1 : zAp s.data.toList = true
 · have h0 := zHd h1
   rw [if_pos h1]
   rw [h1] at hN
   by_cases h2 : s[0].toNat = 76
   · rw [if_pos (show s.data.toList[0]? = some 76 from (at0 s h0 76 (by omega)).2 h2)]
     have b : ((s[0].toNat : Int) == 76) = true := by simp; omega
     have h3 : 2 ≤ s.size := by
      rcases Nat.lt_or_ge s.size 2 with h | h
      · exfalso
        have hl : s.data.toList = [76] := by
         have e := zCe s 0 h0
         rw [List.drop_zero, List.drop_eq_nil_of_le (by rw [← zA7]; omega), zFu h2 (by omega)] at e
         exact e
        rw [hl] at h1
        exact absurd h1 (by decide)
      · exact h
     have e := zLb s 1 (s.size - 1)
     rw [show s.size - 1 - 1 = s.data.toList.length - 2 by rw [← zA7]; omega] at e
     generalize str (List.take (s.data.toList.length - 2) (List.drop 1 s.data.toList)) = X at *
     clear h1
     go_enter Tryz.func116, Tryz.ntmps116
     go_wp2_with fail
     refine hN.out.mono ?_
     rintro e w' ⟨rfl, hww⟩; cases hww
     go_wp2
     go_ret
     exact ⟨rfl, rfl⟩
   · rw [if_neg (show ¬ s.data.toList[0]? = some 76 from fun h => h2 ((at0 s h0 76 (by omega)).1 h))]
     have b : ((s[0].toNat : Int) == 76) = false := by simp; omega
     by_cases h3 : s[0].toNat = 91
     · rw [if_pos (show s.data.toList[0]? = some 91 from (at0 s h0 91 (by omega)).2 h3)]
       have b2 : ((s[0].toNat : Int) == 91) = true := by simp; omega
       clear h1
       go_enter Tryz.func116, Tryz.ntmps116
       go_wp2_with fail
       refine hN.out.mono ?_
       rintro e w' ⟨rfl, hww⟩; cases hww
       go_wp2
       go_ret
       exact ⟨rfl, rfl⟩
     · rw [if_neg (show ¬ s.data.toList[0]? = some 91 from fun h => h3 ((at0 s h0 91 (by omega)).1 h))]
       have b2 : ((s[0].toNat : Int) == 91) = false := by simp; omega
       clear h1
       go_enter Tryz.func116, Tryz.ntmps116
       go_wp2_with fail
       refine hN.out.mono ?_
       rintro e w' ⟨rfl, hww⟩; cases hww
       go_wp2
       go_ret
       exact ⟨rfl, rfl⟩
 · rw [if_neg h1]
   simp only [Bool.not_eq_true] at h1
   rw [h1] at hN
   clear h1
   go_enter Tryz.func116, Tryz.ntmps116
   go_wp2_with fail
   refine hN.out.mono ?_
   rintro e w' ⟨rfl, hww⟩; cases hww
   go_wp2
   go_ret
   exact ⟨rfl, rfl⟩
theorem zRx (s : ByteArray) (w : World) (hs : s.size ≤ 1073741824) :
 Calls Tryz.prog 75 #[.string s] w fun e w' => e = .returned (.string (str (76 :: (s.data.toList ++ [59])))) ∧ w' = w := by
 go_enter Tryz.func75, Tryz.ntmps75
 go_wp2
 go_ret
 refine ⟨?_, rfl⟩
 rw [← zSd (s := { data := #[76] } ++ s ++ { data := #[59] }) (by rw [zHj, zHj]; simp)]
 rfl
end Go.Proofs.YtpehimfnkmepnaaGreat.Q.D
namespace Go.Proofs.YtpehimfnkmepnaaGreat.T
open Go.RowKit Q Q.D K
def eS (s : ByteArray) : ByteArray := str (zEm (bsB s)).1
def cS (s : ByteArray) : ByteArray := if bsB (eS s) == [] then str (zFq (bsB s)) else str (zFq (bsB (eS s)))
theorem zGg (s : ByteArray) : (eS s).size ≤ s.size := by
 unfold eS zEm
 rw [zDq, zA7]
 split
 · simp
 · simp
def ksub (R : List KD) (a b : ByteArray) : Bool := (klin R a).any fun k => bsB k.nm == bsB b
theorem any_map {α β : Type} (f : α → β) (p : β → Bool) (l : List α) : (l.map f).any p = l.any (fun x => p (f x)) := by rw [List.any_map]; rfl
theorem zO1 (R : List Mem) (a b : ByteArray) : subB R a b = ksub (R.map Mem.k) a b := by
 unfold subB ksub
 rw [← zLt, any_map]
 congr 1
 funext m
 rw [Lib.toList_data, Lib.toList_data]
def zGj (s : ByteArray) : Bool := (bsB s == [63]) || ((bsB s == [48]) || zAp (bsB s))
theorem zUt (s : ByteArray) : zCz s = zGj s := by unfold zCz zGj; rw [Lib.toList_data]
def zDf (s : ByteArray) : Bool := (bsB s == [48]) || ((Lib.hasPrefix (bsB s) [76] || Lib.hasPrefix (bsB s) [91]) && zGj s)
def zBs (R : List KD) (s : ByteArray) : Bool := zGj s && ((bsB (cS s) == []) || ksub R (cS s) (cS s))
def zD7 (a b : ByteArray) (p : Bs) : Bool := Lib.hasPrefix (bsB a) p && Lib.hasPrefix (bsB b) p
def objL : Bs := [76, 79, 98, 106, 101, 99, 116, 59]
def zEi (R : List KD) : Nat → ByteArray → ByteArray → Bool
 | 0, _, _ => false
 | n + 1, a, b => if (bsB b == [63]) || (bsB a == bsB b) then true else if bsB a == [48] then zDf b else if zD7 a b [76] then ksub R (cS a) (cS b) else if Lib.hasPrefix (bsB a) [91] && (bsB b == objL) then true else if zD7 a b [91, 76] then zEi R n (eS a) (eS b) else false
def zPu (R : List KD) (a b : ByteArray) : Bool := zBs R a && (zBs R b && zEi R 2 a b)
def zCx (R : List KD) (a b : ByteArray) : ByteArray := match (klin R a).find? (fun k => ksub R b k.nm) with | some k => k.nm | none => zAc
def refS (s : ByteArray) : ByteArray := str (76 :: (bsB s ++ [59]))
def zHw (R : List KD) : Nat → ByteArray → ByteArray → ByteArray
 | 0, _, _ => ⟨#[]⟩
 | n + 1, a, b => if (zBs R a && zBs R b) = false then ⟨#[63]⟩ else if zEi R 2 b a then a else if zEi R 2 a b then b else if zD7 a b [76] then refS (zCx R (cS a) (cS b)) else if zD7 a b [91, 76] then ⟨#[91]⟩ ++ zHw R n (eS a) (eS b) else if zDf a && zDf b then str objL else ⟨#[63]⟩
def zQ0 (R : List KD) (a b : ByteArray) : ByteArray := zHw R 2 a b
theorem zMu (s : ByteArray) (w : World) (hs : s.size ≤ 9223372036854775807) : Calls Tryz.prog 77 #[.string s] w fun e w' => e = .returned (.string (eS s)) ∧ w' = w := by
 have hE := D.zA0 (zP7 s w hs)
 unfold eS
 go_enter Tryz.func77, Tryz.ntmps77
 go_wp2_with (go_at_call 120; refine hE.out.mono ?_; rintro e w' ⟨rfl, hww⟩; cases hww)
 go_ret
 exact ⟨rfl, rfl⟩
theorem zJc (s : ByteArray) (w : World) (hs : s.size ≤ 9223372036854775807) : Calls Tryz.prog 64 #[.string s] w fun e w' => e = .returned (.string (cS s)) ∧ w' = w := by
 have hE := D.zA0 (zMu s w hs)
 have hz := zGg s
 have t1 : ((eS s).toList == []) = (bsB (eS s) == []) := by rw [Lib.toList_data]
 have t2 : ((eS s).toList != []) = !(bsB (eS s) == []) := by rw [← t1]; rfl
 unfold cS
 generalize eS s = E at *
 have hC1 := D.zA0 (zBb s w hs)
 have hC2 := D.zA0 (zBb E w (by omega))
 cases h : bsB E == []
 · rw [h] at t1 t2
   go_enter Tryz.func64, Tryz.ntmps64
   go_wp2_with (first | (go_at_call 77; refine hE.out.mono ?_; rintro e w' ⟨rfl, hww⟩; cases hww) | (go_at_call 116; refine hC2.out.mono ?_; rintro e w' ⟨rfl, hww⟩; cases hww))
   go_ret
   exact ⟨rfl, rfl⟩
 · rw [h] at t1 t2
   go_enter Tryz.func64, Tryz.ntmps64
   go_wp2_with (first | (go_at_call 77; refine hE.out.mono ?_; rintro e w' ⟨rfl, hww⟩; cases hww) | (go_at_call 116; refine hC1.out.mono ?_; rintro e w' ⟨rfl, hww⟩; cases hww))
   go_ret
   exact ⟨rfl, rfl⟩
theorem zPe (a b p : ByteArray) (w : World) : Calls Tryz.prog 74 #[.string a, .string b, .string p] w fun e w' => e = .returned (.bool (zD7 a b (bsB p))) ∧ w' = w := by
 have h1 := D.zA0 (Tryz.strings_HasPrefix a p w)
 have h2 := D.zA0 (Tryz.strings_HasPrefix b p w)
 unfold zD7 bsB
 generalize Lib.hasPrefix a.data.toList p.data.toList = x at *
 generalize Lib.hasPrefix b.data.toList p.data.toList = y at *
 cases x
 · go_enter Tryz.func74, Tryz.ntmps74
   go_wp2_with (go_at_call 71; refine h1.out.mono ?_; rintro e w' ⟨rfl, hww⟩; cases hww)
   go_ret
   exact ⟨rfl, rfl⟩
 · go_enter Tryz.func74, Tryz.ntmps74
   go_wp2_with fail
   refine h1.out.mono ?_; rintro e w' ⟨rfl, hww⟩; cases hww
   go_wp2_with fail
   refine h2.out.mono ?_; rintro e w' ⟨rfl, hww⟩; cases hww
   go_wp2_with fail
   go_ret
   exact ⟨by simp, rfl⟩
theorem zN8 (s : ByteArray) (w : World) (hs : s.size ≤ 9223372036854775807) : Calls Tryz.prog 21 #[.string s] w fun e w' => e = .returned (.bool (zDf s)) ∧ w' = w := by
 have h1 := D.zA0 (Tryz.strings_HasPrefix s ⟨#[76]⟩ w)
 have h2 := D.zA0 (Tryz.strings_HasPrefix s ⟨#[91]⟩ w)
 have h3 := D.zA0 (zL4 s w hs)
 rw [zUt] at h3
 have t1 : (s.toList == [48]) = (bsB s == [48]) := by rw [Lib.toList_data]
 unfold zDf
 change Hid (Calls _ _ _ _ fun e w' => e = .returned (.bool (Lib.hasPrefix (bsB s) [76])) ∧ w' = w) at h1
 change Hid (Calls _ _ _ _ fun e w' => e = .returned (.bool (Lib.hasPrefix (bsB s) [91])) ∧ w' = w) at h2
 generalize Lib.hasPrefix (bsB s) [76] = x at *
 generalize Lib.hasPrefix (bsB s) [91] = y at *
 generalize zGj s = z at *
 cases hq : bsB s == [48]
 · rw [hq] at t1
   cases x
   · cases y
     · go_enter Tryz.func21, Tryz.ntmps21
       go_wp2_with fail
       refine h1.out.mono ?_; rintro e w' ⟨rfl, hww⟩; cases hww
       go_wp2_with fail
       refine h2.out.mono ?_; rintro e w' ⟨rfl, hww⟩; cases hww
       go_wp2_with fail
       go_ret
       exact ⟨rfl, rfl⟩
     · go_enter Tryz.func21, Tryz.ntmps21
       go_wp2_with fail
       refine h1.out.mono ?_; rintro e w' ⟨rfl, hww⟩; cases hww
       go_wp2_with fail
       refine h2.out.mono ?_; rintro e w' ⟨rfl, hww⟩; cases hww
       go_wp2_with fail
       refine h3.out.mono ?_; rintro e w' ⟨rfl, hww⟩; cases hww
       go_wp2_with fail
       go_ret
       exact ⟨by simp, rfl⟩
   · go_enter Tryz.func21, Tryz.ntmps21
     go_wp2_with fail
     refine h1.out.mono ?_; rintro e w' ⟨rfl, hww⟩; cases hww
     go_wp2_with fail
     refine h3.out.mono ?_; rintro e w' ⟨rfl, hww⟩; cases hww
     go_wp2_with fail
     go_ret
     exact ⟨by simp, rfl⟩
 · rw [hq] at t1
   go_enter Tryz.func21, Tryz.ntmps21
   go_wp2_with fail
   go_ret
   exact ⟨rfl, rfl⟩
theorem zFs (w : World) (pk : Nat) (R : List Mem) (mb : Nat) (ao : Option Addr) (c : Nat) (h : KinV w pk R mb ao c) (s : ByteArray) (hs : s.size ≤ 9223372036854775000) :
 Calls Tryz.prog 19 #[.pointer (some ⟨pk, 0, none⟩), .string s] w fun e w' => e = .returned (.bool (zBs (R.map Mem.k) s)) ∧ Below w.heap.size w w' := by
 have h1 := D.zA0 (zJc s w (by omega))
 have h2 := D.zA0 (zL4 s w (by omega))
 have h3 := D.zA0 (zNl w pk R mb ao c h (cS s) (cS s))
 rw [zUt] at h2
 rw [zO1] at h3
 unfold zBs
 have t1 : ((cS s).toList == []) = (bsB (cS s) == []) := by rw [Lib.toList_data]
 generalize zGj s = z at *
 generalize cS s = C at *
 generalize ksub (R.map Mem.k) C C = q at *
 cases z
 · go_enter Tryz.func19, Tryz.ntmps19
   go_wp2_with fail
   refine h1.out.mono ?_; rintro e w' ⟨rfl, hww⟩; cases hww
   go_wp2_with fail
   refine h2.out.mono ?_; rintro e w' ⟨rfl, hww⟩; cases hww
   go_wp2_with fail
   go_ret
   exact ⟨rfl, Below.refl _ _⟩
 · cases hq : bsB C == []
   · rw [hq] at t1
     go_enter Tryz.func19, Tryz.ntmps19
     go_wp2_with fail
     refine h1.out.mono ?_; rintro e w' ⟨rfl, hww⟩; cases hww
     go_wp2_with fail
     refine h2.out.mono ?_; rintro e w' ⟨rfl, hww⟩; cases hww
     go_wp2_with fail
     refine h3.out.mono ?_; rintro e w' ⟨rfl, hb⟩
     go_wp2_with fail
     go_ret
     exact ⟨by simp, hb⟩
   · rw [hq] at t1
     go_enter Tryz.func19, Tryz.ntmps19
     go_wp2_with fail
     refine h1.out.mono ?_; rintro e w' ⟨rfl, hww⟩; cases hww
     go_wp2_with fail
     refine h2.out.mono ?_; rintro e w' ⟨rfl, hww⟩; cases hww
     go_wp2_with fail
     go_ret
     exact ⟨rfl, Below.refl _ _⟩
end Go.Proofs.YtpehimfnkmepnaaGreat.T
namespace Go.Proofs.YtpehimfnkmepnaaGreat.K
open Go.RowKit Q Q.D
def KWf : List KD → Prop
 | [] => True
 | k :: o => zAz o k.nm = none ∧ ((o = [] ∧ k.nm = zAc) ∨ ∃ m, zAz o k.sup = some m) ∧ KWf o
theorem zF8 {a b : ByteArray} : (a == b) = true ↔ a = b := MapKept.bytes_beq a b
theorem zD8 : ∀ {R : List KD} {s : ByteArray} {k : KD}, zAz R s = some k → k.nm = s ∧ k ∈ R
 | [], _, _, h => by simp [zAz] at h
 | m :: o, s, k, h => by
   unfold zAz at h
   split at h
   · rename_i hs
     cases h
     exact ⟨(zF8.1 hs).symm, by simp⟩
   · have := zD8 h
     exact ⟨this.1, by simp [this.2]⟩
theorem zCn : ∀ {R : List KD} {s : ByteArray}, zAz R s = none → ∀ k ∈ R, k.nm ≠ s
 | [], _, _ => fun k hk => by simp at hk
 | m :: o, s, h => by
   unfold zAz at h
   split at h
   · cases h
   · rename_i hs
     intro k hk
     rcases List.mem_cons.1 hk with rfl | hk
     · intro e
       exact hs (zF8.2 e.symm)
     · exact zCn h k hk
theorem zHn : ∀ {R : List KD} {s : ByteArray} {k : KD}, k ∈ klin R s → k ∈ R
 | [], _, _, h => by simp [klin] at h
 | x :: R, s, m, h => by
   unfold klin at h
   split at h
   · rcases List.mem_cons.1 h with rfl | h
     · simp
     · simp [zHn h]
   · simp [zHn h]
theorem zEe {m : KD} {o : List KD} {s : ByteArray} (h : s = m.nm) : klin (m :: o) s = m :: klin o m.sup := by
 show (if s == m.nm then m :: klin o m.sup else klin o s) = _
 rw [if_pos (zF8.2 h)]
theorem zDh {m : KD} {o : List KD} {s : ByteArray} (h : s ≠ m.nm) : klin (m :: o) s = klin o s := by
 conv => lhs; unfold klin
 rw [if_neg (fun e => h (zF8.1 e))]
theorem zCf {m : KD} {o : List KD} {s : ByteArray} (h : s = m.nm) : zAz (m :: o) s = some m := by
 unfold zAz
 rw [if_pos (zF8.2 h)]
theorem zDb {m : KD} {o : List KD} {s : ByteArray} (h : s ≠ m.nm) : zAz (m :: o) s = zAz o s := by
 conv => lhs; unfold zAz
 rw [if_neg (fun e => h (zF8.1 e))]
theorem zJ2 : ∀ {R : List KD} {s : ByteArray} {k : KD}, zAz R s = some k → ∃ t, klin R s = k :: t
 | [], _, _, h => by simp [zAz] at h
 | m :: o, s, k, h => by
   by_cases hs : s = m.nm
   · rw [zCf hs] at h
     cases h
     exact ⟨_, zEe hs⟩
   · rw [zDb hs] at h
     rw [zDh hs]
     exact zJ2 h
theorem zH0 : ∀ {R : List KD} {s : ByteArray} {k : KD}, KWf R → k ∈ klin R s → zAz R k.nm = some k
 | [], _, _, _, h => by simp [klin] at h
 | m :: o, s, k, hw, h => by
   have older : ∀ {t : ByteArray}, k ∈ klin o t → zAz (m :: o) k.nm = some k := fun hk => by
    rw [zDb (fun e => zCn hw.1 k (zHn hk) e)]
    exact zH0 hw.2.2 hk
   by_cases hs : s = m.nm
   · rw [zEe hs] at h
     rcases List.mem_cons.1 h with rfl | h
     · exact zCf rfl
     · exact older h
   · rw [zDh hs] at h
     exact older h
theorem zGx : ∀ {R : List KD} {s : ByteArray} {k : KD}, KWf R → zAz R s = some k → ∃ z, (klin R s).getLast? = some z ∧ z.nm = zAc
 | [], _, _, _, h => by simp [zAz] at h
 | m :: o, s, k, hw, h => by
   by_cases hs : s = m.nm
   · rw [zEe hs]
     rcases hw.2.1 with ⟨rfl, he⟩ | ⟨p, hp⟩
     · exact ⟨m, rfl, he⟩
     · obtain ⟨z, hz, hzn⟩ := zGx hw.2.2 hp
       refine ⟨z, ?_, hzn⟩
       obtain ⟨t, ht⟩ := zJ2 hp
       rw [ht] at hz ⊢
       rw [List.getLast?_cons_cons]
       exact hz
   · rw [zDb hs] at h
     rw [zDh hs]
     exact zGx hw.2.2 h
def zCl (R : List KD) (a b : ByteArray) : Bool := (klin R a).any fun k => k.nm.toList == b.toList
theorem zVf {a b : ByteArray} : (a.toList == b.toList) = true ↔ a = b := ⟨fun h => zCj (eq_of_beq h), fun h => by rw [h]; exact beq_self_eq_true _⟩
theorem zD6 {R : List KD} {a b : ByteArray} : zCl R a b = true ↔ ∃ k ∈ klin R a, k.nm = b := by
 unfold zCl
 rw [List.any_eq_true]
 exact ⟨fun ⟨k, hk, e⟩ => ⟨k, hk, zVf.1 e⟩, fun ⟨k, hk, e⟩ => ⟨k, hk, zVf.2 e⟩⟩
theorem zFk {R : List KD} {s : ByteArray} {k : KD} (h : zAz R s = some k) : zCl R s s = true := by
 obtain ⟨t, ht⟩ := zJ2 h
 exact zD6.2 ⟨k, by rw [ht]; simp, (zD8 h).1⟩
theorem zR1 {R : List KD} {s : ByteArray} {k : KD} (h : k ∈ klin R s) : zCl R s k.nm = true := zD6.2 ⟨k, h, rfl⟩
theorem zMe : ∀ {R : List KD} {s : ByteArray} {j : Nat} {x : KD}, KWf R → (klin R s)[j + 1]? = some x → zCl R x.nm s = false
 | [], _, _, _, _, h => by simp [klin] at h
 | m :: o, s, j, x, hw, h => by
   have key : ∀ {t : ByteArray}, x ∈ klin o t → klin (m :: o) x.nm = klin o x.nm := fun hx => zDh (fun e => zCn hw.1 x (zHn hx) e)
   by_cases hs : s = m.nm
   · rw [zEe hs] at h
     simp at h
     have hx := List.mem_of_getElem? h
     rw [Bool.eq_false_iff]
     intro e
     obtain ⟨k, hk, he⟩ := zD6.1 e
     rw [key hx] at hk
     exact zCn hw.1 k (zHn hk) (he.trans hs)
   · rw [zDh hs] at h
     have hx := List.mem_of_getElem? h
     have ih := zMe hw.2.2 h
     unfold zCl at ih ⊢
     rw [key hx]
     exact ih
theorem zSx {R : List KD} {k : KD} (h : zG5 R k = 0) : zAz R k.nm = none ∧ R.length < 32 ∧ ∃ m, zAz R k.sup = some m := by
 unfold zG5 at h
 split at h
 case isFalse hr => exact absurd h hr
 split at h
 · cases h
 · split at h
   · cases h
   · split at h
     · cases h
     · rename_i h2 h3 h4
       refine ⟨?_, by omega, ?_⟩
       · cases e : zAz R k.nm with
         | none => rfl
         | some m => rw [e] at h2; simp at h2
       · cases e : zAz R k.sup with
         | none => rw [e] at h4; simp at h4
         | some m => exact ⟨m, rfl⟩
theorem KWf.add {R : List KD} {k : KD} (hw : KWf R) (h : zG5 R k = 0) : KWf (k :: R) := ⟨(zSx h).1, .inr (zSx h).2.2, hw⟩
def kwfB : List KD → Bool
 | [] => true
 | k :: o => (zAz o k.nm).isNone && ((o.isEmpty && (k.nm == zAc)) || (zAz o k.sup).isSome) && kwfB o
theorem zV2 : ∀ {R : List KD}, kwfB R = true → KWf R
 | [], _ => trivial
 | k :: o, h => by
   unfold kwfB at h
   simp only [Bool.and_eq_true, Bool.or_eq_true] at h
   obtain ⟨⟨h1, h2⟩, h3⟩ := h
   refine ⟨Option.isNone_iff_eq_none.1 h1, ?_, zV2 h3⟩
   rcases h2 with ⟨h2, h4⟩ | h2
   · exact .inl ⟨List.isEmpty_iff.1 h2, zF8.1 h4⟩
   · exact .inr (Option.isSome_iff_exists.1 h2)
theorem zR8 : KWf zBf.reverse := zV2 (by decide +kernel)
end Go.Proofs.YtpehimfnkmepnaaGreat.K
namespace Go.Proofs.YtpehimfnkmepnaaGreat.T
open Go.RowKit Q Q.D K
inductive Ty
 | i | q | z | ai
 | l (n : ByteArray)
 | al (n : ByteArray)
def Ty.tb : Ty → Bs
 | .i => [73]
 | .q => [63]
 | .z => [48]
 | .ai => [91, 73]
 | .l n => 76 :: (bsB n ++ [59])
 | .al n => 91 :: 76 :: (bsB n ++ [59])
def Ty.txt (t : Ty) : ByteArray := str t.tb
def Nok (R : List KD) (n : ByteArray) : Prop := zC8 (bsB n) ∧ ∃ k, zAz R n = some k
def Ty.Ok (R : List KD) : Ty → Prop
 | .l n => Nok R n
 | .al n => Nok R n
 | _ => True
theorem zL5 (l : Bs) : bsB (str l) = l := rfl
theorem zNg {a b : ByteArray} (h : bsB a = bsB b) : a = b := by
 have := congrArg str h
 rwa [show str (bsB a) = a from zB1 a, show str (bsB b) = b from zB1 b] at this
theorem fld_l {n : ByteArray} (h : zC8 (bsB n)) : zAp (76 :: (bsB n ++ [59])) = true := (zBp _).2 (.inl (.inr ⟨_, h, rfl⟩))
theorem zV3 {n : ByteArray} (h : zC8 (bsB n)) : zAp (91 :: 76 :: (bsB n ++ [59])) = true := (zBp _).2 (.inr ⟨_, .inr ⟨_, h, rfl⟩, rfl⟩)
theorem fld_ai : zAp [91, 73] = true := by decide
def Ty.el : Ty → Bs
 | .ai => [73]
 | .al n => 76 :: (bsB n ++ [59])
 | _ => []
theorem zM7 {R : List KD} (t : Ty) (h : t.Ok R) : eS t.txt = str t.el := by
 unfold eS Ty.txt
 rw [zL5]
 unfold zEm
 cases t with
 | i => rfl
 | q => rfl
 | z => rfl
 | ai => rw [if_pos ⟨fld_ai, rfl⟩]; rfl
 | l n => rw [if_neg (fun h => by simp [Ty.tb] at h)]; rfl
 | al n => rw [if_pos ⟨zV3 h.1, rfl⟩]; rfl
def Ty.cl : Ty → Bs
 | .l n => bsB n
 | .al n => bsB n
 | _ => []
theorem zSa {n : ByteArray} (h : zC8 (bsB n)) : zFq (76 :: (bsB n ++ [59])) = bsB n := by
 unfold zFq
 rw [if_pos (fld_l h), if_pos (show (76 :: (bsB n ++ [59]) : Bs)[0]? = some 76 from rfl)]
 simp
theorem zH6 {R : List KD} (t : Ty) (h : t.Ok R) : cS t.txt = str t.cl := by
 unfold cS
 rw [zM7 t h, zL5]
 cases t with
 | i => rfl
 | q => rfl
 | z => rfl
 | ai => rfl
 | l n =>
   show (if (([] : Bs) == []) = true then str (zFq (bsB (Ty.txt (.l n)))) else _) = str (bsB n)
   rw [if_pos (show (([] : Bs) == []) = true from rfl)]
   show str (zFq (76 :: (bsB n ++ [59]))) = _
   rw [zSa h.1]
 | al n =>
   show (if ((76 :: (bsB n ++ [59]) : Bs) == []) = true then _ else str (zFq (76 :: (bsB n ++ [59])))) = str (bsB n)
   rw [if_neg (by simp), zSa h.1]
theorem zOs {R : List KD} (t : Ty) (h : t.Ok R) : zGj t.txt = true := by
 unfold zGj Ty.txt
 rw [zL5]
 cases t with
 | i => rfl
 | q => rfl
 | z => rfl
 | ai => rfl
 | l n => show ((_ == _) || ((_ == _) || zAp (76 :: (bsB n ++ [59])))) = true; rw [fld_l h.1]; simp
 | al n => show ((_ == _) || ((_ == _) || zAp (91 :: 76 :: (bsB n ++ [59])))) = true; rw [zV3 h.1]; simp
theorem zHx (R : List KD) (a b : ByteArray) : ksub R a b = zCl R a b := by
 unfold ksub zCl
 congr 1
 funext k
 rw [Lib.toList_data, Lib.toList_data]
theorem zEn {R : List KD} (t : Ty) (h : t.Ok R) : zBs R t.txt = true := by
 unfold zBs
 rw [zOs t h, zH6 t h, zL5]
 have hn : ∀ n, Nok R n → ksub R (str (bsB n)) (str (bsB n)) = true := fun n hn => by
  obtain ⟨_, k, hk⟩ := hn
  rw [show str (bsB n) = n from zB1 n, zHx]
  exact zFk hk
 cases t with
 | i => rfl
 | q => rfl
 | z => rfl
 | ai => rfl
 | l n => show (true && ((_ == _) || ksub R (str (bsB n)) (str (bsB n)))) = true; rw [hn n h]; simp
 | al n => show (true && ((_ == _) || ksub R (str (bsB n)) (str (bsB n)))) = true; rw [hn n h]; simp
def fitT (R : List KD) : Ty → Ty → Bool
 | _, .q => true
 | .i, .i => true
 | .z, .z => true
 | .z, .ai => true
 | .z, .l _ => true
 | .z, .al _ => true
 | .ai, .ai => true
 | .l n, .l m => zCl R n m
 | .ai, .l m => decide (m = zAc)
 | .al _, .l m => decide (m = zAc)
 | .al n, .al m => zCl R n m
 | _, _ => false
theorem zK5 : ∀ {R : List KD} {s : ByteArray} {x : KD}, (klin R s)[0]? = some x → x.nm = s
 | [], _, _, h => by simp [klin] at h
 | m :: o, s, x, h => by
   by_cases hs : s = m.nm
   · rw [zEe hs] at h
     simp at h
     subst h
     exact hs.symm
   · rw [zDh hs] at h
     exact zK5 h
theorem zJo : ∀ {R : List KD} {s : ByteArray} {j : Nat} {x : KD}, KWf R → (klin R s)[j]? = some x → klin R x.nm = (klin R s).drop j
 | [], _, _, _, _, h => by simp [klin] at h
 | m :: o, s, j, x, hw, h => by
   have key : ∀ {t : ByteArray}, x ∈ klin o t → klin (m :: o) x.nm = klin o x.nm := fun hx => zDh (fun e => zCn hw.1 x (zHn hx) e)
   by_cases hs : s = m.nm
   · rw [zEe hs] at h ⊢
     cases j with
     | zero =>
       simp at h
       subst h
       rw [zEe rfl]
       rfl
     | succ j =>
       simp at h
       rw [key (List.mem_of_getElem? h), zJo hw.2.2 h]
       rfl
   · rw [zDh hs] at h ⊢
     rw [key (List.mem_of_getElem? h), zJo hw.2.2 h]
theorem zSy {R : List KD} {a b : ByteArray} (h : zCl R a b = true) : ∃ (j : Nat) (x : KD), (klin R a)[j]? = some x ∧ x.nm = b := by
 obtain ⟨k, hk, e⟩ := zD6.1 h
 obtain ⟨j, hj⟩ := List.mem_iff_getElem?.1 hk
 exact ⟨j, k, hj, e⟩
theorem zMj {R : List KD} {a b : ByteArray} (hw : KWf R) (h : zCl R a b = true) (g : zCl R b a = true) : a = b := by
 obtain ⟨j, x, hj, rfl⟩ := zSy h
 cases j with
 | zero => exact (zK5 hj).symm
 | succ j => rw [zMe hw hj] at g; cases g
theorem zIm {R : List KD} {n : ByteArray} (hw : KWf R) (h : ∃ k, zAz R n = some k) : zCl R n zAc = true := by
 obtain ⟨k, hk⟩ := h
 obtain ⟨z, hz, e⟩ := zGx hw hk
 exact zD6.2 ⟨z, List.mem_of_getLast? hz, e⟩
theorem zVb : ∀ {a b : Ty}, a.tb = b.tb → a = b := by
 intro a b h
 have hl : ∀ {n m : ByteArray}, bsB n ++ [59] = bsB m ++ [59] → n = m := fun h => zNg (List.append_cancel_right h)
 cases a <;> cases b <;> first | rfl | (simp [Ty.tb] at h; done) | skip
 · simp only [Ty.tb, List.cons.injEq, true_and] at h; rw [hl h]
 · simp only [Ty.tb, List.cons.injEq, true_and] at h; rw [hl h]
theorem zKq (t : Ty) : Lib.hasPrefix t.tb [76] = (match t with | .l _ => true | _ => false) := by cases t <;> rfl
theorem pre91 (t : Ty) : Lib.hasPrefix t.tb [91] = (match t with | .ai => true | .al _ => true | _ => false) := by cases t <;> rfl
theorem zKr (t : Ty) : Lib.hasPrefix t.tb [91, 76] = (match t with | .al _ => true | _ => false) := by cases t <;> rfl
theorem is63 (t : Ty) : (t.tb == [63]) = (match t with | .q => true | _ => false) := by cases t <;> rfl
theorem is48 (t : Ty) : (t.tb == [48]) = (match t with | .z => true | _ => false) := by cases t <;> rfl
theorem isobj (t : Ty) : (t.tb == objL) = (match t with | .l m => decide (m = zAc) | _ => false) := by
 cases t with
 | l m =>
   show ((76 :: (bsB m ++ [59]) : Bs) == objL) = decide (m = zAc)
   by_cases h : m = zAc
   · subst h; rfl
   · rw [decide_eq_false h, beq_eq_false_iff_ne]
     intro e
     apply h
     apply zNg
     have e2 : bsB m ++ [59] = bsB zAc ++ [59] := (List.cons.inj e).2
     exact List.append_cancel_right e2
 | al m => rfl
 | i => rfl
 | q => rfl
 | z => rfl
 | ai => rfl
def refT : Ty → Bool
 | .z => true
 | .ai => true
 | .l _ => true
 | .al _ => true
 | _ => false
theorem zJ0 {R : List KD} (t : Ty) (h : t.Ok R) : zDf t.txt = refT t := by
 unfold zDf
 rw [zOs t h]
 show ((t.tb == [48]) || ((Lib.hasPrefix t.tb [76] || Lib.hasPrefix t.tb [91]) && true)) = _
 rw [is48, zKq, pre91]
 cases t <;> rfl
theorem zJh {R : List KD} (t : Ty) (h : t.Ok R) : fitT R t t = true := by
 cases t with
 | l n => exact zFk h.2.choose_spec
 | al n => exact zFk h.2.choose_spec
 | i => rfl
 | q => rfl
 | z => rfl
 | ai => rfl
theorem zLq (R : List KD) (k : Nat) (a b : Ty) : zEi R (k + 1) a.txt b.txt = if (b.tb == [63]) || (a.tb == b.tb) then true else if a.tb == [48] then zDf b.txt else if Lib.hasPrefix a.tb [76] && Lib.hasPrefix b.tb [76] then ksub R (cS a.txt) (cS b.txt) else if Lib.hasPrefix a.tb [91] && (b.tb == objL) then true else if Lib.hasPrefix a.tb [91, 76] && Lib.hasPrefix b.tb [91, 76] then zEi R k (eS a.txt) (eS b.txt) else false := rfl
theorem fits_l {R : List KD} (k : Nat) {n m : ByteArray} (hn : Nok R n) (hm : Nok R m) : zEi R (k + 1) (Ty.l n).txt (Ty.l m).txt = zCl R n m := by
 rw [zLq, is63, is48, zKq, zKq]
 by_cases e : n = m
 · subst e
   rw [show ((Ty.l n).tb == (Ty.l n).tb) = true from beq_self_eq_true _]
   exact (zFk hn.2.choose_spec).symm
 · rw [show ((Ty.l n).tb == (Ty.l m).tb) = false from beq_eq_false_iff_ne.2 (fun h => e (by have := zVb h; cases this; rfl))]
   show ksub R (cS (Ty.l n).txt) (cS (Ty.l m).txt) = _
   rw [zH6 (R := R) (.l n) hn, zH6 (R := R) (.l m) hm, zHx]
   show zCl R (str (bsB n)) (str (bsB m)) = _
   rw [show str (bsB n) = n from zB1 n, show str (bsB m) = m from zB1 m]
theorem zH9 {R : List KD} (a b : Ty) (ha : a.Ok R) (hb : b.Ok R) : zEi R 2 a.txt b.txt = fitT R a b := by
 by_cases e : a = b
 · subst e
   rw [zLq, show (a.tb == a.tb) = true from beq_self_eq_true _, Bool.or_true, if_pos rfl, zJh a ha]
 · rw [zLq, show (a.tb == b.tb) = false from beq_eq_false_iff_ne.2 (fun h => e (zVb h)), is63, is48, zKq, zKq, pre91, isobj, zKr, zKr, zJ0 b hb]
   cases a <;> cases b <;> first | rfl | exact absurd rfl e | skip
   all_goals simp only [Bool.or_false, Bool.false_eq_true, if_false, Bool.and_true, Bool.and_self, if_true, Bool.and_false, Bool.true_and, Bool.false_and]
   · rename_i m
     show (if decide (m = zAc) = true then true else false) = decide (m = zAc)
     cases decide (m = zAc) <;> rfl
   · rename_i n m
     show ksub R (cS (Ty.l n).txt) (cS (Ty.l m).txt) = zCl R n m
     rw [zH6 (R := R) (.l n) ha, zH6 (R := R) (.l m) hb, zHx]
     show zCl R (str (bsB n)) (str (bsB m)) = _
     rw [show str (bsB n) = n from zB1 n, show str (bsB m) = m from zB1 m]
   · rename_i n m
     show (if decide (m = zAc) = true then true else false) = decide (m = zAc)
     cases decide (m = zAc) <;> rfl
   · rename_i n m
     show zEi R 1 (eS (Ty.al n).txt) (eS (Ty.al m).txt) = zCl R n m
     rw [zM7 (R := R) (.al n) ha, zM7 (R := R) (.al m) hb]
     exact fits_l 0 ha hb
theorem zU9 {R : List KD} (a b : Ty) (ha : a.Ok R) (hb : b.Ok R) : zPu R a.txt b.txt = fitT R a b := by
 unfold zPu
 rw [zEn a ha, zEn b hb, zH9 a b ha hb]
 rfl
theorem zQu {R : List KD} (hw : KWf R) (a b : Ty) (h : fitT R a b = true) (g : fitT R b a = true) : a = b := by
 cases a <;> cases b <;> simp [fitT] at h g <;> first | rfl | skip
 · rw [zMj hw h g]
 · rw [zMj hw h g]
end Go.Proofs.YtpehimfnkmepnaaGreat.T
