import Derived.Test.YtpehimfnkmepnaaGreatBy16
import Derived.Test.YtpehimfnkmepnaaGreatBy15
set_option maxRecDepth 8000
set_option maxHeartbeats 40000000
namespace Go.Proofs.YtpehimfnkmepnaaGreat.P3.D
open Go.RowKit
theorem zEy (s : ByteArray) (w : World) (hs : s.size ≤ 9223372036854775807) :
 Calls Tryz.prog 118 #[.string s] w fun e w' => e = .returned (.bool (zAp s.data.toList)) ∧ w' = w := by
 have hN := zA0 (zGf s w hs)
 by_cases h0 : s.size = 0
 · have e1 : s.data.toList = [] := List.eq_nil_of_length_eq_zero (by rw [← zA7]; exact h0)
   have e2 : s.toList = [] := by rw [Lib.toList_data]; exact e1
   rw [e1, show zAp [] = false from rfl]
   clear e1 hN
   go_enter Tryz.func118, Tryz.ntmps118
   go_wp2
   go_ret
   exact ⟨rfl, rfl⟩
 · have e2 := zCg s (by omega)
   unfold zAp
   rw [← zA7]
   generalize flen s.data.toList = K at *
   by_cases h2 : K = s.size
   · rw [decide_eq_true ⟨by omega, h2⟩]
     have b : ((K : Int) == (s.size : Int)) = true := by simp; omega
     go_enter Tryz.func118, Tryz.ntmps118
     go_wp2_with fail
     refine hN.out.mono ?_
     rintro e w' ⟨rfl, hww⟩; cases hww
     go_wp2
     go_ret
     exact ⟨rfl, rfl⟩
   · rw [decide_eq_false (fun h => h2 h.2)]
     have b : ((K : Int) == (s.size : Int)) = false := by simp; omega
     go_enter Tryz.func118, Tryz.ntmps118
     go_wp2_with fail
     refine hN.out.mono ?_
     rintro e w' ⟨rfl, hww⟩; cases hww
     go_wp2
     go_ret
     exact ⟨rfl, rfl⟩
theorem str_ne {s : ByteArray} {l : Bs} (h : s.data.toList ≠ l) : (s.toList == l) = false := by
 rw [Lib.toList_data]; simpa using h
theorem zNs {ps qs : List Bs} {a b : Bs} (hp : ∀ p ∈ ps, Fld p) (hq : ∀ p ∈ qs, Fld p) (ha : flen a = 0) (hb : flen b = 0) (h : ps.flatten ++ a = qs.flatten ++ b) : ps = qs ∧ a = b := by
 have h1 := zE1 (max ps.length qs.length) ps a hp (Nat.le_max_left _ _) (.inr ha)
 have h2 := zE1 (max ps.length qs.length) qs b hq (Nat.le_max_right _ _) (.inr hb)
 rw [h, h2] at h1
 simp only [Prod.mk.injEq] at h1
 exact ⟨h1.1.symm, h1.2.symm⟩
theorem zKy {l : Bs} {ps : List Bs} {rest : Bs} (he : l = 40 :: (ps.flatten ++ rest)) (hp : ∀ p ∈ ps, Fld p) (h0 : flen rest = 0)
 (h : ∀ r, rest = 41 :: r → ps.length ≤ 8 → (r = [86] ∨ Fld r) → False) : meth l = none := by
 cases hm : meth l with
 | none => rfl
 | some x =>
   exfalso
   obtain ⟨qs, r⟩ := x
   obtain ⟨h1, h2, h3, h4⟩ := zGw hm
   rw [he] at h1
   simp only [List.cons.injEq, true_and] at h1
   obtain ⟨rfl, e⟩ := zNs hp h2 h0 (zDx r) h1
   exact h r e h3 h4
theorem zUa : flen [] = 0 := rfl
theorem zNb (s : ByteArray) (w : World) (h : s.size = 0 ∨ ∃ h : 0 < s.size, s[0].toNat ≠ 40) :
 Calls Tryz.prog 87 #[.string s] w fun e w' => e = .returned (.tuple #[.slice none 0 0, .string ⟨#[]⟩, .bool false]) ∧ w' = w := by
 rcases h with h | ⟨h0, h⟩
 · have e1 : s.data.toList = [] := List.eq_nil_of_length_eq_zero (by rw [← zA7]; exact h)
   have e2 : s.toList = [] := by rw [Lib.toList_data]; exact e1
   clear e1
   go_enter Tryz.func87, Tryz.ntmps87
   go_wp2
   go_ret3
   exact ⟨rfl, rfl⟩
 · have e2 := zCg s h0
   have b : ((s[0].toNat : Int) == 40) = false := by simp; omega
   have b' : ((s[0].toNat : Int) != 40) = true := by simp; omega
   go_enter Tryz.func87, Tryz.ntmps87
   go_wp2
   go_ret3
   exact ⟨rfl, rfl⟩
def zUu : Value → Nat
 | .string s => s.size
 | _ => 0
theorem zMs (s : ByteArray) (w : World) (t : Bs) (hs : s.size ≤ 1073741824) (h : s.data.toList = 40 :: t) :
 Calls Tryz.prog 87 #[.string s] w fun e w' => Below w.heap.size w w' ∧ zFb s.data.toList w.heap.size e w' := by
 obtain ⟨i0, hi, hz0, hz1, hz2⟩ := info_parts Tryz.info9
 have h0 : 0 < s.size := by rw [zA7, h]; simp
 have hc : s[0].toNat = 40 := by
  have := zDg s 0 h0
  rw [h] at this; simp at this; rw [← this]; rfl
 have e2 := zCg s h0
 have b : ((s[0].toNat : Int) == 40) = true := by simp; omega
 have b' : ((s[0].toNat : Int) != 40) = false := by simp; omega
 have he := zIu s 1
 rw [h, show List.drop 1 (40 :: t) = t from rfl] at he
 have ht : t.length + 1 = s.size := by rw [zA7, h]; simp
 have hl := zA0 h
 generalize s.data.toList = l at *
 clear h
 have hT : (str t).data.toList = t := rfl
 have hTs : (str t).size + 1 = s.size := by rw [zDq]; exact ht
 generalize str t = T at *
 go_enter Tryz.func87, Tryz.ntmps87
 go_wp2
 go_loopw [0, 5] (fun sv ov wr => ∃ (ps : List Bs) (S : ByteArray), sv = .string S ∧ wr.ownsRow w.heap.size 9 1 ov ps.length (zDm ps) ∧ Below w.heap.size w wr ∧ ps.length + S.size ≤ 1073741824 ∧ Took t ps S) (fun sv _ _ => zUu sv)
 case atStart =>
  exact ⟨[], T, rfl, ⟨rfl, .inl ⟨rfl, rfl⟩⟩, Below.refl _ _, by simp; omega, ⟨hT.symm, by simp⟩⟩
 case round =>
  obtain ⟨ps, S, rfl, hown, hbw, hps, htk⟩ := hrel
  have hsz := hbw.size
  have HT := zA0 htk
  clear htk e2 b b' he hc
  obtain ⟨ao, cap, rfl⟩ := zA4 hown
  by_cases hS0 : S.size = 0
  · have e1 : S.data.toList = [] := List.eq_nil_of_length_eq_zero (by rw [← zA7]; exact hS0)
    have e2 : S.toList = [] := by rw [Lib.toList_data]; exact e1
    have FIN : Hid (meth l = none) := zKy (rest := []) (by rw [hl.out, HT.out.eq, e1]) HT.out.fld zUa (fun r hr => by cases hr)
    clear e1
    go_wp2
    go_ret3
    exact ⟨hbw, .inr ⟨FIN.out, rfl⟩⟩
  · have hS1 : 0 < S.size := by omega
    have e2 := zCg S hS1
    by_cases hcl : S[0].toNat = 41
    · have b : ((S[0].toNat : Int) == 41) = true := by simp; omega
      have b' : ((S[0].toNat : Int) != 41) = false := by simp; omega
      have eS : S.data.toList = 41 :: S.data.toList.drop 1 := by
       have e := zCe S 0 hS1
       rw [List.drop_zero, zFu hcl (by omega)] at e
       exact e
      have he := zIu S 1
      have HEQ : Hid (l = 40 :: (ps.flatten ++ 41 :: S.data.toList.drop 1)) := by
       show _ = _
       rw [hl.out, HT.out.eq]; conv => lhs; rw [eS]
      have hR : (str (List.drop 1 S.data.toList)).size ≤ 1073741824 := by rw [zDq, List.length_drop, ← zA7]; omega
      have hRF := fun w => zA0 (zEy (str (List.drop 1 S.data.toList)) w (by omega))
      rw [zDr] at hRF
      have HF := zA0 HT.out.fld
      clear HT eS
      have hRd : (str (List.drop 1 S.data.toList)).data.toList = List.drop 1 S.data.toList := rfl
      generalize List.drop 1 S.data.toList = r at *
      by_cases h8 : ps.length ≤ 8
      · have h8' : ¬ (8 : Int) < (ps.length : Int) := by omega
        by_cases hV : r = [86]
        · subst hV
          have FIN : Hid (meth l = some (ps, [86])) := zJf ⟨HEQ.out, HF.out, h8, .inl rfl⟩
          have hne : (str [86]).toList = [86] := by rw [Lib.toList_data]; rfl
          go_wp2
          go_quiet (fail)
          go_wp2
          go_ret3
          exact ⟨⟨hbw.os, hbw.tape, hbw.output, hbw.size, hbw.block⟩, .inl ⟨_, _, _, FIN.out, rfl, hown⟩⟩
        · have hne' : ((str r).toList == [86]) = false := str_ne hV
          have hne2 : ((str r).toList != [86]) = true := by simpa using hne'
          by_cases hf : zAp r = true
          · have FIN : Hid (meth l = some (ps, r)) := zJf ⟨HEQ.out, HF.out, h8, .inr ((zBp _).1 hf)⟩
            rw [hf] at hRF
            clear hf hV
            go_wp2_with fail
            refine (hRF _).out.mono ?_
            rintro e w' ⟨rfl, hww⟩; cases hww
            go_wp2
            go_quiet (fail)
            go_wp2
            go_ret3
            exact ⟨⟨hbw.os, hbw.tape, hbw.output, hbw.size, hbw.block⟩, .inl ⟨_, _, _, FIN.out, rfl, hown⟩⟩
          · have FIN : Hid (meth l = none) := zKy HEQ.out HF.out (zDx r) (fun r' hr _ hx => by
             simp only [List.cons.injEq, true_and] at hr
             subst hr
             rcases hx with hx | hx
             · exact hV hx
             · exact hf ((zBp _).2 hx))
            simp only [Bool.not_eq_true] at hf
            rw [hf] at hRF
            clear hf hV
            go_wp2_with fail
            refine (hRF _).out.mono ?_
            rintro e w' ⟨rfl, hww⟩; cases hww
            go_wp2
            go_ret3
            exact ⟨hbw, .inr ⟨FIN.out, rfl⟩⟩
      · have h8' : (8 : Int) < (ps.length : Int) := by omega
        have FIN : Hid (meth l = none) := zKy HEQ.out HF.out (zDx r) (fun r' hr h _ => h8 h)
        go_wp2
        go_ret3
        exact ⟨hbw, .inr ⟨FIN.out, rfl⟩⟩
    · have b : ((S[0].toNat : Int) == 41) = false := by simp; omega
      have b' : ((S[0].toNat : Int) != 41) = true := by simp; omega
      have hN := zA0 (zGf S wr (by omega))
      have hle := zLr S.data.toList
      rw [← zA7] at hle
      by_cases hK : flen S.data.toList = 0
      · have FIN : Hid (meth l = none) := zKy (by rw [hl.out, HT.out.eq]) HT.out.fld hK (fun r hr _ _ => by
         apply hcl
         have := zDg S 0 hS1
         rw [hr] at this
         simp at this
         rw [← this]; rfl)
        rw [hK] at hN
        clear hK hle
        go_wp2_with fail
        refine hN.out.mono ?_
        rintro e w' ⟨rfl, hww⟩; cases hww
        go_wp2
        go_ret3
        exact ⟨hbw, .inr ⟨FIN.out, rfl⟩⟩
      · have HM := zA0 (HT.out.more hK)
        have e1 := zLb S 0 (flen S.data.toList)
        rw [Nat.sub_zero, List.drop_zero] at e1
        generalize flen S.data.toList = K at *
        have hK0 : ((K : Int) == 0) = false := by simp; omega
        obtain ⟨hK1, hK2⟩ := hle
        go_wp2_with fail
        refine hN.out.mono ?_
        rintro e w' ⟨rfl, hww⟩; cases hww
        go_wp2_with (at_builtin; refine wpList_append_own_at _ rfl _ _ 47 rfl w.heap.size 9 i0 (.string ⟨#[]⟩) 1 16 Tryz.underlying47 hi hz0 hz1 hz2 rfl (by decide) _ _ _ rfl (hown.alloc _) _ 1 1 [.string (str (List.take K S.data.toList))] rfl rfl ?c1 ?c2 ?c3 ?c4 ?c5 ?_)
        case c1 =>
         intro j u hj
         match j, hj with
         | 0, hj => simp at hj; subst hj; simp [Addr.add]
         | (j + 1), hj => simp at hj
        case c2 => intro u hu; simp at hu; rcases hu with rfl; rfl
        case c3 => unfold maxLen; omega
        case c4 => omega
        case c5 => simp; omega
        intro v' w2 hown' hgrow _ hat
        go_wp2
        obtain ⟨ao', cap', rfl⟩ := zA4 hown'
        have hz : (S.extract K S.size).size = S.size - K := by rw [zA7, zBy, List.length_drop, ← zA7]
        refine ⟨⟨ps ++ [List.take K S.data.toList], _, rfl, ?_, ?_, ?_, HM.out⟩, ?_⟩
        · rw [zGo, List.length_append]; exact hown'
        · exact (hbw.alloc hsz _).grown hgrow (by simp; omega) (fun k hk => (hown.lt k hk).1)
        · simp; omega
        · simp only [zUu]; omega
theorem zIw (s : ByteArray) (w : World) (hs : s.size ≤ 1073741824) :
 Calls Tryz.prog 87 #[.string s] w fun e w' => Below w.heap.size w w' ∧ zFb s.data.toList w.heap.size e w' := by
 have no : meth s.data.toList = none → (s.size = 0 ∨ ∃ h : 0 < s.size, s[0].toNat ≠ 40) → Calls Tryz.prog 87 #[.string s] w fun e w' => Below w.heap.size w w' ∧ zFb s.data.toList w.heap.size e w' :=
  fun h1 h2 => (zNb s w h2).mono fun e w' ⟨he, hw⟩ => by cases hw; exact ⟨Below.refl _ _, .inr ⟨h1, he⟩⟩
 match h : s.data.toList with
 | [] =>
   rw [h] at no
   exact no rfl (.inl (by rw [zA7, h]; rfl))
 | c :: t =>
   by_cases hc : c = 40
   · subst hc; rw [← h]; exact zMs s w t hs h
   · have h0 : 0 < s.size := by rw [zA7, h]; simp
     have := zDg s 0 h0
     rw [h] at no this
     simp at this
     refine no (by unfold meth; simp only; rw [if_neg hc]) (.inr ⟨h0, ?_⟩)
     rw [← this]
     intro e
     exact hc (zFu (n := 40) e (by decide))
end Go.Proofs.YtpehimfnkmepnaaGreat.P3.D
namespace Go.Proofs.YtpehimfnkmepnaaGreat.K
open Go.RowKit Q Q.D
theorem zE8 (l : Bs) : P3.D.zAw l = zAw l := by
 rw [Bool.eq_iff_iff, P3.D.zC9, zC9]
 exact Iff.rfl
theorem zG0 (l : Bs) : P3.D.zAp l = zAp l := by
 rw [Bool.eq_iff_iff, P3.D.zBp, zBp]
 exact Iff.rfl
theorem zVn {l : Bs} (h : zAp l = true) (h0 : l[0]? = some 73) : l = [73] := by
 rcases (zBp l).1 h with (h | ⟨nm, _, h⟩) | ⟨g, _, h⟩
 · exact h
 · rw [h] at h0; simp at h0
 · rw [h] at h0; simp at h0
theorem zPl (n : Int) (w : World) : Calls Tryz.prog 153 #[.int .i64 n] w fun e w' => e = .returned (.bool (inB n 65535)) ∧ w' = w := by
 unfold inB
 by_cases h1 : 0 ≤ n
 · by_cases h2 : n ≤ 65535 <;>
   · go_enter Tryz.func153, Tryz.ntmps153
     go_wp2
     go_ret
     exact ⟨by simp [h1, h2], rfl⟩
 · have h1d : decide (0 ≤ n) = false := decide_eq_false h1
   go_enter Tryz.func153, Tryz.ntmps153
   go_wp2
   go_ret
   exact ⟨by simp, rfl⟩
theorem bs_eq {s : ByteArray} {l : Bs} (h : s ≠ str l) : (s.data.toList == l) = false := by
 rw [beq_eq_false_iff_ne]
 intro e
 apply h
 rw [← e]
 exact (zB1 s).symm
theorem zRn (s : ByteArray) (w : World) (hs : s.size ≤ 9223372036854775807) : Calls Tryz.prog 67 #[.string s] w fun e w' => e = .returned (.bool (zCz s)) ∧ w' = w := by
 have G := D.zA0 (P3.D.zEy s w hs)
 rw [zG0] at G
 by_cases h1 : s = ⟨#[73]⟩
 · subst h1
   rw [show zCz ⟨#[73]⟩ = true by kernel_rfl]
   go_enter Tryz.func67, Tryz.ntmps67
   go_wp2_with fail
   go_ret
   exact ⟨rfl, rfl⟩
 by_cases h2 : s = ⟨#[63]⟩
 · subst h2
   rw [show zCz ⟨#[63]⟩ = true by kernel_rfl]
   go_enter Tryz.func67, Tryz.ntmps67
   go_wp2_with fail
   go_ret
   exact ⟨rfl, rfl⟩
 by_cases h3 : s = ⟨#[48]⟩
 · subst h3
   rw [show zCz ⟨#[48]⟩ = true by kernel_rfl]
   go_enter Tryz.func67, Tryz.ntmps67
   go_wp2_with fail
   go_ret
   exact ⟨rfl, rfl⟩
 have e1 : ¬ s.toList = [73] := fun h => h1 (by rw [Lib.toList_data] at h; rw [← zB1 s, h]; rfl)
 have e2 : ¬ s.toList = [63] := fun h => h2 (by rw [Lib.toList_data] at h; rw [← zB1 s, h]; rfl)
 have e3 : ¬ s.toList = [48] := fun h => h3 (by rw [Lib.toList_data] at h; rw [← zB1 s, h]; rfl)
 have b1 : (s.toList == [73]) = false := beq_eq_false_iff_ne.2 e1
 have b2 : (s.toList == [63]) = false := beq_eq_false_iff_ne.2 e2
 have b3 : (s.toList == [48]) = false := beq_eq_false_iff_ne.2 e3
 have HB := D.zA0 (And.intro b1 (And.intro b2 b3))
 clear b1 b2 b3
 have hz : zCz s = zAp s.data.toList := by
  unfold zCz
  rw [Lib.toList_data, bs_eq h2, bs_eq h3]
  rfl
 rw [hz]
 cases hf : zAp s.data.toList with
 | false =>
   rw [hf] at G
   clear h1 h2 h3 hz hf
   go_enter Tryz.func67, Tryz.ntmps67
   go_wp2_with (go_at_call 118; refine G.out.mono ?_; rintro e w' ⟨rfl, hww⟩; cases hww)
   go_ret
   refine ⟨?_, rfl⟩
   show Ending.returned (.bool (s.toList == [73] || s.toList == [63] || s.toList == [48])) = _
   rw [HB.out.1, HB.out.2.1, HB.out.2.2]
   rfl
 | true =>
   have hp : 0 < s.size := zHd hf
   have h0 : s[0] ≠ 73 := fun e => by
    have := zVn hf (by rw [zDg s 0 hp, e])
    exact h1 (by rw [← zB1 s, this]; rfl)
   rw [hf] at G
   have HQ : Hid (((s[0].toNat : Int) != 73) = true) := by
    show _ = _
    rw [bne_iff_ne]
    intro e
    apply h0
    apply UInt8.toNat_inj.1
    show s[0].toNat = 73
    omega
   clear h0
   clear h1 h2 h3 hz hf
   go_enter Tryz.func67, Tryz.ntmps67
   go_wp2_with (go_at_call 118; refine G.out.mono ?_; rintro e w' ⟨rfl, hww⟩; cases hww)
   go_ret
   refine ⟨?_, rfl⟩
   show Ending.returned (.bool (s.toList == [73] || s.toList == [63] || s.toList == [48] || (s[0].toNat : Int) != 73)) = _
   rw [HB.out.1, HB.out.2.1, HB.out.2.2, HQ.out]
   rfl
theorem zJx (w : World) (pk : Nat) (ks : List KD) (ao : Option Addr) (c : Nat) (h : RV w pk ks ao c) (s : ByteArray) (hne : ∀ (j : Nat) (x : KD), ks[j]? = some x → (x.nm.toList == s.toList) = false) :
 Calls Tryz.prog 69 #[.pointer (some ⟨pk, 0, none⟩), .string s] w fun e w' => Below w.heap.size w w' ∧ e = .returned (.tuple #[.agg #[.string ⟨#[]⟩, .string ⟨#[]⟩, .slice none 0 0, .slice none 0 0, .slice none 0 0], .bool false]) := by
 have hbig := h.l.big
 have B1 := zA6 w (.cells #[.string ⟨#[]⟩, .string ⟨#[]⟩, .slice none 0 0, .slice none 0 0, .slice none 0 0] 31)
 have h1 := D.zA0 h
 have Y1 := Blk.new w #[.string ⟨#[]⟩, .string ⟨#[]⟩, .slice none 0 0, .slice none 0 0, .slice none 0 0] 31
 have HN := D.zA0 hne
 generalize hn : ks.length = n at *
 have HNn := D.zA0 hn
 clear h hne hn
 go_enter Tryz.func69, Tryz.ntmps69
 go_wp2
 generalize w.alloc (.cells #[.string ⟨#[]⟩, .string ⟨#[]⟩, .slice none 0 0, .slice none 0 0, .slice none 0 0] 31) = X at *
 go_loopw [6] (fun iv wr => ∃ i : Nat, iv = .int .i64 (i : Int) ∧ i ≤ n ∧ Hid (Below X.heap.size X wr)) (fun iv _ => n - (intOf iv).toNat)
 case atStart => exact ⟨0, rfl, Nat.zero_le _, Below.refl _ _⟩
 case round =>
  obtain ⟨i, rfl, hi, HB⟩ := hrel
  have Bw := D.zA0 (next B1 HB.out)
  have bx := (h1.out.below Bw.out).box
  rw [HNn.out] at bx
  have Y2 : Blk wr w.heap.size #[.string ⟨#[]⟩, .string ⟨#[]⟩, .slice none 0 0, .slice none 0 0, .slice none 0 0] 31 := Y1.below HB.out
  by_cases hlt : i < n
  · have hlt' : (i : Int) < (n : Int) := by omega
    obtain ⟨x, hx⟩ : ∃ x, ks[i]? = some x := ⟨_, List.getElem?_eq_getElem (by rw [HNn.out]; omega)⟩
    obtain ⟨b, off, r, rfl, hR, hc⟩ := h1.out.l.row hx
    obtain ⟨o1, c1, o2, c2, o3, c3, hv, s1, s2, k1, k2, k3⟩ := id hR
    obtain rfl : r = [.string x.nm, .string x.sup, .slice o1 x.pool.length c1, .slice o2 x.fs.length c2, .slice o3 x.ms.length c3] := by
     simpa using congrArg (fun v => match v with | .agg a => a.toList | _ => []) hv
    have E := zB4 Bw.out
    have z0 := E.cell _ _ (hc 0 _ rfl)
    rw [Nat.add_zero] at z0
    have hq := HN.out i x hx
    clear hc hv hR k1 k2 k3 E hx
    go_wp2
    go_roundw
    case rel => exact ⟨i + 1, by go_num, by omega, HB⟩
    case measure => simp [intOf]; omega
  · have hlt' : ¬ (i : Int) < (n : Int) := by omega
    go_wp2_with (refine wpList_store_row rfl 31 _ _ rfl w.heap.size #[.string ⟨#[]⟩, .string ⟨#[]⟩, .slice none 0 0, .slice none 0 0, .slice none 0 0] rfl rfl 31 _ Y2 (by kernel_rfl) rfl (by simp [Value.oneCell']) ?_)
    refine bodyPost_ret (zBq rfl _ _ w.heap.size 31 _ (0, 0) _ rfl (setRow_heap _ _ _ _ _ _ Y2) Tryz.underlying31 rfl (by kernel_rfl)) rfl ?_
    have B3 := zBu Bw.out (Nat.le_refl _) #[.string ⟨#[]⟩, .string ⟨#[]⟩, .slice none 0 0, .slice none 0 0, .slice none 0 0]
    exact ⟨B3, rfl⟩
end Go.Proofs.YtpehimfnkmepnaaGreat.K
