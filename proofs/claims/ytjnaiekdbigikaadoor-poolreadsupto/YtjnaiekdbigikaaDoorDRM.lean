/- The document's own Field, Class, Elem, Ref and Method: walked. -/
import Derived.Test.YtjnaiekdbigikaaDoorDRN
import Derived.Test.YtjnaiekdbigikaaDoorDDL
import Derived.Deep.QuietTactic
import Derived.BigQuiet
namespace Go.Proofs.YtjnaiekdbigikaaDoor.D
open Go.RowKit

set_option maxRecDepth 8000 in
set_option maxHeartbeats 1000000 in
theorem rfield_any (s : ByteArray) (w : World) (hs : s.size ≤ 9223372036854775807) :
    Calls Tryd.prog 51 #[.string s] w fun e w' => e = .returned (.bool (fieldB s.data.toList)) ∧ w' = w := by
  have hN := hidIt (one_any s w hs)
  by_cases h0 : s.size = 0
  · have e1 : s.data.toList = [] := List.eq_nil_of_length_eq_zero (by rw [← size_len]; exact h0)
    have e2 : s.toList = [] := by rw [Lib.toList_data]; exact e1
    rw [e1, show fieldB [] = false from rfl]
    clear e1 hN
    go_enter Tryd.func51, Tryd.ntmps51
    go_wp2
    go_ret
    exact ⟨rfl, rfl⟩
  · have e2 := toList_ne s (by omega)
    unfold fieldB
    rw [← size_len]
    generalize flen s.data.toList = K at *
    by_cases h2 : K = s.size
    · rw [decide_eq_true ⟨by omega, h2⟩]
      have b : ((K : Int) == (s.size : Int)) = true := by simp; omega
      go_enter Tryd.func51, Tryd.ntmps51
      go_wp2_with fail
      refine hN.out.mono ?_
      rintro e w' ⟨rfl, hww⟩; cases hww
      go_wp2
      go_ret
      exact ⟨rfl, rfl⟩
    · rw [decide_eq_false (fun h => h2 h.2)]
      have b : ((K : Int) == (s.size : Int)) = false := by simp; omega
      go_enter Tryd.func51, Tryd.ntmps51
      go_wp2_with fail
      refine hN.out.mono ?_
      rintro e w' ⟨rfl, hww⟩; cases hww
      go_wp2
      go_ret
      exact ⟨rfl, rfl⟩



theorem fld_heads {l : Bs} (h : Fld l) : l = [73] ∨ (l[0]? = some 91) ∨ (l[0]? = some 76 ∧ 2 ≤ l.length) := by
  rcases h with (rfl | ⟨nm, _, rfl⟩) | ⟨g, _, rfl⟩
  · exact .inl rfl
  · exact .inr (.inr ⟨rfl, by simp⟩)
  · exact .inr (.inl rfl)
theorem str_ne {s : ByteArray} {l : Bs} (h : s.data.toList ≠ l) : (s.toList == l) = false := by
  rw [Lib.toList_data]; simpa using h





theorem flat_unique {ps qs : List Bs} {a b : Bs} (hp : ∀ p ∈ ps, Fld p) (hq : ∀ p ∈ qs, Fld p) (ha : flen a = 0) (hb : flen b = 0) (h : ps.flatten ++ a = qs.flatten ++ b) : ps = qs ∧ a = b := by
  have h1 := lead_char (max ps.length qs.length) ps a hp (Nat.le_max_left _ _) (.inr ha)
  have h2 := lead_char (max ps.length qs.length) qs b hq (Nat.le_max_right _ _) (.inr hb)
  rw [h, h2] at h1
  simp only [Prod.mk.injEq] at h1
  exact ⟨h1.1.symm, h1.2.symm⟩
theorem meth_no {l : Bs} {ps : List Bs} {rest : Bs} (he : l = 40 :: (ps.flatten ++ rest)) (hp : ∀ p ∈ ps, Fld p) (h0 : flen rest = 0)
    (h : ∀ r, rest = 41 :: r → ps.length ≤ 8 → (r = [86] ∨ Fld r) → False) : meth l = none := by
  cases hm : meth l with
  | none => rfl
  | some x =>
    exfalso
    obtain ⟨qs, r⟩ := x
    obtain ⟨h1, h2, h3, h4⟩ := meth_inv hm
    rw [he] at h1
    simp only [List.cons.injEq, true_and] at h1
    obtain ⟨rfl, e⟩ := flat_unique hp h2 h0 (flen_close r) h1
    exact h r e h3 h4
theorem flen_nil : flen [] = 0 := rfl

set_option maxRecDepth 8000 in
set_option maxHeartbeats 1000000 in
theorem rmethod_bad (s : ByteArray) (w : World) (h : s.size = 0 ∨ ∃ h : 0 < s.size, s[0].toNat ≠ 40) :
    Calls Tryd.prog 50 #[.string s] w fun e w' => e = .returned (.tuple #[.slice none 0 0, .string ⟨#[]⟩, .bool false]) ∧ w' = w := by
  rcases h with h | ⟨h0, h⟩
  · have e1 : s.data.toList = [] := List.eq_nil_of_length_eq_zero (by rw [← size_len]; exact h)
    have e2 : s.toList = [] := by rw [Lib.toList_data]; exact e1
    clear e1
    go_enter Tryd.func50, Tryd.ntmps50
    go_wp2
    go_ret3
    exact ⟨rfl, rfl⟩
  · have e2 := toList_ne s h0
    have b : ((s[0].toNat : Int) == 40) = false := by simp; omega
    have b' : ((s[0].toNat : Int) != 40) = true := by simp; omega
    go_enter Tryd.func50, Tryd.ntmps50
    go_wp2
    go_ret3
    exact ⟨rfl, rfl⟩

def strLen : Value → Nat
  | .string s => s.size
  | _ => 0

set_option maxRecDepth 8000 in
set_option maxHeartbeats 8000000 in
theorem rmethod_open (s : ByteArray) (w : World) (t : Bs) (hs : s.size ≤ 1073741824) (h : s.data.toList = 40 :: t) :
    Calls Tryd.prog 50 #[.string s] w fun e w' => Below w.heap.size w w' ∧ MethAns s.data.toList w.heap.size e w' := by
  obtain ⟨i0, hi, hz0, hz1, hz2⟩ := info_parts Tryd.info9
  have h0 : 0 < s.size := by rw [size_len, h]; simp
  have hc : s[0].toNat = 40 := by
    have := at_get s 0 h0
    rw [h] at this; simp at this; rw [← this]; rfl
  have e2 := toList_ne s h0
  have b : ((s[0].toNat : Int) == 40) = true := by simp; omega
  have b' : ((s[0].toNat : Int) != 40) = false := by simp; omega
  have he := ext_end s 1
  rw [h, show List.drop 1 (40 :: t) = t from rfl] at he
  have ht : t.length + 1 = s.size := by rw [size_len, h]; simp
  have hl := hidIt h
  generalize s.data.toList = l at *
  clear h
  have hT : (str t).data.toList = t := rfl
  have hTs : (str t).size + 1 = s.size := by rw [str_size]; exact ht
  generalize str t = T at *
  go_enter Tryd.func50, Tryd.ntmps50
  go_wp2
  go_loopw [0, 5] (fun sv ov wr => ∃ (ps : List Bs) (S : ByteArray), sv = .string S ∧ wr.ownsRow w.heap.size 9 1 ov ps.length (scells ps) ∧ Below w.heap.size w wr ∧ ps.length + S.size ≤ 1073741824 ∧ Took t ps S) (fun sv _ _ => strLen sv)
  case atStart =>
    exact ⟨[], T, rfl, ⟨rfl, .inl ⟨rfl, rfl⟩⟩, Below.refl _ _, by simp; omega, ⟨hT.symm, by simp⟩⟩
  case round =>
    obtain ⟨ps, S, rfl, hown, hbw, hps, htk⟩ := hrel
    have hsz := hbw.size
    have HT := hidIt htk
    clear htk e2 b b' he hc
    obtain ⟨ao, cap, rfl⟩ := own_slice hown
    by_cases hS0 : S.size = 0
    · have e1 : S.data.toList = [] := List.eq_nil_of_length_eq_zero (by rw [← size_len]; exact hS0)
      have e2 : S.toList = [] := by rw [Lib.toList_data]; exact e1
      have FIN : Hid (meth l = none) := meth_no (rest := []) (by rw [hl.out, HT.out.eq, e1]) HT.out.fld flen_nil (fun r hr => by cases hr)
      clear e1
      go_wp2
      go_ret3
      exact ⟨hbw, .inr ⟨FIN.out, rfl⟩⟩
    · have hS1 : 0 < S.size := by omega
      have e2 := toList_ne S hS1
      by_cases hcl : S[0].toNat = 41
      · have b : ((S[0].toNat : Int) == 41) = true := by simp; omega
        have b' : ((S[0].toNat : Int) != 41) = false := by simp; omega
        have eS : S.data.toList = 41 :: S.data.toList.drop 1 := by
          have e := drop_at S 0 hS1
          rw [List.drop_zero, u8_of hcl (by omega)] at e
          exact e
        have he := ext_end S 1
        have HEQ : Hid (l = 40 :: (ps.flatten ++ 41 :: S.data.toList.drop 1)) := by
          show _ = _
          rw [hl.out, HT.out.eq]; conv => lhs; rw [eS]
        have hR : (str (List.drop 1 S.data.toList)).size ≤ 1073741824 := by rw [str_size, List.length_drop, ← size_len]; omega
        have hRF := fun w => hidIt (rfield_any (str (List.drop 1 S.data.toList)) w (by omega))
        rw [data_str] at hRF
        have HF := hidIt HT.out.fld
        clear HT eS
        have hRd : (str (List.drop 1 S.data.toList)).data.toList = List.drop 1 S.data.toList := rfl
        generalize List.drop 1 S.data.toList = r at *
        by_cases h8 : ps.length ≤ 8
        · have h8' : ¬ (8 : Int) < (ps.length : Int) := by omega
          by_cases hV : r = [86]
          · subst hV
            have FIN : Hid (meth l = some (ps, [86])) := meth_of ⟨HEQ.out, HF.out, h8, .inl rfl⟩
            have hne : (str [86]).toList = [86] := by rw [Lib.toList_data]; rfl
            go_wp2
            go_quiet (fail)
            go_wp2
            go_ret3
            exact ⟨⟨hbw.os, hbw.tape, hbw.output, hbw.size, hbw.block⟩, .inl ⟨_, _, _, FIN.out, rfl, hown⟩⟩
          · have hne' : ((str r).toList == [86]) = false := str_ne hV
            have hne2 : ((str r).toList != [86]) = true := by simpa using hne'
            by_cases hf : fieldB r = true
            · have FIN : Hid (meth l = some (ps, r)) := meth_of ⟨HEQ.out, HF.out, h8, .inr ((fieldB_iff _).1 hf)⟩
              rw [hf] at hRF
              clear hf hV
              go_wp2_with fail
              refine (hRF _).out.mono ?_
              rintro e w' ⟨rfl, hww⟩; cases hww
              go_wp2
              go_quiet (fail)
              go_wp2
              go_ret3
              exact ⟨⟨hbw.os, hbw.tape, hbw.output, hbw.size, hbw.block⟩, .inl ⟨_, _, _, FIN.out, rfl, hown⟩⟩
            · have FIN : Hid (meth l = none) := meth_no HEQ.out HF.out (flen_close r) (fun r' hr _ hx => by
                simp only [List.cons.injEq, true_and] at hr
                subst hr
                rcases hx with hx | hx
                · exact hV hx
                · exact hf ((fieldB_iff _).2 hx))
              simp only [Bool.not_eq_true] at hf
              rw [hf] at hRF
              clear hf hV
              go_wp2_with fail
              refine (hRF _).out.mono ?_
              rintro e w' ⟨rfl, hww⟩; cases hww
              go_wp2
              go_ret3
              exact ⟨hbw, .inr ⟨FIN.out, rfl⟩⟩
        · have h8' : (8 : Int) < (ps.length : Int) := by omega
          have FIN : Hid (meth l = none) := meth_no HEQ.out HF.out (flen_close r) (fun r' hr h _ => h8 h)
          go_wp2
          go_ret3
          exact ⟨hbw, .inr ⟨FIN.out, rfl⟩⟩
      · have b : ((S[0].toNat : Int) == 41) = false := by simp; omega
        have b' : ((S[0].toNat : Int) != 41) = true := by simp; omega
        have hN := hidIt (one_any S wr (by omega))
        have hle := flen_le S.data.toList
        rw [← size_len] at hle
        by_cases hK : flen S.data.toList = 0
        · have FIN : Hid (meth l = none) := meth_no (by rw [hl.out, HT.out.eq]) HT.out.fld hK (fun r hr _ _ => by
            apply hcl
            have := at_get S 0 hS1
            rw [hr] at this
            simp at this
            rw [← this]; rfl)
          rw [hK] at hN
          clear hK hle
          go_wp2_with fail
          refine hN.out.mono ?_
          rintro e w' ⟨rfl, hww⟩; cases hww
          go_wp2
          go_ret3
          exact ⟨hbw, .inr ⟨FIN.out, rfl⟩⟩
        · have HM := hidIt (HT.out.more hK)
          have e1 := ext_str S 0 (flen S.data.toList)
          rw [Nat.sub_zero, List.drop_zero] at e1
          generalize flen S.data.toList = K at *
          have hK0 : ((K : Int) == 0) = false := by simp; omega
          obtain ⟨hK1, hK2⟩ := hle
          go_wp2_with fail
          refine hN.out.mono ?_
          rintro e w' ⟨rfl, hww⟩; cases hww
          go_wp2_with (at_builtin; refine wpList_append_own_at _ rfl _ _ 86 rfl w.heap.size 9 i0 (.string ⟨#[]⟩) 1 16 Tryd.underlying86 hi hz0 hz1 hz2 rfl (by decide) _ _ _ rfl (hown.alloc _) _ 1 1 [.string (str (List.take K S.data.toList))] rfl rfl ?c1 ?c2 ?c3 ?c4 ?c5 ?_)
          case c1 =>
            intro j u hj
            match j, hj with
            | 0, hj => simp at hj; subst hj; simp [Addr.add]
            | (j + 1), hj => simp at hj
          case c2 => intro u hu; simp at hu; rcases hu with rfl; rfl
          case c3 => unfold maxLen; omega
          case c4 => omega
          case c5 => simp; omega
          intro v' w2 hown' hgrow _ hat
          go_wp2
          obtain ⟨ao', cap', rfl⟩ := own_slice hown'
          have hz : (S.extract K S.size).size = S.size - K := by rw [size_len, ext_data, List.length_drop, ← size_len]
          refine ⟨⟨ps ++ [List.take K S.data.toList], _, rfl, ?_, ?_, ?_, HM.out⟩, ?_⟩
          · rw [scells_snoc, List.length_append]; exact hown'
          · exact (hbw.alloc hsz _).grown hgrow (by simp; omega) (fun k hk => (hown.lt k hk).1)
          · simp; omega
          · simp only [strLen]; omega

theorem rmethod_any (s : ByteArray) (w : World) (hs : s.size ≤ 1073741824) :
    Calls Tryd.prog 50 #[.string s] w fun e w' => Below w.heap.size w w' ∧ MethAns s.data.toList w.heap.size e w' := by
  have no : meth s.data.toList = none → (s.size = 0 ∨ ∃ h : 0 < s.size, s[0].toNat ≠ 40) → Calls Tryd.prog 50 #[.string s] w fun e w' => Below w.heap.size w w' ∧ MethAns s.data.toList w.heap.size e w' :=
    fun h1 h2 => (rmethod_bad s w h2).mono fun e w' ⟨he, hw⟩ => by cases hw; exact ⟨Below.refl _ _, .inr ⟨h1, he⟩⟩
  match h : s.data.toList with
  | [] =>
    rw [h] at no
    exact no rfl (.inl (by rw [size_len, h]; rfl))
  | c :: t =>
    by_cases hc : c = 40
    · subst hc; rw [← h]; exact rmethod_open s w t hs h
    · have h0 : 0 < s.size := by rw [size_len, h]; simp
      have := at_get s 0 h0
      rw [h] at no this
      simp at this
      refine no (by unfold meth; simp only; rw [if_neg hc]) (.inr ⟨h0, ?_⟩)
      rw [← this]
      intro e
      exact hc (u8_of (n := 40) e (by decide))
end Go.Proofs.YtjnaiekdbigikaaDoor.D
