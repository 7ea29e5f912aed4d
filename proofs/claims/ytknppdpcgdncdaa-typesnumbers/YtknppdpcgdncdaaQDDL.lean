/- leadingFields and Method: walked. -/
import Derived.Test.YtknppdpcgdncdaaQDDG
import Derived.Test.YtknppdpcgdncdaaQShelfS
import Derived.Lib.OthersKept
import Derived.Deep.LoopGhost
namespace Go.Proofs.Ytknppdpcgdncdaa.Q.D
open Go.RowKit
theorem Try.info9 : (Try.prog.info? 9).map (fun i => (i.zero, i.size, i.bytes)) = some (some (.string ⟨#[]⟩), 1, 16) := by kernel_rfl
def scells (ps : List Bs) : List Value := ps.map fun p => Value.string (str p)
theorem scells_snoc (ps : List Bs) (p : Bs) : scells (ps ++ [p]) = scells ps ++ [Value.string (str p)] := by simp [scells]
theorem own_slice {w : World} {B n e : Nat} {v : Value} {xs : List Value} (h : w.ownsRow B e 1 v n xs) : ∃ ao cap, v = .slice ao n cap := by
  rcases h.2 with ⟨rfl, rfl⟩ | ⟨g, cap, cur, rfl, _⟩
  · exact ⟨_, _, rfl⟩
  · exact ⟨_, _, rfl⟩
def sliceLen : Value → Nat
  | .slice _ n _ => n
  | _ => 0

/-- What has been taken off the text l. -/
structure Took (l : Bs) (ps : List Bs) (S : ByteArray) : Prop where
  eq : l = ps.flatten ++ S.data.toList
  fld : ∀ p ∈ ps, Fld p
theorem Took.more {l : Bs} {ps : List Bs} {S : ByteArray} (h : Took l ps S) (h0 : flen S.data.toList ≠ 0) :
    Took l (ps ++ [S.data.toList.take (flen S.data.toList)]) (S.extract (flen S.data.toList) S.size) := by
  refine ⟨?_, ?_⟩
  · rw [h.eq, ext_data]; simp
  · intro p hp
    rcases List.mem_append.1 hp with hp | hp
    · exact h.fld p hp
    · simp at hp; subst hp; exact flen_take h0

set_option maxRecDepth 8000 in
set_option maxHeartbeats 4000000 in
theorem lead_any (s : ByteArray) (w : World) (hs : s.size ≤ 9223372036854775807) :
    Calls Try.prog 87 #[.string s] w fun e w' => Below w.heap.size w w' ∧
      ∃ v, e = .returned (.tuple #[v, .string (str (lead 8 s.data.toList).2)]) ∧ w'.ownsRow w.heap.size 9 1 v (lead 8 s.data.toList).1.length (scells (lead 8 s.data.toList).1) := by
  obtain ⟨i0, hi, hz0, hz1, hz2⟩ := info_parts Try.info9
  go_enter Try.func87, Try.ntmps87
  go_wp2
  go_loopw [0, 4] (fun sv fv wr => ∃ (ps : List Bs) (S : ByteArray), sv = .string S ∧ wr.ownsRow w.heap.size 9 1 fv ps.length (scells ps) ∧ Below w.heap.size w wr ∧ ps.length ≤ 8 ∧ S.size ≤ 9223372036854775807 ∧ Took s.data.toList ps S) (fun _ fv _ => 8 - sliceLen fv)
  case atStart =>
    exact ⟨[], s, rfl, ⟨rfl, .inl ⟨rfl, rfl⟩⟩, Below.refl _ _, by simp, hs, ⟨rfl, by simp⟩⟩
  case round =>
    obtain ⟨ps, S, rfl, hown, hbw, hp8, hS, htk⟩ := hrel
    have hsz := hbw.size
    have HT := hidIt htk
    clear htk
    obtain ⟨ao, cap, rfl⟩ := own_slice hown
    by_cases h8 : ps.length < 8
    · have h8' : (ps.length : Int) < 8 := by omega
      have hN := hidIt (fl_any S wr hS)
      have hle := flen_le S.data.toList
      rw [← size_len] at hle
      by_cases h0 : flen S.data.toList = 0
      · have HF := hidIt h0
        rw [h0] at hN
        clear h0 hle
        go_wp2_with fail
        refine hN.out.mono ?_
        rintro e w' ⟨rfl, hww⟩; cases hww
        go_wp2
        go_ret2
        refine ⟨hbw, ?_⟩
        have e : lead 8 s.data.toList = (ps, S.data.toList) := by rw [HT.out.eq]; exact lead_char 8 ps _ HT.out.fld hp8 (.inr HF.out)
        rw [e]
        exact ⟨_, by rw [str_data]; rfl, hown⟩
      · have HM := hidIt (HT.out.more h0)
        have e1 := ext_str S 0 (flen S.data.toList)
        rw [Nat.sub_zero, List.drop_zero] at e1
        generalize flen S.data.toList = K at *
        have hK0 : ((K : Int) == 0) = false := by simp; omega
        obtain ⟨hK1, hK2⟩ := hle
        go_wp2_with fail
        refine hN.out.mono ?_
        rintro e w' ⟨rfl, hww⟩; cases hww
        go_wp2_with (at_builtin; refine wpList_append_own_at _ rfl _ _ 49 rfl w.heap.size 9 i0 (.string ⟨#[]⟩) 1 16 Try.underlying49 hi hz0 hz1 hz2 rfl (by decide) _ _ _ rfl (hown.alloc _) _ 1 1 [.string (str (List.take K S.data.toList))] rfl rfl ?c1 ?c2 ?c3 ?c4 ?c5 ?_)
        case c1 =>
          intro j u hj
          match j, hj with
          | 0, hj => simp at hj; subst hj; simp [Addr.add]
          | (j + 1), hj => simp at hj
        case c2 => intro u hu; simp at hu; rcases hu with rfl; rfl
        case c3 => unfold maxLen; omega
        case c4 => omega
        case c5 => simp; omega
        intro v' w2 hown' hgrow _ hat
        go_wp2
        obtain ⟨ao', cap', rfl⟩ := own_slice hown'
        refine ⟨⟨ps ++ [List.take K S.data.toList], _, rfl, ?_, ?_, ?_, ?_, HM.out⟩, ?_⟩
        · rw [scells_snoc, List.length_append]; exact hown'
        · exact (hbw.alloc hsz _).grown hgrow (by simp; omega) (fun k hk => (hown.lt k hk).1)
        · simp; omega
        · rw [size_len, ext_data, List.length_drop, ← size_len]; omega
        · simp only [sliceLen]; omega
    · have h8' : ¬ (ps.length : Int) < 8 := by omega
      go_wp2
      go_ret2
      refine ⟨hbw, ?_⟩
      have e : lead 8 s.data.toList = (ps, S.data.toList) := by rw [HT.out.eq]; exact lead_char 8 ps _ HT.out.fld hp8 (.inl (by omega))
      rw [e]
      exact ⟨_, by rw [str_data]; rfl, hown⟩

theorem hp_nil (d : UInt8) : Lib.hasPrefix [] [d] = false := rfl
theorem hp_cons (c d : UInt8) (t : Bs) : Lib.hasPrefix (c :: t) [d] = (d == c) := by simp [Lib.hasPrefix, List.isPrefixOf]
theorem hp_yes (d : UInt8) (t : Bs) : Lib.hasPrefix (d :: t) [d] = true := by rw [hp_cons]; simp
theorem hp_no {c d : UInt8} (t : Bs) (h : c ≠ d) : Lib.hasPrefix (c :: t) [d] = false := by rw [hp_cons]; simpa using fun e => h e.symm
theorem tp_yes (d : UInt8) (t : Bs) : Lib.trimPrefix (d :: t) [d] = t := by unfold Lib.trimPrefix; rw [hp_yes, if_pos rfl]; rfl
theorem lead_le (m : Nat) (l : Bs) : (lead m l).2.length ≤ l.length := by
  have h := (lead_inv m l).2.2.1
  have := congrArg List.length h
  rw [List.length_append] at this; omega

/-- How Method answers. -/
def MethAns (l : Bs) (B : Nat) (e : Ending) (w' : World) : Prop :=
  (∃ ps r v, meth l = some (ps, r) ∧ e = .returned (.tuple #[v, .string (str r), .bool true]) ∧ w'.ownsRow B 9 1 v ps.length (scells ps)) ∨
  (meth l = none ∧ e = .returned (.tuple #[.slice none 0 0, .string ⟨#[]⟩, .bool false]))

set_option maxRecDepth 8000 in
set_option maxHeartbeats 4000000 in
theorem method_bad (s : ByteArray) (w : World) (h : Lib.hasPrefix s.data.toList [40] = false) :
    Calls Try.prog 80 #[.string s] w fun e w' => e = .returned (.tuple #[.slice none 0 0, .string ⟨#[]⟩, .bool false]) ∧ w' = w := by
  have hH := hidIt (Try.strings_HasPrefix s ⟨#[40]⟩ w)
  rw [show (ByteArray.mk #[40]).data.toList = [40] from rfl, h] at hH
  clear h
  go_enter Try.func80, Try.ntmps80
  go_wp2_with fail
  refine hH.out.mono ?_
  rintro e w' ⟨rfl, hww⟩; cases hww
  go_wp2
  go_ret3
  exact ⟨rfl, rfl⟩

set_option maxRecDepth 8000 in
set_option maxHeartbeats 4000000 in
theorem method_open (s : ByteArray) (w : World) (t : Bs) (hs : s.size ≤ 9223372036854775807) (h : s.data.toList = 40 :: t) :
    Calls Try.prog 80 #[.string s] w fun e w' => Below w.heap.size w w' ∧ MethAns s.data.toList w.heap.size e w' := by
  have hH := hidIt (Try.strings_HasPrefix s ⟨#[40]⟩ w)
  rw [show (ByteArray.mk #[40]).data.toList = [40] from rfl, h, hp_yes] at hH
  have hsz : 1 ≤ s.size := by rw [size_len, h]; simp
  have he := ext_end s 1
  rw [h, show List.drop 1 (40 :: t) = t from rfl] at he
  have hL := hidIt (lead_any (str t) w (by rw [str_size]; rw [size_len, h] at hs; simp at hs; omega))
  rw [data_str] at hL
  have HM : Hid (meth s.data.toList = (match (lead 8 t).2 with
       | [] => none
       | d :: r => if d = 41 then (if r = [86] ∨ (0 < flen r ∧ flen r = r.length) then some ((lead 8 t).1, r) else none) else none)) := by
    show _ = _
    rw [h]; unfold meth; simp only; rw [if_pos trivial]; rfl
  have hR := lead_le 8 t
  have ht : t.length ≤ 9223372036854775807 := by rw [size_len, h] at hs; simp at hs; omega
  generalize (lead 8 t).2 = R at *
  generalize (lead 8 t).1 = ps at *
  generalize hl : s.data.toList = l at *
  clear hl h
  generalize str t = T at *
  have hshort : ∀ (P : Prop), P → P := fun _ h => h
  cases R with
  | nil =>
    have FIN := hidIt HM.out
    simp only at FIN
    go_enter Try.func80, Try.ntmps80
    go_wp2_with fail
    refine hH.out.mono ?_
    rintro e w' ⟨rfl, hww⟩; cases hww
    go_wp2_with fail
    refine hL.out.mono ?_
    rintro e w1 ⟨hb, v, rfl, hown⟩
    go_wp2_with fail
    refine (Try.strings_CutPrefix _ _ _).mono ?_
    rw [data_str, show (ByteArray.mk #[41]).data.toList = [41] from rfl, hp_nil]
    rintro e w' ⟨rfl, hww⟩; cases hww
    go_wp2
    go_ret3
    exact ⟨hb, .inr ⟨FIN.out, rfl⟩⟩
  | cons d r =>
    by_cases hd : d = 41
    · subst hd
      have hF := fun w => hidIt (field_any (str r) w (by rw [str_size]; simp at hR; omega))
      rw [data_str] at hF
      by_cases hV : r = [86]
      · subst hV
        have FIN : Hid (meth l = some (ps, [86])) := by
          show _ = _
          rw [HM.out]; simp only; rw [if_pos trivial, if_pos (.inl trivial)]
        go_enter Try.func80, Try.ntmps80
        go_wp2_with fail
        refine hH.out.mono ?_
        rintro e w' ⟨rfl, hww⟩; cases hww
        go_wp2_with fail
        refine hL.out.mono ?_
        rintro e w1 ⟨hb, v, rfl, hown⟩
        go_wp2_with fail
        refine (Try.strings_CutPrefix _ _ _).mono ?_
        rw [data_str, show (ByteArray.mk #[41]).data.toList = [41] from rfl, hp_yes, tp_yes]
        rintro e w' ⟨rfl, hww⟩; cases hww
        go_wp2
        go_ret3
        exact ⟨hb, .inl ⟨_, _, _, FIN.out, rfl, hown⟩⟩
      · have hne : (str r).toList ≠ [86] := by rw [Lib.toList_data]; exact hV
        have hne' : ((str r).toList == [86]) = false := by simpa using hne
        have hne2 : ((str r).toList != [86]) = true := by simpa using hne
        by_cases hf : fieldB r = true
        · have FIN : Hid (meth l = some (ps, r)) := by
            show _ = _
            rw [HM.out]; simp only; rw [if_pos trivial, if_pos (.inr (of_decide_eq_true hf))]
          rw [hf] at hF
          clear hf hne
          go_enter Try.func80, Try.ntmps80
          go_wp2_with fail
          refine hH.out.mono ?_
          rintro e w' ⟨rfl, hww⟩; cases hww
          go_wp2_with fail
          refine hL.out.mono ?_
          rintro e w1 ⟨hb, v, rfl, hown⟩
          go_wp2_with fail
          refine (Try.strings_CutPrefix _ _ _).mono ?_
          rw [data_str, show (ByteArray.mk #[41]).data.toList = [41] from rfl, hp_yes, tp_yes]
          rintro e w' ⟨rfl, hww⟩; cases hww
          rw [show (ByteArray.mk r.toArray) = str r from rfl]
          go_wp2_with fail
          refine (hF _).out.mono ?_
          rintro e w' ⟨rfl, hww⟩; cases hww
          go_wp2
          go_ret3
          exact ⟨hb, .inl ⟨_, _, _, FIN.out, rfl, hown⟩⟩
        · have FIN : Hid (meth l = none) := by
            show _ = _
            rw [HM.out]; simp only; rw [if_pos trivial, if_neg]
            rintro (h | h)
            · exact hV h
            · exact hf (decide_eq_true h)
          simp only [Bool.not_eq_true] at hf
          rw [hf] at hF
          clear hf hne
          go_enter Try.func80, Try.ntmps80
          go_wp2_with fail
          refine hH.out.mono ?_
          rintro e w' ⟨rfl, hww⟩; cases hww
          go_wp2_with fail
          refine hL.out.mono ?_
          rintro e w1 ⟨hb, v, rfl, hown⟩
          go_wp2_with fail
          refine (Try.strings_CutPrefix _ _ _).mono ?_
          rw [data_str, show (ByteArray.mk #[41]).data.toList = [41] from rfl, hp_yes, tp_yes]
          rintro e w' ⟨rfl, hww⟩; cases hww
          rw [show (ByteArray.mk r.toArray) = str r from rfl]
          go_wp2_with fail
          refine (hF _).out.mono ?_
          rintro e w' ⟨rfl, hww⟩; cases hww
          go_wp2
          go_ret3
          exact ⟨hb, .inr ⟨FIN.out, rfl⟩⟩
    · have FIN : Hid (meth l = none) := by
        show _ = _
        rw [HM.out]; simp only; rw [if_neg hd]
      go_enter Try.func80, Try.ntmps80
      go_wp2_with fail
      refine hH.out.mono ?_
      rintro e w' ⟨rfl, hww⟩; cases hww
      go_wp2_with fail
      refine hL.out.mono ?_
      rintro e w1 ⟨hb, v, rfl, hown⟩
      go_wp2_with fail
      refine (Try.strings_CutPrefix _ _ _).mono ?_
      rw [data_str, show (ByteArray.mk #[41]).data.toList = [41] from rfl, hp_no _ hd]
      rintro e w' ⟨rfl, hww⟩; cases hww
      go_wp2
      go_ret3
      exact ⟨hb, .inr ⟨FIN.out, rfl⟩⟩

theorem method_any (s : ByteArray) (w : World) (hs : s.size ≤ 9223372036854775807) :
    Calls Try.prog 80 #[.string s] w fun e w' => Below w.heap.size w w' ∧ MethAns s.data.toList w.heap.size e w' := by
  have no : meth s.data.toList = none → Lib.hasPrefix s.data.toList [40] = false → Calls Try.prog 80 #[.string s] w fun e w' => Below w.heap.size w w' ∧ MethAns s.data.toList w.heap.size e w' :=
    fun h1 h2 => (method_bad s w h2).mono fun e w' ⟨he, hw⟩ => by cases hw; exact ⟨Below.refl _ _, .inr ⟨h1, he⟩⟩
  match h : s.data.toList with
  | [] => rw [h] at no; exact no rfl rfl
  | c :: t =>
    by_cases hc : c = 40
    · subst hc; rw [← h]; exact method_open s w t hs h
    · rw [h] at no
      exact no (by unfold meth; simp only; rw [if_neg hc]) (hp_no t hc)
end Go.Proofs.Ytknppdpcgdncdaa.Q.D
