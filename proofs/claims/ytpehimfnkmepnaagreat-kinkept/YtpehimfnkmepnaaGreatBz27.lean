import Derived.Test.YtpehimfnkmepnaaGreatBz26
import Derived.Lib.OthersKept
import Derived.Deep.LoopGhost
import Derived.Deep.QuietTactic
import Derived.BigQuiet
import Derived.Deep.AppendLies
import Derived.Lib.ValidU
import Derived.Lib.DecodeN
import Derived.Laws.BytesArg
import Derived.Deep.RegionHeld3
import Derived.Deep.RegionLaw
import Derived.Deep.DrawnRows
import Derived.Handy
set_option maxRecDepth 8000
set_option maxHeartbeats 40000000
namespace Go.Proofs.YtpehimfnkmepnaaGreat.Q.D
open Go.RowKit
theorem Tryz.info9 : (Tryz.prog.info? 9).map (fun i => (i.zero, i.size, i.bytes)) = some (some (.string ⟨#[]⟩), 1, 16) := by kernel_rfl
def zE5 (ps : List Bs) : List Value := ps.map fun p => Value.string (str p)
theorem zF0 (ps : List Bs) (p : Bs) : zE5 (ps ++ [p]) = zE5 ps ++ [Value.string (str p)] := by simp [zE5]
theorem zA4 {w : World} {B n e : Nat} {v : Value} {xs : List Value} (h : w.ownsRow B e 1 v n xs) : ∃ ao cap, v = .slice ao n cap := by
 rcases h.2 with ⟨rfl, rfl⟩ | ⟨g, cap, cur, rfl, _⟩
 · exact ⟨_, _, rfl⟩
 · exact ⟨_, _, rfl⟩
def zLt : Value → Nat
 | .slice _ n _ => n
 | _ => 0
structure Took (l : Bs) (ps : List Bs) (S : ByteArray) : Prop where
 eq : l = ps.flatten ++ S.data.toList
 fld : ∀ p ∈ ps, Fld p
theorem Took.more {l : Bs} {ps : List Bs} {S : ByteArray} (h : Took l ps S) (h0 : flen S.data.toList ≠ 0) :
 Took l (ps ++ [S.data.toList.take (flen S.data.toList)]) (S.extract (flen S.data.toList) S.size) := by
 refine ⟨?_, ?_⟩
 · rw [h.eq, zBk]; simp
 · intro p hp
   rcases List.mem_append.1 hp with hp | hp
   · exact h.fld p hp
   · simp at hp; subst hp; exact zEc h0
theorem zPx (s : ByteArray) (w : World) (hs : s.size ≤ 9223372036854775807) :
 Calls Tryz.prog 124 #[.string s] w fun e w' => Below w.heap.size w w' ∧
  ∃ v, e = .returned (.tuple #[v, .string (str (lead 8 s.data.toList).2)]) ∧ w'.ownsRow w.heap.size 9 1 v (lead 8 s.data.toList).1.length (zE5 (lead 8 s.data.toList).1) := by
 obtain ⟨i0, hi, hz0, hz1, hz2⟩ := info_parts Tryz.info9
 go_enter Tryz.func124, Tryz.ntmps124
 go_wp2
 go_loopw [0, 4] (fun sv fv wr => ∃ (ps : List Bs) (S : ByteArray), sv = .string S ∧ wr.ownsRow w.heap.size 9 1 fv ps.length (zE5 ps) ∧ Below w.heap.size w wr ∧ ps.length ≤ 8 ∧ S.size ≤ 9223372036854775807 ∧ Took s.data.toList ps S) (fun _ fv _ => 8 - zLt fv)
 case atStart =>
  exact ⟨[], s, rfl, ⟨rfl, .inl ⟨rfl, rfl⟩⟩, Below.refl _ _, by simp, hs, ⟨rfl, by simp⟩⟩
 case round =>
  obtain ⟨ps, S, rfl, hown, hbw, hp8, hS, htk⟩ := hrel
  have hsz := hbw.size
  have HT := zA0 htk
  clear htk
  obtain ⟨ao, cap, rfl⟩ := zA4 hown
  by_cases h8 : ps.length < 8
  · have h8' : (ps.length : Int) < 8 := by omega
    have hN := zA0 (zR1 S wr hS)
    have hle := zJf S.data.toList
    rw [← zAb] at hle
    by_cases h0 : flen S.data.toList = 0
    · have HF := zA0 h0
      rw [h0] at hN
      clear h0 hle
      go_wp2_with fail
      refine hN.out.mono ?_
      rintro e w' ⟨rfl, hww⟩; cases hww
      go_wp2
      go_ret2
      refine ⟨hbw, ?_⟩
      have e : lead 8 s.data.toList = (ps, S.data.toList) := by rw [HT.out.eq]; exact zD6 8 ps _ HT.out.fld hp8 (.inr HF.out)
      rw [e]
      exact ⟨_, by rw [zDz]; rfl, hown⟩
    · have HM := zA0 (HT.out.more h0)
      have e1 := zKm S 0 (flen S.data.toList)
      rw [Nat.sub_zero, List.drop_zero] at e1
      generalize flen S.data.toList = K at *
      have hK0 : ((K : Int) == 0) = false := by simp; omega
      obtain ⟨hK1, hK2⟩ := hle
      go_wp2_with fail
      refine hN.out.mono ?_
      rintro e w' ⟨rfl, hww⟩; cases hww
      go_wp2_with (at_builtin; refine wpList_append_own_at _ rfl _ _ 47 rfl w.heap.size 9 i0 (.string ⟨#[]⟩) 1 16 Tryz.underlying47 hi hz0 hz1 hz2 rfl (by decide) _ _ _ rfl (hown.alloc _) _ 1 1 [.string (str (List.take K S.data.toList))] rfl rfl ?c1 ?c2 ?c3 ?c4 ?c5 ?_)
      case c1 =>
       intro j u hj
       match j, hj with
       | 0, hj => simp at hj; subst hj; simp [Addr.add]
       | (j + 1), hj => simp at hj
      case c2 => intro u hu; simp at hu; rcases hu with rfl; rfl
      case c3 => unfold maxLen; omega
      case c4 => omega
      case c5 => simp; omega
      intro v' w2 hown' hgrow _ hat
      go_wp2
      obtain ⟨ao', cap', rfl⟩ := zA4 hown'
      refine ⟨⟨ps ++ [List.take K S.data.toList], _, rfl, ?_, ?_, ?_, ?_, HM.out⟩, ?_⟩
      · rw [zF0, List.length_append]; exact hown'
      · exact (hbw.alloc hsz _).grown hgrow (by simp; omega) (fun k hk => (hown.lt k hk).1)
      · simp; omega
      · rw [zAb, zBk, List.length_drop, ← zAb]; omega
      · simp only [zLt]; omega
  · have h8' : ¬ (ps.length : Int) < 8 := by omega
    go_wp2
    go_ret2
    refine ⟨hbw, ?_⟩
    have e : lead 8 s.data.toList = (ps, S.data.toList) := by rw [HT.out.eq]; exact zD6 8 ps _ HT.out.fld hp8 (.inl (by omega))
    rw [e]
    exact ⟨_, by rw [zDz]; rfl, hown⟩
theorem hp_nil (d : UInt8) : Lib.hasPrefix [] [d] = false := rfl
theorem zNs (c d : UInt8) (t : Bs) : Lib.hasPrefix (c :: t) [d] = (d == c) := by simp [Lib.hasPrefix, List.isPrefixOf]
theorem zJp (d : UInt8) (t : Bs) : Lib.hasPrefix (d :: t) [d] = true := by rw [zNs]; simp
theorem hp_no {c d : UInt8} (t : Bs) (h : c ≠ d) : Lib.hasPrefix (c :: t) [d] = false := by rw [zNs]; simpa using fun e => h e.symm
theorem zNl (d : UInt8) (t : Bs) : Lib.trimPrefix (d :: t) [d] = t := by unfold Lib.trimPrefix; rw [zJp, if_pos rfl]; rfl
theorem zS2 (m : Nat) (l : Bs) : (lead m l).2.length ≤ l.length := by
 have h := (zGm m l).2.2.1
 have := congrArg List.length h
 rw [List.length_append] at this; omega
def zF8 (l : Bs) (B : Nat) (e : Ending) (w' : World) : Prop :=
 (∃ ps r v, meth l = some (ps, r) ∧ e = .returned (.tuple #[v, .string (str r), .bool true]) ∧ w'.ownsRow B 9 1 v ps.length (zE5 ps)) ∨
 (meth l = none ∧ e = .returned (.tuple #[.slice none 0 0, .string ⟨#[]⟩, .bool false]))
theorem zN9 (s : ByteArray) (w : World) (h : Lib.hasPrefix s.data.toList [40] = false) :
 Calls Tryz.prog 85 #[.string s] w fun e w' => e = .returned (.tuple #[.slice none 0 0, .string ⟨#[]⟩, .bool false]) ∧ w' = w := by
 have hH := zA0 (Tryz.strings_HasPrefix s ⟨#[40]⟩ w)
 rw [show (ByteArray.mk #[40]).data.toList = [40] from rfl, h] at hH
 clear h
 go_enter Tryz.func85, Tryz.ntmps85
 go_wp2_with fail
 refine hH.out.mono ?_
 rintro e w' ⟨rfl, hww⟩; cases hww
 go_wp2
 go_ret3
 exact ⟨rfl, rfl⟩
theorem zL5 (s : ByteArray) (w : World) (t : Bs) (hs : s.size ≤ 9223372036854775807) (h : s.data.toList = 40 :: t) :
 Calls Tryz.prog 85 #[.string s] w fun e w' => Below w.heap.size w w' ∧ zF8 s.data.toList w.heap.size e w' := by
 have hH := zA0 (Tryz.strings_HasPrefix s ⟨#[40]⟩ w)
 rw [show (ByteArray.mk #[40]).data.toList = [40] from rfl, h, zJp] at hH
 have hsz : 1 ≤ s.size := by rw [zAb, h]; simp
 have he := zHn s 1
 rw [h, show List.drop 1 (40 :: t) = t from rfl] at he
 have hL := zA0 (zPx (str t) w (by rw [zFj]; rw [zAb, h] at hs; simp at hs; omega))
 rw [zCp] at hL
 have HM : Hid (meth s.data.toList = (match (lead 8 t).2 with
      | [] => none
      | d :: r => if d = 41 then (if r = [86] ∨ (0 < flen r ∧ flen r = r.length) then some ((lead 8 t).1, r) else none) else none)) := by
  show _ = _
  rw [h]; unfold meth; simp only; rw [if_pos trivial]; rfl
 have hR := zS2 8 t
 have ht : t.length ≤ 9223372036854775807 := by rw [zAb, h] at hs; simp at hs; omega
 generalize (lead 8 t).2 = R at *
 generalize (lead 8 t).1 = ps at *
 generalize hl : s.data.toList = l at *
 clear hl h
 generalize str t = T at *
 have hshort : ∀ (P : Prop), P → P := fun _ h => h
 cases R with
 | nil =>
   have FIN := zA0 HM.out
   simp only at FIN
   go_enter Tryz.func85, Tryz.ntmps85
   go_wp2_with fail
   refine hH.out.mono ?_
   rintro e w' ⟨rfl, hww⟩; cases hww
   go_wp2_with fail
   refine hL.out.mono ?_
   rintro e w1 ⟨hb, v, rfl, hown⟩
   go_wp2_with fail
   refine (Tryz.strings_CutPrefix _ _ _).mono ?_
   rw [zCp, show (ByteArray.mk #[41]).data.toList = [41] from rfl, hp_nil]
   rintro e w' ⟨rfl, hww⟩; cases hww
   go_wp2
   go_ret3
   exact ⟨hb, .inr ⟨FIN.out, rfl⟩⟩
 | cons d r =>
   by_cases hd : d = 41
   · subst hd
     have hF := fun w => zA0 (zAy (str r) w (by rw [zFj]; simp at hR; omega))
     rw [zCp] at hF
     by_cases hV : r = [86]
     · subst hV
       have FIN : Hid (meth l = some (ps, [86])) := by
        show _ = _
        rw [HM.out]; simp only; rw [if_pos trivial, if_pos (.inl trivial)]
       go_enter Tryz.func85, Tryz.ntmps85
       go_wp2_with fail
       refine hH.out.mono ?_
       rintro e w' ⟨rfl, hww⟩; cases hww
       go_wp2_with fail
       refine hL.out.mono ?_
       rintro e w1 ⟨hb, v, rfl, hown⟩
       go_wp2_with fail
       refine (Tryz.strings_CutPrefix _ _ _).mono ?_
       rw [zCp, show (ByteArray.mk #[41]).data.toList = [41] from rfl, zJp, zNl]
       rintro e w' ⟨rfl, hww⟩; cases hww
       go_wp2
       go_ret3
       exact ⟨hb, .inl ⟨_, _, _, FIN.out, rfl, hown⟩⟩
     · have hne : (str r).toList ≠ [86] := by rw [Lib.toList_data]; exact hV
       have hne' : ((str r).toList == [86]) = false := by simpa using hne
       have hne2 : ((str r).toList != [86]) = true := by simpa using hne
       by_cases hf : zB8 r = true
       · have FIN : Hid (meth l = some (ps, r)) := by
          show _ = _
          rw [HM.out]; simp only; rw [if_pos trivial, if_pos (.inr (of_decide_eq_true hf))]
         rw [hf] at hF
         clear hf hne
         go_enter Tryz.func85, Tryz.ntmps85
         go_wp2_with fail
         refine hH.out.mono ?_
         rintro e w' ⟨rfl, hww⟩; cases hww
         go_wp2_with fail
         refine hL.out.mono ?_
         rintro e w1 ⟨hb, v, rfl, hown⟩
         go_wp2_with fail
         refine (Tryz.strings_CutPrefix _ _ _).mono ?_
         rw [zCp, show (ByteArray.mk #[41]).data.toList = [41] from rfl, zJp, zNl]
         rintro e w' ⟨rfl, hww⟩; cases hww
         rw [show (ByteArray.mk r.toArray) = str r from rfl]
         go_wp2_with fail
         refine (hF _).out.mono ?_
         rintro e w' ⟨rfl, hww⟩; cases hww
         go_wp2
         go_ret3
         exact ⟨hb, .inl ⟨_, _, _, FIN.out, rfl, hown⟩⟩
       · have FIN : Hid (meth l = none) := by
          show _ = _
          rw [HM.out]; simp only; rw [if_pos trivial, if_neg]
          rintro (h | h)
          · exact hV h
          · exact hf (decide_eq_true h)
         simp only [Bool.not_eq_true] at hf
         rw [hf] at hF
         clear hf hne
         go_enter Tryz.func85, Tryz.ntmps85
         go_wp2_with fail
         refine hH.out.mono ?_
         rintro e w' ⟨rfl, hww⟩; cases hww
         go_wp2_with fail
         refine hL.out.mono ?_
         rintro e w1 ⟨hb, v, rfl, hown⟩
         go_wp2_with fail
         refine (Tryz.strings_CutPrefix _ _ _).mono ?_
         rw [zCp, show (ByteArray.mk #[41]).data.toList = [41] from rfl, zJp, zNl]
         rintro e w' ⟨rfl, hww⟩; cases hww
         rw [show (ByteArray.mk r.toArray) = str r from rfl]
         go_wp2_with fail
         refine (hF _).out.mono ?_
         rintro e w' ⟨rfl, hww⟩; cases hww
         go_wp2
         go_ret3
         exact ⟨hb, .inr ⟨FIN.out, rfl⟩⟩
   · have FIN : Hid (meth l = none) := by
      show _ = _
      rw [HM.out]; simp only; rw [if_neg hd]
     go_enter Tryz.func85, Tryz.ntmps85
     go_wp2_with fail
     refine hH.out.mono ?_
     rintro e w' ⟨rfl, hww⟩; cases hww
     go_wp2_with fail
     refine hL.out.mono ?_
     rintro e w1 ⟨hb, v, rfl, hown⟩
     go_wp2_with fail
     refine (Tryz.strings_CutPrefix _ _ _).mono ?_
     rw [zCp, show (ByteArray.mk #[41]).data.toList = [41] from rfl, hp_no _ hd]
     rintro e w' ⟨rfl, hww⟩; cases hww
     go_wp2
     go_ret3
     exact ⟨hb, .inr ⟨FIN.out, rfl⟩⟩
theorem zAh (s : ByteArray) (w : World) (hs : s.size ≤ 9223372036854775807) :
 Calls Tryz.prog 85 #[.string s] w fun e w' => Below w.heap.size w w' ∧ zF8 s.data.toList w.heap.size e w' := by
 have no : meth s.data.toList = none → Lib.hasPrefix s.data.toList [40] = false → Calls Tryz.prog 85 #[.string s] w fun e w' => Below w.heap.size w w' ∧ zF8 s.data.toList w.heap.size e w' :=
  fun h1 h2 => (zN9 s w h2).mono fun e w' ⟨he, hw⟩ => by cases hw; exact ⟨Below.refl _ _, .inr ⟨h1, he⟩⟩
 match h : s.data.toList with
 | [] => rw [h] at no; exact no rfl rfl
 | c :: t =>
   by_cases hc : c = 40
   · subst hc; rw [← h]; exact zL5 s w t hs h
   · rw [h] at no
     exact no (by unfold meth; simp only; rw [if_neg hc]) (hp_no t hc)
end Go.Proofs.YtpehimfnkmepnaaGreat.Q.D
namespace Go.Proofs.YtpehimfnkmepnaaGreat.Q
open Go.RowKit D
structure CD where
 kind : Int
 n : Int
 cls : ByteArray
 nm : ByteArray
 dsc : ByteArray
def CD.cells (c : CD) : List Value := [.int .i64 c.kind, .int .i32 c.n, .string c.cls, .string c.nm, .string c.dsc]
def CD.val (c : CD) : Value := .agg #[.int .i64 c.kind, .int .i32 c.n, .string c.cls, .string c.nm, .string c.dsc]
structure CD.Fits (c : CD) : Prop where
 c3 : c.cls.size ≤ 9223372036854775807
 c4 : c.nm.size ≤ 9223372036854775807
 c5 : c.dsc.size ≤ 9223372036854775807
abbrev bsB (s : ByteArray) : Bs := s.data.toList
def zCn (s : ByteArray) : Bool := s.toList.isEmpty
def zEw (s : ByteArray) : Bool := (zF3 (bsB s)).2 || zB9 (bsB s)
def zD9 (c : CD) : Bool := zB9 (bsB c.cls) && zB9 (bsB c.nm)
def zBj (s : ByteArray) : Bool := (meth (bsB s)).isSome && decide (s.size ≤ 256)
def zBd (c : CD) : Bool :=
 if c.kind = 3 then zCn c.cls && zCn c.nm && zCn c.dsc
 else if c.kind = 7 then decide (c.n = 0) && zEw c.cls && zCn c.nm && zCn c.dsc
 else if c.kind = 9 then decide (c.n = 0) && zD9 c && zB8 (bsB c.dsc)
 else if c.kind = 10 then decide (c.n = 0) && zD9 c && zBj c.dsc
 else false
theorem zKn (s : ByteArray) (w : World) (hs : s.size ≤ 9223372036854775807) :
 Calls Tryz.prog 172 #[.string s] w fun e w' => e = .returned (.bool (zEw s)) ∧ w' = w := by
 have hE := D.zA0 (zPl s w hs)
 have hN := D.zA0 (zDc s w)
 unfold zEw bsB
 generalize (zF3 s.data.toList).1 = X at *
 generalize (zF3 s.data.toList).2 = a at *
 generalize zB9 s.data.toList = b at *
 cases a
 · go_enter Tryz.func172, Tryz.ntmps172
   go_wp2_with fail
   refine hE.out.mono ?_
   rintro e w' ⟨rfl, hww⟩; cases hww
   go_wp2_with fail
   refine hN.out.mono ?_
   rintro e w' ⟨rfl, hww⟩; cases hww
   go_wp2
   go_ret
   exact ⟨by cases b <;> rfl, rfl⟩
 · go_enter Tryz.func172, Tryz.ntmps172
   go_wp2_with fail
   refine hE.out.mono ?_
   rintro e w' ⟨rfl, hww⟩; cases hww
   go_wp2
   go_ret
   exact ⟨rfl, rfl⟩
theorem zJw (c : CD) (w : World) :
 Calls Tryz.prog 173 #[c.val] w fun e w' => e = .returned (.bool (zD9 c)) ∧ Below w.heap.size w w' := by
 have b1 : ∀ o, Below w.heap.size w (w.alloc o) := fun o => (Below.refl _ _).alloc (Nat.le_refl _) o
 have h1 := fun w => D.zA0 (zDc c.cls w)
 have h2 := fun w => D.zA0 (zDc c.nm w)
 unfold zD9 bsB
 generalize zB9 c.cls.data.toList = a at *
 generalize zB9 c.nm.data.toList = b at *
 obtain ⟨kind, n, cls, nm, dsc⟩ := c
 unfold CD.val
 simp only at h1 h2 ⊢
 cases a
 · go_enter Tryz.func173, Tryz.ntmps173
   go_wp2_with fail
   refine (h1 _).out.mono ?_
   rintro e w' ⟨rfl, hww⟩; cases hww
   go_wp2
   go_ret
   exact ⟨rfl, b1 _⟩
 · go_enter Tryz.func173, Tryz.ntmps173
   go_wp2_with fail
   refine (h1 _).out.mono ?_
   rintro e w' ⟨rfl, hww⟩; cases hww
   go_wp2_with fail
   refine (h2 _).out.mono ?_
   rintro e w' ⟨rfl, hww⟩; cases hww
   go_wp2
   go_ret
   exact ⟨by cases b <;> rfl, b1 _⟩
theorem zJk (s : ByteArray) (w : World) (hs : s.size ≤ 9223372036854775807) :
 Calls Tryz.prog 174 #[.string s] w fun e w' => e = .returned (.bool (zBj s)) ∧ Below w.heap.size w w' := by
 have hM := D.zA0 (zAh s w hs)
 go_enter Tryz.func174, Tryz.ntmps174
 go_wp2_with fail
 refine hM.out.mono ?_
 rintro e w' ⟨hb, ha⟩
 rcases ha with ⟨ps, r, v, hm, rfl, ho⟩ | ⟨hm, rfl⟩
 · have HM := D.zA0 hm
   clear hm
   by_cases h : s.size ≤ 256
   · have h' : (s.size : Int) ≤ 256 := by omega
     go_wp2
     go_ret
     exact ⟨by unfold zBj bsB; rw [HM.out, decide_eq_true h]; rfl, hb⟩
   · have h' : ¬ (s.size : Int) ≤ 256 := by omega
     go_wp2
     go_ret
     exact ⟨by unfold zBj bsB; rw [HM.out, decide_eq_false h]; show Ending.returned (.bool (decide ((s.size : Int) ≤ 256))) = _; rw [decide_eq_false (by omega)]; rfl, hb⟩
 · have HM := D.zA0 hm
   clear hm
   go_wp2
   go_ret
   exact ⟨by unfold zBj bsB; rw [HM.out]; rfl, hb⟩
theorem zCe {a b : Bool} (h : a = b) : Ending.returned (.bool a) = .returned (.bool b) := by rw [h]
theorem zNp (c : CD) (w : World) (hf : c.Fits) :
 Calls Tryz.prog 149 #[c.val] w fun e w' => e = .returned (.bool (zBd c)) ∧ Below w.heap.size w w' := by
 have b1 : ∀ o, Below w.heap.size w (w.alloc o) := fun o => (Below.refl _ _).alloc (Nat.le_refl _) o
 have hC := fun w => D.zA0 (zKn c.cls w hf.c3)
 have hM := fun w => D.zA0 (zJw c w)
 have hD := fun w => D.zA0 (zJk c.dsc w hf.c5)
 have hF := fun w => D.zA0 (zAy c.dsc w hf.c5)
 have HR : Hid (zBd c = zBd c) := rfl
 revert HR
 generalize hR : zBd c = R
 unfold zBd zCn at hR
 intro _
 generalize zEw c.cls = cb at *
 generalize zD9 c = mb at *
 generalize zBj c.dsc = db at *
 generalize zB8 (bsB c.dsc) = fb at *
 obtain ⟨kind, n, cls, nm, dsc⟩ := c
 unfold CD.val at *
 simp only at hC hM hD hF hR ⊢
 have HR := D.zA0 hR
 clear hR hf
 by_cases k3 : kind = 3
 · subst k3
   go_enter Tryz.func149, Tryz.ntmps149
   go_wp2
   all_goals (go_ret; refine ⟨zCe ?_, b1 _⟩; rw [← HR.out]; simp_all)
 · by_cases k7 : kind = 7
   · subst k7
     by_cases h0 : n = 0
     · subst h0
       cases cb
       · go_enter Tryz.func149, Tryz.ntmps149
         go_wp2_with fail
         refine (hC _).out.mono ?_
         rintro e w' ⟨rfl, hww⟩; cases hww
         go_wp2
         all_goals (go_ret; refine ⟨zCe ?_, b1 _⟩; rw [← HR.out]; simp_all)
       · go_enter Tryz.func149, Tryz.ntmps149
         go_wp2_with fail
         refine (hC _).out.mono ?_
         rintro e w' ⟨rfl, hww⟩; cases hww
         go_wp2
         all_goals (go_ret; refine ⟨zCe ?_, b1 _⟩; rw [← HR.out]; simp_all)
     · go_enter Tryz.func149, Tryz.ntmps149
       go_wp2
       all_goals (go_ret; refine ⟨zCe ?_, b1 _⟩; rw [← HR.out]; simp_all)
   · by_cases k9 : kind = 9
     · subst k9
       by_cases h0 : n = 0
       · subst h0
         cases mb
         · go_enter Tryz.func149, Tryz.ntmps149
           go_wp2_with fail
           refine (hM _).out.mono ?_
           rintro e w2 ⟨rfl, b2⟩
           have BB := (b1 _).trans (b2.mono (by simp))
           go_wp2
           all_goals (go_ret; refine ⟨zCe ?_, BB⟩; rw [← HR.out]; simp_all)
         · go_enter Tryz.func149, Tryz.ntmps149
           go_wp2_with fail
           refine (hM _).out.mono ?_
           rintro e w2 ⟨rfl, b2⟩
           have BB := (b1 _).trans (b2.mono (by simp))
           have c4 : w2.cell? ⟨w.heap.size, 4, none⟩ = some (.string dsc) := cell_later b2 (by rw [cell_of_row _ _ 4 _ 112 (0, 0) (heap_alloc_new w _)]; rfl)
           go_wp2_with fail
           refine (hF _).out.mono ?_
           rintro e w' ⟨rfl, hww⟩; cases hww
           go_wp2
           all_goals (go_ret; refine ⟨zCe ?_, BB⟩; rw [← HR.out]; simp_all)
       · go_enter Tryz.func149, Tryz.ntmps149
         go_wp2
         all_goals (go_ret; refine ⟨zCe ?_, b1 _⟩; rw [← HR.out]; simp_all)
     · by_cases k10 : kind = 10
       · subst k10
         by_cases h0 : n = 0
         · subst h0
           cases mb
           · go_enter Tryz.func149, Tryz.ntmps149
             go_wp2_with fail
             refine (hM _).out.mono ?_
             rintro e w2 ⟨rfl, b2⟩
             have BB := (b1 _).trans (b2.mono (by simp))
             go_wp2
             all_goals (go_ret; refine ⟨zCe ?_, BB⟩; rw [← HR.out]; simp_all)
           · go_enter Tryz.func149, Tryz.ntmps149
             go_wp2_with fail
             refine (hM _).out.mono ?_
             rintro e w2 ⟨rfl, b2⟩
             have c4 : w2.cell? ⟨w.heap.size, 4, none⟩ = some (.string dsc) := cell_later b2 (by rw [cell_of_row _ _ 4 _ 112 (0, 0) (heap_alloc_new w _)]; rfl)
             go_wp2_with fail
             refine (hD _).out.mono ?_
             rintro e w3 ⟨rfl, b3⟩
             have hs2 := b2.size
             have BB := (b1 _).trans ((b2.mono (by simp)).trans (b3.mono (by simp at hs2; omega)))
             go_wp2
             all_goals (go_ret; refine ⟨zCe ?_, BB⟩; rw [← HR.out]; simp_all)
         · go_enter Tryz.func149, Tryz.ntmps149
           go_wp2
           all_goals (go_ret; refine ⟨zCe ?_, b1 _⟩; rw [← HR.out]; simp_all)
       · go_enter Tryz.func149, Tryz.ntmps149
         go_wp2
         all_goals (go_ret; refine ⟨zCe ?_, b1 _⟩; rw [← HR.out]; simp_all)
end Go.Proofs.YtpehimfnkmepnaaGreat.Q
namespace Go.Proofs.YtpehimfnkmepnaaGreat.Q
open Go.RowKit
theorem Tryz.info5 : (Tryz.prog.info? 5).map (fun i => (i.zero, i.size, i.bytes)) = some (some (.int .u8 0), 1, 1) := by kernel_rfl
def zAj (l : List Int) : List Value := l.map (Value.int .u8)
def Lies (w : World) (g off : Nat) (l : List Int) : Prop := ∀ j x, l[j]? = some x → w.cell? ⟨g, off + j, none⟩ = some (.int .u8 x)
def zAq (l : List Int) : Prop := ∀ x ∈ l, 0 ≤ x ∧ x ≤ 255
def View (w : World) (v : Value) (l : List Int) : Prop :=
 ∃ ao cap, v = .slice ao l.length cap ∧ l.length ≤ cap ∧ cap ≤ maxLen ∧ zAq l ∧ (l = [] ∨ ∃ g off, ao = some ⟨g, off, none⟩ ∧ Lies w g off l)
theorem View.below {w wr : World} {v : Value} {l : List Int} (h : View w v l) (hb : Below w.heap.size w wr) : View wr v l := by
 obtain ⟨ao, cap, rfl, hc, hm, hy, hl⟩ := h
 refine ⟨ao, cap, rfl, hc, hm, hy, ?_⟩
 rcases hl with h | ⟨g, off, e, hl⟩
 · exact .inl h
 · exact .inr ⟨g, off, e, fun j x hj => cell_later hb (hl j x hj)⟩
theorem View.of_own {w : World} {B : Nat} {v : Value} {l : List Int} (h : w.ownsRow B 5 1 v l.length (zAj l)) (hb : zAq l) : View w v l := by
 rcases h.2 with ⟨rfl, h0⟩ | ⟨g, cap, cur, rfl, _, hg, h1, h2, h3, h4⟩
 · have : l = [] := List.length_eq_zero_iff.1 h0
   subst this
   exact ⟨none, 0, rfl, Nat.le_refl _, by unfold maxLen; omega, hb, .inl rfl⟩
 · refine ⟨some ⟨g, 0, none⟩, cap, rfl, h1, h2, hb, .inr ⟨g, 0, rfl, fun j x hj => ?_⟩⟩
   have hj' : (zAj l)[j]? = some (.int .u8 x) := by simp [zAj, hj]
   have := h.cells (g := g) rfl j _ hj'
   have e : (⟨g, 0, none⟩ : Addr).add j = ⟨g, 0 + j, none⟩ := by unfold Addr.add; split <;> simp_all
   rwa [e] at this
theorem zP3 (w : World) (a : Option Addr) (l c : Nat) : (binOp .eql 35 (.slice a l c) (.slice none 0 0)).run Tryz.prog w = .ok (.bool a.isNone) w := by
 simp [binOp, run_equal_slice_nil w 35 5 a l c Tryz.underlying35]
theorem zF4 {w : World} {g off : Nat} {l : List Int} (h : Lies w g off l) (j : Nat) (u : Value) (hj : (zAj l)[j]? = some u) : w.cell? ((⟨g, off, none⟩ : Addr).add j) = some u := by
 have e : (⟨g, off, none⟩ : Addr).add j = ⟨g, off + j, none⟩ := by unfold Addr.add; split <;> simp_all
 rw [e]
 simp only [zAj, List.getElem?_map, Option.map_eq_some_iff] at hj
 obtain ⟨x, hx, rfl⟩ := hj
 exact h j x hx
theorem zG6 (l : List Int) : ∀ u ∈ zAj l, u.oneCell' = true := by
 intro u hu
 simp only [zAj, List.mem_map] at hu
 obtain ⟨x, _, rfl⟩ := hu
 rfl
theorem zNj (v : Value) (l : List Int) (w : World) (hv : View w v l) (hlen : l.length ≤ 140737488355328) :
 Calls Tryz.prog 113 #[v] w fun e w' => Below w.heap.size w w' ∧ ∃ v', e = .returned v' ∧ w'.ownsRow w.heap.size 5 1 v' l.length (zAj l) := by
 obtain ⟨i0, hi, hz0, hz1, hz2⟩ := info_parts Tryz.info5
 obtain ⟨ao, cap, rfl, hc, hm, hy, hl⟩ := hv
 cases ao with
 | none =>
   obtain rfl : l = [] := by
    rcases hl with h | ⟨g, off, h, _⟩
    · exact h
    · cases h
   have hq := zP3 w none 0 cap
   go_enter Tryz.func113, Tryz.ntmps113
   go_wp2
   go_ret
   exact ⟨Below.refl _ _, _, rfl, World.ownsRow_nil _ _ _ _⟩
 | some a =>
   have hq := zP3 w (some a) l.length cap
   have hown0 : (w.alloc (.cells #[] 5)).ownsRow w.heap.size 5 1 (.slice (some ⟨w.heap.size, 0, none⟩) 0 0) 0 [] := World.ownsRow_made w #[] 0 (Nat.le_refl _) (by unfold maxLen; omega) rfl
   have zBs : ∀ j u, (zAj l)[j]? = some u → (w.alloc (.cells #[] 5)).cell? (a.add j) = some u := by
    intro j u hj
    rcases hl with rfl | ⟨g, off, e, hl⟩
    · simp [zAj] at hj
    · cases e
      exact cell_later ((Below.refl _ w).alloc (Nat.le_refl _) _) (zF4 hl j u hj)
   go_enter Tryz.func113, Tryz.ntmps113
   go_wp2_with (at_builtin; refine wpList_append_own_at _ rfl _ _ 35 rfl w.heap.size 5 i0 (.int .u8 0) 1 1 Tryz.underlying35 hi hz0 hz1 hz2 rfl (by decide) _ _ _ rfl hown0 _ _ _ (zAj l) rfl (by simp [zAj]) zBs (zG6 l) (by unfold maxLen; omega) (by omega) (by simp) ?_; intro v1 w1 ho1 hg1 _ hat1)
   go_wp2
   go_ret
   refine ⟨((Below.refl _ _).alloc (Nat.le_refl _) _).grown hg1 (by simp) (fun k h => (hown0.lt k h).1), _, rfl, ?_⟩
   simpa using ho1
attribute [local go_sem ↓] Go.wp_at_zero Go.wp_at_succ
def be (n : Int) : Nat → List Int
 | 0 => []
 | k + 1 => (n / 2 ^ (8 * k) % 256) :: be n k
theorem zA4 {w : World} {B n : Nat} {v : Value} {xs : List Value} (h : w.ownsRow B 5 1 v n xs) : ∃ ao cap, v = .slice ao n cap := by
 rcases h.2 with ⟨rfl, rfl⟩ | ⟨g, cap, cur, rfl, _⟩
 · exact ⟨_, _, rfl⟩
 · exact ⟨_, _, rfl⟩
structure CD.Ok (c : CD) : Prop extends c.Fits where
 nlo : -2147483648 ≤ c.n
 nhi : c.n ≤ 2147483647
def zP0 : CD := ⟨0, 0, ⟨#[]⟩, ⟨#[]⟩, ⟨#[]⟩⟩
theorem zA5 {B : Nat} {w W : World} (h : Below B w W) (q : Nat) : Below B w (W.drewN q) := ⟨h.os, h.tape, h.output, h.size, h.block⟩
end Go.Proofs.YtpehimfnkmepnaaGreat.Q
