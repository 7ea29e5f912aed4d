/- Texts QDDL BKd BKS. -/
import Derived.Test.YtccbgdbipihoaaaBv01
import Derived.Lib.OthersKept
import Derived.Deep.LoopGhost
import Derived.Deep.QuietTactic
import Derived.BigQuiet
import Derived.ArgAppend
namespace Go.Proofs.Ytccbgdbipihoaaa.Q.D
open Go.RowKit
theorem Try.info9 : (Try.prog.info? 9).map (fun i => (i.zero, i.size, i.bytes)) = some (some (.string ⟨#[]⟩), 1, 16) := by kernel_rfl
def scells (ps : List Bs) : List Value := ps.map fun p => Value.string (str p)
theorem scells_snoc (ps : List Bs) (p : Bs) : scells (ps ++ [p]) = scells ps ++ [Value.string (str p)] := by simp [scells]
theorem own_slice {w : World} {B n e : Nat} {v : Value} {xs : List Value} (h : w.ownsRow B e 1 v n xs) : ∃ ao cap, v = .slice ao n cap := by
  rcases h.2 with ⟨rfl, rfl⟩ | ⟨g, cap, cur, rfl, _⟩
  · exact ⟨_, _, rfl⟩
  · exact ⟨_, _, rfl⟩
def sliceLen : Value → Nat
  | .slice _ n _ => n
  | _ => 0

structure Took (l : Bs) (ps : List Bs) (S : ByteArray) : Prop where
  eq : l = ps.flatten ++ S.data.toList
  fld : ∀ p ∈ ps, Fld p
theorem Took.more {l : Bs} {ps : List Bs} {S : ByteArray} (h : Took l ps S) (h0 : flen S.data.toList ≠ 0) :
    Took l (ps ++ [S.data.toList.take (flen S.data.toList)]) (S.extract (flen S.data.toList) S.size) := by
  refine ⟨?_, ?_⟩
  · rw [h.eq, ext_data]; simp
  · intro p hp
    rcases List.mem_append.1 hp with hp | hp
    · exact h.fld p hp
    · simp at hp; subst hp; exact flen_take h0

set_option maxRecDepth 8000 in
set_option maxHeartbeats 4000000 in
theorem lead_any (s : ByteArray) (w : World) (hs : s.size ≤ 9223372036854775807) :
    Calls Try.prog 30 #[.string s] w fun e w' => Below w.heap.size w w' ∧
      ∃ v, e = .returned (.tuple #[v, .string (str (lead 8 s.data.toList).2)]) ∧ w'.ownsRow w.heap.size 9 1 v (lead 8 s.data.toList).1.length (scells (lead 8 s.data.toList).1) := by
  obtain ⟨i0, hi, hz0, hz1, hz2⟩ := info_parts Try.info9
  go_enter Try.func30, Try.ntmps30
  go_wp2
  go_loopw [0, 4] (fun sv fv wr => ∃ (ps : List Bs) (S : ByteArray), sv = .string S ∧ wr.ownsRow w.heap.size 9 1 fv ps.length (scells ps) ∧ Below w.heap.size w wr ∧ ps.length ≤ 8 ∧ S.size ≤ 9223372036854775807 ∧ Took s.data.toList ps S) (fun _ fv _ => 8 - sliceLen fv)
  case atStart =>
    exact ⟨[], s, rfl, ⟨rfl, .inl ⟨rfl, rfl⟩⟩, Below.refl _ _, by simp, hs, ⟨rfl, by simp⟩⟩
  case round =>
    obtain ⟨ps, S, rfl, hown, hbw, hp8, hS, htk⟩ := hrel
    have hsz := hbw.size
    have HT := hidIt htk
    clear htk
    obtain ⟨ao, cap, rfl⟩ := own_slice hown
    by_cases h8 : ps.length < 8
    · have h8' : (ps.length : Int) < 8 := by omega
      have hN := hidIt (fl_any S wr hS)
      have hle := flen_le S.data.toList
      rw [← size_len] at hle
      by_cases h0 : flen S.data.toList = 0
      · have HF := hidIt h0
        rw [h0] at hN
        clear h0 hle
        go_wp2_with fail
        refine hN.out.mono ?_
        rintro e w' ⟨rfl, hww⟩; cases hww
        go_wp2
        go_ret2
        refine ⟨hbw, ?_⟩
        have e : lead 8 s.data.toList = (ps, S.data.toList) := by rw [HT.out.eq]; exact lead_char 8 ps _ HT.out.fld hp8 (.inr HF.out)
        rw [e]
        exact ⟨_, by rw [str_data]; rfl, hown⟩
      · have HM := hidIt (HT.out.more h0)
        have e1 := ext_str S 0 (flen S.data.toList)
        rw [Nat.sub_zero, List.drop_zero] at e1
        generalize flen S.data.toList = K at *
        have hK0 : ((K : Int) == 0) = false := by simp; omega
        obtain ⟨hK1, hK2⟩ := hle
        go_wp2_with fail
        refine hN.out.mono ?_
        rintro e w' ⟨rfl, hww⟩; cases hww
        go_wp2_with (at_builtin; refine wpList_append_own_at _ rfl _ _ 24 rfl w.heap.size 9 i0 (.string ⟨#[]⟩) 1 16 Try.underlying24 hi hz0 hz1 hz2 rfl (by decide) _ _ _ rfl (hown.alloc _) _ 1 1 [.string (str (List.take K S.data.toList))] rfl rfl ?c1 ?c2 ?c3 ?c4 ?c5 ?_)
        case c1 =>
          intro j u hj
          match j, hj with
          | 0, hj => simp at hj; subst hj; simp [Addr.add]
          | (j + 1), hj => simp at hj
        case c2 => intro u hu; simp at hu; rcases hu with rfl; rfl
        case c3 => unfold maxLen; omega
        case c4 => omega
        case c5 => simp; omega
        intro v' w2 hown' hgrow _ hat
        go_wp2
        obtain ⟨ao', cap', rfl⟩ := own_slice hown'
        refine ⟨⟨ps ++ [List.take K S.data.toList], _, rfl, ?_, ?_, ?_, ?_, HM.out⟩, ?_⟩
        · rw [scells_snoc, List.length_append]; exact hown'
        · exact (hbw.alloc hsz _).grown hgrow (by simp; omega) (fun k hk => (hown.lt k hk).1)
        · simp; omega
        · rw [size_len, ext_data, List.length_drop, ← size_len]; omega
        · simp only [sliceLen]; omega
    · have h8' : ¬ (ps.length : Int) < 8 := by omega
      go_wp2
      go_ret2
      refine ⟨hbw, ?_⟩
      have e : lead 8 s.data.toList = (ps, S.data.toList) := by rw [HT.out.eq]; exact lead_char 8 ps _ HT.out.fld hp8 (.inl (by omega))
      rw [e]
      exact ⟨_, by rw [str_data]; rfl, hown⟩

theorem hp_nil (d : UInt8) : Lib.hasPrefix [] [d] = false := rfl
theorem hp_cons (c d : UInt8) (t : Bs) : Lib.hasPrefix (c :: t) [d] = (d == c) := by simp [Lib.hasPrefix, List.isPrefixOf]
theorem hp_yes (d : UInt8) (t : Bs) : Lib.hasPrefix (d :: t) [d] = true := by rw [hp_cons]; simp
theorem hp_no {c d : UInt8} (t : Bs) (h : c ≠ d) : Lib.hasPrefix (c :: t) [d] = false := by rw [hp_cons]; simpa using fun e => h e.symm
theorem tp_yes (d : UInt8) (t : Bs) : Lib.trimPrefix (d :: t) [d] = t := by unfold Lib.trimPrefix; rw [hp_yes, if_pos rfl]; rfl
theorem lead_le (m : Nat) (l : Bs) : (lead m l).2.length ≤ l.length := by
  have h := (lead_inv m l).2.2.1
  have := congrArg List.length h
  rw [List.length_append] at this; omega

def MethAns (l : Bs) (B : Nat) (e : Ending) (w' : World) : Prop :=
  (∃ ps r v, meth l = some (ps, r) ∧ e = .returned (.tuple #[v, .string (str r), .bool true]) ∧ w'.ownsRow B 9 1 v ps.length (scells ps)) ∨
  (meth l = none ∧ e = .returned (.tuple #[.slice none 0 0, .string ⟨#[]⟩, .bool false]))

set_option maxRecDepth 8000 in
set_option maxHeartbeats 4000000 in
theorem method_bad (s : ByteArray) (w : World) (h : Lib.hasPrefix s.data.toList [40] = false) :
    Calls Try.prog 19 #[.string s] w fun e w' => e = .returned (.tuple #[.slice none 0 0, .string ⟨#[]⟩, .bool false]) ∧ w' = w := by
  have hH := hidIt (Try.strings_HasPrefix s ⟨#[40]⟩ w)
  rw [show (ByteArray.mk #[40]).data.toList = [40] from rfl, h] at hH
  clear h
  go_enter Try.func19, Try.ntmps19
  go_wp2_with fail
  refine hH.out.mono ?_
  rintro e w' ⟨rfl, hww⟩; cases hww
  go_wp2
  go_ret3
  exact ⟨rfl, rfl⟩

set_option maxRecDepth 8000 in
set_option maxHeartbeats 4000000 in
theorem method_open (s : ByteArray) (w : World) (t : Bs) (hs : s.size ≤ 9223372036854775807) (h : s.data.toList = 40 :: t) :
    Calls Try.prog 19 #[.string s] w fun e w' => Below w.heap.size w w' ∧ MethAns s.data.toList w.heap.size e w' := by
  have hH := hidIt (Try.strings_HasPrefix s ⟨#[40]⟩ w)
  rw [show (ByteArray.mk #[40]).data.toList = [40] from rfl, h, hp_yes] at hH
  have hsz : 1 ≤ s.size := by rw [size_len, h]; simp
  have he := ext_end s 1
  rw [h, show List.drop 1 (40 :: t) = t from rfl] at he
  have hL := hidIt (lead_any (str t) w (by rw [str_size]; rw [size_len, h] at hs; simp at hs; omega))
  rw [data_str] at hL
  have HM : Hid (meth s.data.toList = (match (lead 8 t).2 with
       | [] => none
       | d :: r => if d = 41 then (if r = [86] ∨ (0 < flen r ∧ flen r = r.length) then some ((lead 8 t).1, r) else none) else none)) := by
    show _ = _
    rw [h]; unfold meth; simp only; rw [if_pos trivial]; rfl
  have hR := lead_le 8 t
  have ht : t.length ≤ 9223372036854775807 := by rw [size_len, h] at hs; simp at hs; omega
  generalize (lead 8 t).2 = R at *
  generalize (lead 8 t).1 = ps at *
  generalize hl : s.data.toList = l at *
  clear hl h
  generalize str t = T at *
  have hshort : ∀ (P : Prop), P → P := fun _ h => h
  cases R with
  | nil =>
    have FIN := hidIt HM.out
    simp only at FIN
    go_enter Try.func19, Try.ntmps19
    go_wp2_with fail
    refine hH.out.mono ?_
    rintro e w' ⟨rfl, hww⟩; cases hww
    go_wp2_with fail
    refine hL.out.mono ?_
    rintro e w1 ⟨hb, v, rfl, hown⟩
    go_wp2_with fail
    refine (Try.strings_CutPrefix _ _ _).mono ?_
    rw [data_str, show (ByteArray.mk #[41]).data.toList = [41] from rfl, hp_nil]
    rintro e w' ⟨rfl, hww⟩; cases hww
    go_wp2
    go_ret3
    exact ⟨hb, .inr ⟨FIN.out, rfl⟩⟩
  | cons d r =>
    by_cases hd : d = 41
    · subst hd
      have hF := fun w => hidIt (field_any (str r) w (by rw [str_size]; simp at hR; omega))
      rw [data_str] at hF
      by_cases hV : r = [86]
      · subst hV
        have FIN : Hid (meth l = some (ps, [86])) := by
          show _ = _
          rw [HM.out]; simp only; rw [if_pos trivial, if_pos (.inl trivial)]
        go_enter Try.func19, Try.ntmps19
        go_wp2_with fail
        refine hH.out.mono ?_
        rintro e w' ⟨rfl, hww⟩; cases hww
        go_wp2_with fail
        refine hL.out.mono ?_
        rintro e w1 ⟨hb, v, rfl, hown⟩
        go_wp2_with fail
        refine (Try.strings_CutPrefix _ _ _).mono ?_
        rw [data_str, show (ByteArray.mk #[41]).data.toList = [41] from rfl, hp_yes, tp_yes]
        rintro e w' ⟨rfl, hww⟩; cases hww
        go_wp2
        go_ret3
        exact ⟨hb, .inl ⟨_, _, _, FIN.out, rfl, hown⟩⟩
      · have hne : (str r).toList ≠ [86] := by rw [Lib.toList_data]; exact hV
        have hne' : ((str r).toList == [86]) = false := by simpa using hne
        have hne2 : ((str r).toList != [86]) = true := by simpa using hne
        by_cases hf : fieldB r = true
        · have FIN : Hid (meth l = some (ps, r)) := by
            show _ = _
            rw [HM.out]; simp only; rw [if_pos trivial, if_pos (.inr (of_decide_eq_true hf))]
          rw [hf] at hF
          clear hf hne
          go_enter Try.func19, Try.ntmps19
          go_wp2_with fail
          refine hH.out.mono ?_
          rintro e w' ⟨rfl, hww⟩; cases hww
          go_wp2_with fail
          refine hL.out.mono ?_
          rintro e w1 ⟨hb, v, rfl, hown⟩
          go_wp2_with fail
          refine (Try.strings_CutPrefix _ _ _).mono ?_
          rw [data_str, show (ByteArray.mk #[41]).data.toList = [41] from rfl, hp_yes, tp_yes]
          rintro e w' ⟨rfl, hww⟩; cases hww
          rw [show (ByteArray.mk r.toArray) = str r from rfl]
          go_wp2_with fail
          refine (hF _).out.mono ?_
          rintro e w' ⟨rfl, hww⟩; cases hww
          go_wp2
          go_ret3
          exact ⟨hb, .inl ⟨_, _, _, FIN.out, rfl, hown⟩⟩
        · have FIN : Hid (meth l = none) := by
            show _ = _
            rw [HM.out]; simp only; rw [if_pos trivial, if_neg]
            rintro (h | h)
            · exact hV h
            · exact hf (decide_eq_true h)
          simp only [Bool.not_eq_true] at hf
          rw [hf] at hF
          clear hf hne
          go_enter Try.func19, Try.ntmps19
          go_wp2_with fail
          refine hH.out.mono ?_
          rintro e w' ⟨rfl, hww⟩; cases hww
          go_wp2_with fail
          refine hL.out.mono ?_
          rintro e w1 ⟨hb, v, rfl, hown⟩
          go_wp2_with fail
          refine (Try.strings_CutPrefix _ _ _).mono ?_
          rw [data_str, show (ByteArray.mk #[41]).data.toList = [41] from rfl, hp_yes, tp_yes]
          rintro e w' ⟨rfl, hww⟩; cases hww
          rw [show (ByteArray.mk r.toArray) = str r from rfl]
          go_wp2_with fail
          refine (hF _).out.mono ?_
          rintro e w' ⟨rfl, hww⟩; cases hww
          go_wp2
          go_ret3
          exact ⟨hb, .inr ⟨FIN.out, rfl⟩⟩
    · have FIN : Hid (meth l = none) := by
        show _ = _
        rw [HM.out]; simp only; rw [if_neg hd]
      go_enter Try.func19, Try.ntmps19
      go_wp2_with fail
      refine hH.out.mono ?_
      rintro e w' ⟨rfl, hww⟩; cases hww
      go_wp2_with fail
      refine hL.out.mono ?_
      rintro e w1 ⟨hb, v, rfl, hown⟩
      go_wp2_with fail
      refine (Try.strings_CutPrefix _ _ _).mono ?_
      rw [data_str, show (ByteArray.mk #[41]).data.toList = [41] from rfl, hp_no _ hd]
      rintro e w' ⟨rfl, hww⟩; cases hww
      go_wp2
      go_ret3
      exact ⟨hb, .inr ⟨FIN.out, rfl⟩⟩

theorem method_any (s : ByteArray) (w : World) (hs : s.size ≤ 9223372036854775807) :
    Calls Try.prog 19 #[.string s] w fun e w' => Below w.heap.size w w' ∧ MethAns s.data.toList w.heap.size e w' := by
  have no : meth s.data.toList = none → Lib.hasPrefix s.data.toList [40] = false → Calls Try.prog 19 #[.string s] w fun e w' => Below w.heap.size w w' ∧ MethAns s.data.toList w.heap.size e w' :=
    fun h1 h2 => (method_bad s w h2).mono fun e w' ⟨he, hw⟩ => by cases hw; exact ⟨Below.refl _ _, .inr ⟨h1, he⟩⟩
  match h : s.data.toList with
  | [] => rw [h] at no; exact no rfl rfl
  | c :: t =>
    by_cases hc : c = 40
    · subst hc; rw [← h]; exact method_open s w t hs h
    · rw [h] at no
      exact no (by unfold meth; simp only; rw [if_neg hc]) (hp_no t hc)
end Go.Proofs.Ytccbgdbipihoaaa.Q.D
namespace Go.Proofs.Ytccbgdbipihoaaa.BK
open Go.RowKit Q.D
theorem Try.infoB9 : (Try.prog.info? 9).map (fun i => (i.zero, i.size, i.bytes)) = some (some (.string ⟨#[]⟩), 1, 16) := by kernel_rfl

def Lies (w : World) (g off : Nat) (xs : List ByteArray) : Prop := ∀ (j : Nat) x, xs[j]? = some x → w.cell? ⟨g, off + j, none⟩ = some (.string x)
def View (w : World) (v : Value) (xs : List ByteArray) : Prop :=
  ∃ ao cap, v = .slice ao xs.length cap ∧ xs.length ≤ cap ∧ cap ≤ maxLen ∧ (xs = [] ∨ ∃ g off, ao = some ⟨g, off, none⟩ ∧ Lies w g off xs)
theorem cell_later {B : Nat} {w wr : World} (h : Below B w wr) (hB : w.heap.size ≤ B) {a : Addr} {u : Value} (hc : w.cell? a = some u) : wr.cell? a = some u := by
  have hlt := World.block_lt_of_cell? w a hc
  rw [World.cell?_of_block (a := a) (h.block a.block (by omega))]; exact hc
theorem View.below {w wr : World} {v : Value} {l : List ByteArray} (h : View w v l) (hb : Below w.heap.size w wr) : View wr v l := by
  obtain ⟨ao, cap, rfl, hc, hm, hl⟩ := h
  refine ⟨ao, cap, rfl, hc, hm, ?_⟩
  rcases hl with h | ⟨g, off, e, hl⟩
  · exact .inl h
  · exact .inr ⟨g, off, e, fun j x hj => cell_later hb (Nat.le_refl _) (hl j x hj)⟩
theorem View.drewN {w : World} {v : Value} {l : List ByteArray} (h : View w v l) (q : Nat) : View (w.drewN q) v l := h
theorem View.of_own {w : World} {B : Nat} {v : Value} {l : List Bs} (h : w.ownsRow B 9 1 v l.length (scells l)) : View w v (l.map str) := by
  rcases h.2 with ⟨rfl, h0⟩ | ⟨g, cap, cur, rfl, _, hg, h1, h2, h3, h4⟩
  · have : l = [] := List.length_eq_zero_iff.1 h0
    subst this
    exact ⟨none, 0, rfl, Nat.le_refl _, by unfold maxLen; omega, .inl rfl⟩
  · refine ⟨some ⟨g, 0, none⟩, cap, by simp, by simpa using h1, h2, .inr ⟨g, 0, rfl, fun j x hj => ?_⟩⟩
    have hj' : (scells l)[j]? = some (.string x) := by
      rw [List.getElem?_map] at hj
      simp only [scells, List.getElem?_map]
      cases hl : l[j]? with
      | none => rw [hl] at hj; cases hj
      | some p => rw [hl] at hj; simp at hj; simp [hj]
    have := h.cells (g := g) rfl j _ hj'
    have e : (⟨g, 0, none⟩ : Addr).add j = ⟨g, 0 + j, none⟩ := by unfold Addr.add; split <;> simp_all
    rwa [e] at this
theorem View.laid (w : World) (l : List ByteArray) (hm : l.length ≤ maxLen) : View (w.alloc (.cells (l.map Value.string).toArray 9)) (.slice (some ⟨w.heap.size, 0, none⟩) l.length l.length) l := by
  refine ⟨_, _, rfl, Nat.le_refl _, hm, .inr ⟨_, _, rfl, fun j x hj => ?_⟩⟩
  have h := cell_of_row (w.alloc (.cells (l.map Value.string).toArray 9)) w.heap.size (0 + j) (l.map Value.string).toArray 9 (0, 0) (heap_alloc_new w _)
  rw [h]
  simp [hj]

set_option maxHeartbeats 2000000 in
theorem same_any (va vb : Value) (l : List ByteArray) (w : World) (ha : View w va l) (hb : View w vb l) :
    Calls Try.prog 10 #[va, vb] w fun e w' => e = .returned (.bool true) ∧ ∃ q, w' = w.drewN q := by
  obtain ⟨aoa, capa, rfl, hca, hma, hla⟩ := ha
  obtain ⟨aob, capb, rfl, hcb, hmb, hlb⟩ := hb
  unfold maxLen at hma hmb
  go_enter Try.func10, Try.ntmps10
  go_wp2
  go_loopw [5] (fun i wr => ∃ k q : Nat, k ≤ l.length ∧ i = .int .i64 (k : Int) ∧ wr = w.drewN q) (fun i _ => l.length - (intOf i).toNat)
  case atStart => exact ⟨0, 0, by omega, rfl, rfl⟩
  case round =>
    obtain ⟨k, q, hk, rfl, rfl⟩ := hrel
    by_cases hlt : k < l.length
    · obtain ⟨g, off, rfl, hla2⟩ : ∃ g off, aoa = some ⟨g, off, none⟩ ∧ Lies w g off l := by
        rcases hla with e | h
        · rw [e] at hlt; simp at hlt
        · exact h
      obtain ⟨g2, off2, rfl, hlb2⟩ : ∃ g off, aob = some ⟨g, off, none⟩ ∧ Lies w g off l := by
        rcases hlb with e | h
        · rw [e] at hlt; simp at hlt
        · exact h
      have ca := hla2 k l[k] (by simp [hlt])
      have cb := hlb2 k l[k] (by simp [hlt])
      clear hla hlb hla2 hlb2
      have h1 : (k : Int) < (l.length : Int) := by omega
      generalize l[k] = x at *
      go_wp2
      go_quiet (fail)
      go_wp2
      exact ⟨⟨k + 1, _, by omega, by go_num, rfl⟩, by simp [intOf]; omega⟩
    · have h1 : ¬ (k : Int) < (l.length : Int) := by omega
      go_wp2
      go_ret
      exact ⟨rfl, q, rfl⟩


end Go.Proofs.Ytccbgdbipihoaaa.BK
namespace Go.Proofs.Ytccbgdbipihoaaa.BK
open Go.RowKit Q.D

theorem Try.infoB22 : (Try.prog.info? 24).map (fun i => (i.zero, i.size, i.bytes)) = some (some (.slice none 0 0), 1, 24) := by kernel_rfl

theorem frozen_row {w : World} {b : Nat} {cs : Array Value} {T : TypeId} (hb : w.heap[b]? = some (.cells cs T (0, 0))) (j : Nat) : w.frozen? ⟨b, j, none⟩ = false := by
  simp [World.frozen?, hb]

def Moved (H : Nat) (v v' : Value) : Prop := v'.ownBlock = v.ownBlock ∨ ∃ g, v'.ownBlock = some g ∧ H ≤ g
structure Step (v : Value) (w : World) (v' : Value) (w' : World) : Prop where
  grown : w.grownBy w' v.ownBlock
  moved : Moved w.heap.size v v'
theorem Step.refl (v : Value) (w : World) : Step v w v w := ⟨⟨rfl, rfl, rfl, Nat.le_refl _, fun _ _ _ => rfl⟩, .inl rfl⟩
theorem Step.of_at {v v' : Value} {w w' : World} (hg : w.grownBy w' v.ownBlock) (ha : v'.ownBlock = v.ownBlock ∨ v'.ownBlock = some w.heap.size) : Step v w v' w' :=
  ⟨hg, ha.imp id fun e => ⟨_, e, Nat.le_refl _⟩⟩
theorem Step.below {v v' : Value} {w w' : World} (h : Step v w v' w') {B : Nat} (hB : B ≤ w.heap.size) (hv : ∀ k, v.ownBlock = some k → B ≤ k) : Below B w w' :=
  (Below.refl _ _).grown h.grown hB hv

def AllB (_ : List Bs) : Prop := True
theorem VO {w : World} {B : Nat} {v : Value} {l : List Bs} (h : w.ownsRow B 9 1 v l.length (scells l)) (_ : AllB l) : View w v (l.map str) := View.of_own h

theorem run_append_view (w : World) (ty : TypeId) (B : Nat) (v vb : Value) (n : Nat) (xs : List Value) (lb : List Bs) (hown : w.ownsRow B 9 1 v n xs) (hv : View w vb (lb.map str)) (hlen : (n + lb.length) * 16 ≤ 140737488355328) (hB : B ≤ w.heap.size) :
    ∃ v' w', (Builtin.append_ #[24, 24] ty #[v, vb]).run Try.prog w = .ok v' w' ∧ w'.ownsRow B 9 1 v' (n + lb.length) (xs ++ scells lb) ∧ Step v w v' w' := by
  obtain ⟨i0, hi, hz0, hz1, hz2⟩ := info_parts Try.infoB9
  obtain ⟨ao, cap, rfl, hc, hm, hl⟩ := hv
  rw [List.length_map]
  rcases hl with h0 | ⟨g, off, rfl, hl⟩
  · obtain rfl : lb = [] := by simpa using h0
    refine ⟨v, w, ?_, by simpa [scells] using hown, Step.refl _ _⟩
    rcases hown.2 with ⟨rfl, rfl⟩ | ⟨g, cap, cur, rfl, hbg, hg, hnc, hcm, hcs, htake⟩
    · cases ao <;> simp [Builtin.append_, run_underlying Try.underlying24, sizeOf, typeInfo, hi, Builtin.lenOf, Builtin.firstCells, loadCells, loadCellsFrom]
    · cases ao <;> simp [Builtin.append_, run_underlying Try.underlying24, sizeOf, typeInfo, hi, Builtin.lenOf, Builtin.firstCells, loadCells, loadCellsFrom, hnc, storeCells]
  · obtain ⟨v', w', hr, ho, hg, _, hat⟩ := run_append_own_at (P := Try.prog) w B 24 ty 9 i0 (.string ⟨#[]⟩) 1 16 Try.underlying24 hi hz0 hz1 hz2 rfl (by decide) v n xs hown ⟨g, off, none⟩ lb.length cap (scells lb) (by simp [scells]) (fun j u hj => by
        simp only [scells, List.getElem?_map] at hj
        cases hb : lb[j]? with
        | none => rw [hb] at hj; cases hj
        | some p =>
          rw [hb] at hj
          simp at hj
          subst hj
          rw [Addr.add_lit]
          exact hl j (str p) (by simp [hb])) (fun u hu => by
        simp only [scells, List.mem_map] at hu
        obtain ⟨p, _, rfl⟩ := hu
        rfl) (by unfold maxLen; omega) (by omega) hB
    exact ⟨v', w', hr, ho, Step.of_at hg hat⟩

def Slot (B : Nat) (w : World) (v : Value) (xs : List Value) : Prop :=
  (v = .slice none 0 0 ∧ xs = []) ∨
  ∃ g off cap cur, v = .slice (some ⟨g, off, none⟩) xs.length cap ∧ B ≤ g ∧ w.heap[g]? = some (.cells cur 24 (0, 0)) ∧ xs.length ≤ cap ∧ cap ≤ maxLen ∧ off + cap ≤ cur.size ∧ ∀ j u, xs[j]? = some u → cur[off + j]? = some u

theorem Slot.keep {B : Nat} {w w' : World} {v : Value} {xs : List Value} (h : Slot B w v xs) (hb : ∀ g, v.ownBlock = some g → g < w.heap.size → w'.heap[g]? = w.heap[g]?) : Slot B w' v xs := by
  rcases h with h | ⟨g, off, cap, cur, rfl, hB, hg, r⟩
  · exact .inl h
  · exact .inr ⟨g, off, cap, cur, rfl, hB, (hb g rfl (Array.getElem?_eq_some_iff.1 hg).1).trans hg, r⟩
theorem Slot.lt {B : Nat} {w : World} {v : Value} {xs : List Value} (h : Slot B w v xs) : ∀ g, v.ownBlock = some g → B ≤ g ∧ ∃ cur, w.heap[g]? = some (.cells cur 24 (0, 0)) := by
  rcases h with ⟨rfl, -⟩ | ⟨g, off, cap, cur, rfl, hB, hg, -⟩
  · intro g h; simp [Value.ownBlock] at h
  · intro k h
    simp only [Value.ownBlock, Option.some.injEq] at h
    subst h
    exact ⟨hB, cur, hg⟩
theorem Slot.form {B : Nat} {w : World} {v : Value} {xs : List Value} (h : Slot B w v xs) : ∃ ao cap, v = .slice ao xs.length cap ∧ xs.length ≤ cap ∧ cap ≤ maxLen := by
  rcases h with ⟨rfl, rfl⟩ | ⟨g, off, cap, cur, rfl, hB, hg, hc, hm, -⟩
  · exact ⟨none, 0, rfl, Nat.le_refl _, by unfold maxLen; omega⟩
  · exact ⟨_, cap, rfl, hc, hm⟩
theorem Slot.cell {B : Nat} {w : World} {ao : Option Addr} {n cap : Nat} {xs : List Value} (h : Slot B w (.slice ao n cap) xs) {j : Nat} {u : Value} (hj : xs[j]? = some u) : ∃ g off, ao = some ⟨g, off, none⟩ ∧ w.cell? ⟨g, off + j, none⟩ = some u := by
  rcases h with ⟨-, rfl⟩ | ⟨g, off, cap', cur, e, hB, hg, hc, hm, hs, hx⟩
  · simp at hj
  · simp only [Value.slice.injEq] at e
    refine ⟨g, off, e.1, ?_⟩
    rw [cell_of_row w g (off + j) cur 24 (0, 0) hg]
    exact hx j u hj

theorem Slot.of_own {B : Nat} {w : World} {v : Value} {n : Nat} {xs : List Value} (h : w.ownsRow B 24 1 v n xs) : Slot B w v xs := by
  obtain ⟨hl, h⟩ := h
  have hn : xs.length = n := by omega
  rcases h with ⟨rfl, rfl⟩ | ⟨g, cap, cur, rfl, hB, hg, hc, hm, hs, ht⟩
  · exact .inl ⟨rfl, List.eq_nil_of_length_eq_zero hn⟩
  · refine .inr ⟨g, 0, cap, cur, by rw [hn], hB, hg, by omega, hm, by omega, fun j u hj => ?_⟩
    rw [← ht, List.getElem?_take] at hj
    split at hj
    · rw [Nat.zero_add, ← Array.getElem?_toList]; exact hj
    · cases hj

theorem set_row {w : World} {g j : Nat} {cur : Array Value} {T : TypeId} {u : Value} (h : w.heap[g]? = some (.cells cur T (0, 0))) : (w.setCell ⟨g, j, none⟩ u).heap[g]? = some (.cells (cur.setIfInBounds j u) T (0, 0)) := by
  simp only [World.setCell, Array.getElem?_modify, if_pos, h, Option.map_some]
  try simp

theorem own_wk {w : World} {B B' n : Nat} {T : TypeId} {v : Value} {xs : List Value} (h : w.ownsRow B T 1 v n xs) (hB : B' ≤ B) : w.ownsRow B' T 1 v n xs := by
  refine ⟨h.1, ?_⟩
  rcases h.2 with x | ⟨g, cap, cur, e, hb, r⟩
  · exact .inl x
  · exact .inr ⟨g, cap, cur, e, by omega, r⟩

theorem run_append_slot (w : World) (ty : TypeId) (B : Nat) (v x : Value) (xs : List Value) (ad : Addr) (c : Nat) (h : Slot B w v xs) (hx : w.cell? ad = some x) (h1 : x.oneCell' = true) (hlen : xs.length ≤ 1000000) (hB : B ≤ w.heap.size) :
    ∃ v' w', (Builtin.append_ #[43, 43] ty #[v, .slice (some ad) 1 c]).run Try.prog w = .ok v' w' ∧ Slot B w' v' (xs ++ [x]) ∧ w.grownBy w' v.ownBlock ∧ (v'.ownBlock = v.ownBlock ∨ ∀ g, v'.ownBlock = some g → w.heap.size ≤ g) := by
  obtain ⟨i0, hi, hz0, hz1, hz2⟩ := info_parts Try.infoB22
  have hn1 : ∀ j u, [x][j]? = some u → w.cell? (ad.add j) = some u := by
    intro j u hj
    match j, hj with
    | 0, hj =>
      simp at hj
      subst hj
      have e : ad.add 0 = ad := by obtain ⟨b, o, s⟩ := ad; unfold Addr.add; simp
      rw [e]; exact hx
  have ho1 : ∀ u ∈ [x], u.oneCell' = true := by intro u hu; simp at hu; subst hu; exact h1
  rcases h with ⟨rfl, rfl⟩ | ⟨g, off, cap, cur, rfl, hBg, hg, hc, hm, hs, hxs⟩
  · obtain ⟨v', w', hr, ho, hgr, -, hat⟩ := run_append_own_at (P := Try.prog) w B 43 ty 24 i0 (.slice none 0 0) 1 24 Try.underlying43 hi hz0 hz1 hz2 rfl (by decide) _ 0 [] (World.ownsRow_nil w B 24 1) ad 1 c [x] rfl hn1 ho1 (by unfold maxLen; omega) (by omega) hB
    exact ⟨v', w', hr, Slot.of_own ho, hgr, hat.imp id (fun e g hg => by rw [e] at hg; cases hg; exact Nat.le_refl _)⟩
  · by_cases hroom : xs.length + 1 ≤ cap
    · have hcur : off + xs.length < cur.size := by omega
      have hr := run_append_room_cells (P := Try.prog) w 43 ty 24 i0 Try.underlying43 hi g off xs.length cap ad 1 c [x] (by rw [hz1]; rfl) hn1 ho1 hroom
        (fun j hj => by
          simp at hj; subst hj
          rw [hz1, cell_of_row w g _ cur 24 (0, 0) hg]
          simp [hcur]) (fun j hj => frozen_row hg _)
      rw [hz1, Nat.mul_one] at hr
      refine ⟨_, _, hr, .inr ⟨g, off, cap, _, by simp, hBg, set_row hg, by simpa using hroom, hm, by simpa using hs, fun j u hj => ?_⟩, ⟨rfl, rfl, rfl, by simp [World.setCells, World.setCell], fun k _ hk => ?_⟩, .inl rfl⟩
      · by_cases hj2 : j < xs.length
        · rw [List.getElem?_append_left hj2] at hj
          rw [Array.getElem?_setIfInBounds, if_neg (by omega)]
          exact hxs j u hj
        · rw [List.getElem?_append_right (by omega)] at hj
          have hj3 : j = xs.length := by have := (List.getElem?_eq_some_iff.1 hj).1; simp at this; omega
          subst hj3
          simp at hj
          subst hj
          rw [Array.getElem?_setIfInBounds, if_pos rfl, if_pos hcur]
      · exact Below.heap_setCell _ _ _ _ (fun e => hk (by simp [Value.ownBlock, e]))
    · obtain ⟨v', w', hr, ho, hgr⟩ := run_append_arg_grows (P := Try.prog) w 43 ty 24 i0 (.slice none 0 0) 1 24 Try.underlying43 hi hz0 hz1 hz2 rfl (by decide) ⟨g, off, none⟩ xs.length cap xs (by omega)
        (fun j u hj => by
          rw [Addr.add_lit, cell_of_row w g (off + j) cur 24 (0, 0) hg]
          exact hxs j u hj) ad 1 c [x] rfl hn1 (by omega) (by unfold maxLen; omega) (by omega)
      have hgr' : w.grownBy w' (Value.ownBlock (.slice (some ⟨g, off, none⟩) xs.length cap)) := ⟨hgr.os, hgr.tape, hgr.output, hgr.size, fun k hk _ => hgr.block k hk (by simp)⟩
      exact ⟨v', w', hr, Slot.of_own (own_wk ho hB), hgr', .inr fun g hg => (ho.lt g hg).1⟩

theorem wpList_append_slot {w : World} {ops : Array Oper} {rest : List Oper} {o : Oper} {a : Act} {Q : Exit → Act → World → Prop} (hgd : o.guard = none) (s x : Operand)
    (ho : o.op = .call { callee := .builtin .append, args := #[s, x], argTypes := #[43, 43] })
    (B : Nat) (v u : Value) (xs : List Value) (ad : Addr) (c : Nat) (hs : a.eval s = v) (hsl : Slot B w v xs) (hx : a.eval x = .slice (some ad) 1 c) (hu : w.cell? ad = some u) (h1 : u.oneCell' = true)
    (hlen : xs.length ≤ 1000000) (hB : B ≤ w.heap.size)
    (h : ∀ v' w', Slot B w' v' (xs ++ [u]) → w.grownBy w' v.ownBlock → (v'.ownBlock = v.ownBlock ∨ ∀ g, v'.ownBlock = some g → w.heap.size ≤ g) → wpList Try.prog ops Q rest (a.put o.dst v') w') :
    wpList Try.prog ops Q (o :: rest) a w := by
  refine wpList_plain hgd fun K hK => ?_
  obtain ⟨v', w', hr, h2, h3, h4⟩ := run_append_slot w o.type B v u xs ad c hsl hu h1 hlen hB
  unfold Oper.wp execOp
  simp only [ho, resolve, invoke, builtin, Sem.run_bind, Sem.run_pure, Result.andThen_ok, List.map_toArray, List.map_cons, List.map_nil, hs, hx, hr]
  exact hK _ _ (h v' w' h2 h3 h4)

theorem Slot.tail {B : Nat} {w : World} {v x : Value} {xs : List Value} (h : Slot B w v (x :: xs)) (hne : xs ≠ []) :
    ∃ v', (∀ wx, (Instr.slice 43 v (some (.int .i64 1)) none none).run Try.prog wx = .ok v' wx) ∧ Slot B w v' xs ∧ v'.ownBlock = v.ownBlock := by
  rcases h with ⟨-, h⟩ | ⟨g, off, cap, cur, rfl, hB, hg, hc, hm, hs, hx⟩
  · cases h
  · have hl : 0 < xs.length := List.length_pos_iff.2 hne
    have hcl : xs.length + 1 ≤ cap := by simpa using hc
    refine ⟨.slice (some ⟨g, off + 1, none⟩) xs.length (cap - 1), fun wx => ?_, .inr ⟨g, off + 1, cap - 1, cur, rfl, hB, hg, by omega, by omega, by omega, fun j u hj => ?_⟩, rfl⟩
    · rw [run_slice_l wx 43 _ _ cap (by kernel_rfl) .i64 1 (by decide) (by simp only [List.length_cons]; omega)]
      rw [show Try.prog.elem 43 = 24 by kernel_rfl, Try.sizeOf24]
      simp only [Result.andThen, sliced]
      rw [if_neg (show ¬ cap = (1 : Int).toNat by simp; omega)]
      simp [Addr.add]
    · have := hx (j + 1) u (by simpa using hj)
      rwa [show off + (j + 1) = off + 1 + j by omega] at this
end Go.Proofs.Ytccbgdbipihoaaa.BK
