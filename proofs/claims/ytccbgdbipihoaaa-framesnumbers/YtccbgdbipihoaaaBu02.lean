/- Texts QDDL QPC QBase QEnc QDecA QDecB QDecC QKnown QWr QWrN QWrB QPV QCA QCM QCR QCS QCT QCU QCV. -/
import Derived.Test.YtccbgdbipihoaaaBu01
import Derived.Lib.OthersKept
import Derived.Deep.LoopGhost
import Derived.Deep.QuietTactic
import Derived.BigQuiet
import Derived.Test.YtccbgdbipihoaaaProg
import Derived.WalkKit
import Derived.WalkSpells
import Derived.WalkLawsBesides
import Derived.Maps.AppendAt
import Derived.Deep.AppendLies
import Derived.Lib.ValidU
import Derived.Lib.DecodeN
import Derived.Laws.BytesArg
import Derived.Deep.RegionHeld3
import Derived.Deep.RegionLaw
import Derived.Deep.DrawnRows
import Derived.Handy
namespace Go.Proofs.Ytccbgdbipihoaaa.Q.D
open Go.RowKit
theorem Try.info9 : (Try.prog.info? 9).map (fun i => (i.zero, i.size, i.bytes)) = some (some (.string ⟨#[]⟩), 1, 16) := by kernel_rfl
def scells (ps : List Bs) : List Value := ps.map fun p => Value.string (str p)
theorem scells_snoc (ps : List Bs) (p : Bs) : scells (ps ++ [p]) = scells ps ++ [Value.string (str p)] := by simp [scells]
theorem own_slice {w : World} {B n e : Nat} {v : Value} {xs : List Value} (h : w.ownsRow B e 1 v n xs) : ∃ ao cap, v = .slice ao n cap := by
  rcases h.2 with ⟨rfl, rfl⟩ | ⟨g, cap, cur, rfl, _⟩
  · exact ⟨_, _, rfl⟩
  · exact ⟨_, _, rfl⟩
def sliceLen : Value → Nat
  | .slice _ n _ => n
  | _ => 0

structure Took (l : Bs) (ps : List Bs) (S : ByteArray) : Prop where
  eq : l = ps.flatten ++ S.data.toList
  fld : ∀ p ∈ ps, Fld p
theorem Took.more {l : Bs} {ps : List Bs} {S : ByteArray} (h : Took l ps S) (h0 : flen S.data.toList ≠ 0) :
    Took l (ps ++ [S.data.toList.take (flen S.data.toList)]) (S.extract (flen S.data.toList) S.size) := by
  refine ⟨?_, ?_⟩
  · rw [h.eq, ext_data]; simp
  · intro p hp
    rcases List.mem_append.1 hp with hp | hp
    · exact h.fld p hp
    · simp at hp; subst hp; exact flen_take h0

set_option maxRecDepth 8000 in
set_option maxHeartbeats 4000000 in
theorem lead_any (s : ByteArray) (w : World) (hs : s.size ≤ 9223372036854775807) :
    Calls Try.prog 30 #[.string s] w fun e w' => Below w.heap.size w w' ∧
      ∃ v, e = .returned (.tuple #[v, .string (str (lead 8 s.data.toList).2)]) ∧ w'.ownsRow w.heap.size 9 1 v (lead 8 s.data.toList).1.length (scells (lead 8 s.data.toList).1) := by
  obtain ⟨i0, hi, hz0, hz1, hz2⟩ := info_parts Try.info9
  go_enter Try.func30, Try.ntmps30
  go_wp2
  go_loopw [0, 4] (fun sv fv wr => ∃ (ps : List Bs) (S : ByteArray), sv = .string S ∧ wr.ownsRow w.heap.size 9 1 fv ps.length (scells ps) ∧ Below w.heap.size w wr ∧ ps.length ≤ 8 ∧ S.size ≤ 9223372036854775807 ∧ Took s.data.toList ps S) (fun _ fv _ => 8 - sliceLen fv)
  case atStart =>
    exact ⟨[], s, rfl, ⟨rfl, .inl ⟨rfl, rfl⟩⟩, Below.refl _ _, by simp, hs, ⟨rfl, by simp⟩⟩
  case round =>
    obtain ⟨ps, S, rfl, hown, hbw, hp8, hS, htk⟩ := hrel
    have hsz := hbw.size
    have HT := hidIt htk
    clear htk
    obtain ⟨ao, cap, rfl⟩ := own_slice hown
    by_cases h8 : ps.length < 8
    · have h8' : (ps.length : Int) < 8 := by omega
      have hN := hidIt (fl_any S wr hS)
      have hle := flen_le S.data.toList
      rw [← size_len] at hle
      by_cases h0 : flen S.data.toList = 0
      · have HF := hidIt h0
        rw [h0] at hN
        clear h0 hle
        go_wp2_with fail
        refine hN.out.mono ?_
        rintro e w' ⟨rfl, hww⟩; cases hww
        go_wp2
        go_ret2
        refine ⟨hbw, ?_⟩
        have e : lead 8 s.data.toList = (ps, S.data.toList) := by rw [HT.out.eq]; exact lead_char 8 ps _ HT.out.fld hp8 (.inr HF.out)
        rw [e]
        exact ⟨_, by rw [str_data]; rfl, hown⟩
      · have HM := hidIt (HT.out.more h0)
        have e1 := ext_str S 0 (flen S.data.toList)
        rw [Nat.sub_zero, List.drop_zero] at e1
        generalize flen S.data.toList = K at *
        have hK0 : ((K : Int) == 0) = false := by simp; omega
        obtain ⟨hK1, hK2⟩ := hle
        go_wp2_with fail
        refine hN.out.mono ?_
        rintro e w' ⟨rfl, hww⟩; cases hww
        go_wp2_with (at_builtin; refine wpList_append_own_at _ rfl _ _ 24 rfl w.heap.size 9 i0 (.string ⟨#[]⟩) 1 16 Try.underlying24 hi hz0 hz1 hz2 rfl (by decide) _ _ _ rfl (hown.alloc _) _ 1 1 [.string (str (List.take K S.data.toList))] rfl rfl ?c1 ?c2 ?c3 ?c4 ?c5 ?_)
        case c1 =>
          intro j u hj
          match j, hj with
          | 0, hj => simp at hj; subst hj; simp [Addr.add]
          | (j + 1), hj => simp at hj
        case c2 => intro u hu; simp at hu; rcases hu with rfl; rfl
        case c3 => unfold maxLen; omega
        case c4 => omega
        case c5 => simp; omega
        intro v' w2 hown' hgrow _ hat
        go_wp2
        obtain ⟨ao', cap', rfl⟩ := own_slice hown'
        refine ⟨⟨ps ++ [List.take K S.data.toList], _, rfl, ?_, ?_, ?_, ?_, HM.out⟩, ?_⟩
        · rw [scells_snoc, List.length_append]; exact hown'
        · exact (hbw.alloc hsz _).grown hgrow (by simp; omega) (fun k hk => (hown.lt k hk).1)
        · simp; omega
        · rw [size_len, ext_data, List.length_drop, ← size_len]; omega
        · simp only [sliceLen]; omega
    · have h8' : ¬ (ps.length : Int) < 8 := by omega
      go_wp2
      go_ret2
      refine ⟨hbw, ?_⟩
      have e : lead 8 s.data.toList = (ps, S.data.toList) := by rw [HT.out.eq]; exact lead_char 8 ps _ HT.out.fld hp8 (.inl (by omega))
      rw [e]
      exact ⟨_, by rw [str_data]; rfl, hown⟩

theorem hp_nil (d : UInt8) : Lib.hasPrefix [] [d] = false := rfl
theorem hp_cons (c d : UInt8) (t : Bs) : Lib.hasPrefix (c :: t) [d] = (d == c) := by simp [Lib.hasPrefix, List.isPrefixOf]
theorem hp_yes (d : UInt8) (t : Bs) : Lib.hasPrefix (d :: t) [d] = true := by rw [hp_cons]; simp
theorem hp_no {c d : UInt8} (t : Bs) (h : c ≠ d) : Lib.hasPrefix (c :: t) [d] = false := by rw [hp_cons]; simpa using fun e => h e.symm
theorem tp_yes (d : UInt8) (t : Bs) : Lib.trimPrefix (d :: t) [d] = t := by unfold Lib.trimPrefix; rw [hp_yes, if_pos rfl]; rfl
theorem lead_le (m : Nat) (l : Bs) : (lead m l).2.length ≤ l.length := by
  have h := (lead_inv m l).2.2.1
  have := congrArg List.length h
  rw [List.length_append] at this; omega

def MethAns (l : Bs) (B : Nat) (e : Ending) (w' : World) : Prop :=
  (∃ ps r v, meth l = some (ps, r) ∧ e = .returned (.tuple #[v, .string (str r), .bool true]) ∧ w'.ownsRow B 9 1 v ps.length (scells ps)) ∨
  (meth l = none ∧ e = .returned (.tuple #[.slice none 0 0, .string ⟨#[]⟩, .bool false]))

set_option maxRecDepth 8000 in
set_option maxHeartbeats 4000000 in
theorem method_bad (s : ByteArray) (w : World) (h : Lib.hasPrefix s.data.toList [40] = false) :
    Calls Try.prog 19 #[.string s] w fun e w' => e = .returned (.tuple #[.slice none 0 0, .string ⟨#[]⟩, .bool false]) ∧ w' = w := by
  have hH := hidIt (Try.strings_HasPrefix s ⟨#[40]⟩ w)
  rw [show (ByteArray.mk #[40]).data.toList = [40] from rfl, h] at hH
  clear h
  go_enter Try.func19, Try.ntmps19
  go_wp2_with fail
  refine hH.out.mono ?_
  rintro e w' ⟨rfl, hww⟩; cases hww
  go_wp2
  go_ret3
  exact ⟨rfl, rfl⟩

set_option maxRecDepth 8000 in
set_option maxHeartbeats 4000000 in
theorem method_open (s : ByteArray) (w : World) (t : Bs) (hs : s.size ≤ 9223372036854775807) (h : s.data.toList = 40 :: t) :
    Calls Try.prog 19 #[.string s] w fun e w' => Below w.heap.size w w' ∧ MethAns s.data.toList w.heap.size e w' := by
  have hH := hidIt (Try.strings_HasPrefix s ⟨#[40]⟩ w)
  rw [show (ByteArray.mk #[40]).data.toList = [40] from rfl, h, hp_yes] at hH
  have hsz : 1 ≤ s.size := by rw [size_len, h]; simp
  have he := ext_end s 1
  rw [h, show List.drop 1 (40 :: t) = t from rfl] at he
  have hL := hidIt (lead_any (str t) w (by rw [str_size]; rw [size_len, h] at hs; simp at hs; omega))
  rw [data_str] at hL
  have HM : Hid (meth s.data.toList = (match (lead 8 t).2 with
       | [] => none
       | d :: r => if d = 41 then (if r = [86] ∨ (0 < flen r ∧ flen r = r.length) then some ((lead 8 t).1, r) else none) else none)) := by
    show _ = _
    rw [h]; unfold meth; simp only; rw [if_pos trivial]; rfl
  have hR := lead_le 8 t
  have ht : t.length ≤ 9223372036854775807 := by rw [size_len, h] at hs; simp at hs; omega
  generalize (lead 8 t).2 = R at *
  generalize (lead 8 t).1 = ps at *
  generalize hl : s.data.toList = l at *
  clear hl h
  generalize str t = T at *
  have hshort : ∀ (P : Prop), P → P := fun _ h => h
  cases R with
  | nil =>
    have FIN := hidIt HM.out
    simp only at FIN
    go_enter Try.func19, Try.ntmps19
    go_wp2_with fail
    refine hH.out.mono ?_
    rintro e w' ⟨rfl, hww⟩; cases hww
    go_wp2_with fail
    refine hL.out.mono ?_
    rintro e w1 ⟨hb, v, rfl, hown⟩
    go_wp2_with fail
    refine (Try.strings_CutPrefix _ _ _).mono ?_
    rw [data_str, show (ByteArray.mk #[41]).data.toList = [41] from rfl, hp_nil]
    rintro e w' ⟨rfl, hww⟩; cases hww
    go_wp2
    go_ret3
    exact ⟨hb, .inr ⟨FIN.out, rfl⟩⟩
  | cons d r =>
    by_cases hd : d = 41
    · subst hd
      have hF := fun w => hidIt (field_any (str r) w (by rw [str_size]; simp at hR; omega))
      rw [data_str] at hF
      by_cases hV : r = [86]
      · subst hV
        have FIN : Hid (meth l = some (ps, [86])) := by
          show _ = _
          rw [HM.out]; simp only; rw [if_pos trivial, if_pos (.inl trivial)]
        go_enter Try.func19, Try.ntmps19
        go_wp2_with fail
        refine hH.out.mono ?_
        rintro e w' ⟨rfl, hww⟩; cases hww
        go_wp2_with fail
        refine hL.out.mono ?_
        rintro e w1 ⟨hb, v, rfl, hown⟩
        go_wp2_with fail
        refine (Try.strings_CutPrefix _ _ _).mono ?_
        rw [data_str, show (ByteArray.mk #[41]).data.toList = [41] from rfl, hp_yes, tp_yes]
        rintro e w' ⟨rfl, hww⟩; cases hww
        go_wp2
        go_ret3
        exact ⟨hb, .inl ⟨_, _, _, FIN.out, rfl, hown⟩⟩
      · have hne : (str r).toList ≠ [86] := by rw [Lib.toList_data]; exact hV
        have hne' : ((str r).toList == [86]) = false := by simpa using hne
        have hne2 : ((str r).toList != [86]) = true := by simpa using hne
        by_cases hf : fieldB r = true
        · have FIN : Hid (meth l = some (ps, r)) := by
            show _ = _
            rw [HM.out]; simp only; rw [if_pos trivial, if_pos (.inr (of_decide_eq_true hf))]
          rw [hf] at hF
          clear hf hne
          go_enter Try.func19, Try.ntmps19
          go_wp2_with fail
          refine hH.out.mono ?_
          rintro e w' ⟨rfl, hww⟩; cases hww
          go_wp2_with fail
          refine hL.out.mono ?_
          rintro e w1 ⟨hb, v, rfl, hown⟩
          go_wp2_with fail
          refine (Try.strings_CutPrefix _ _ _).mono ?_
          rw [data_str, show (ByteArray.mk #[41]).data.toList = [41] from rfl, hp_yes, tp_yes]
          rintro e w' ⟨rfl, hww⟩; cases hww
          rw [show (ByteArray.mk r.toArray) = str r from rfl]
          go_wp2_with fail
          refine (hF _).out.mono ?_
          rintro e w' ⟨rfl, hww⟩; cases hww
          go_wp2
          go_ret3
          exact ⟨hb, .inl ⟨_, _, _, FIN.out, rfl, hown⟩⟩
        · have FIN : Hid (meth l = none) := by
            show _ = _
            rw [HM.out]; simp only; rw [if_pos trivial, if_neg]
            rintro (h | h)
            · exact hV h
            · exact hf (decide_eq_true h)
          simp only [Bool.not_eq_true] at hf
          rw [hf] at hF
          clear hf hne
          go_enter Try.func19, Try.ntmps19
          go_wp2_with fail
          refine hH.out.mono ?_
          rintro e w' ⟨rfl, hww⟩; cases hww
          go_wp2_with fail
          refine hL.out.mono ?_
          rintro e w1 ⟨hb, v, rfl, hown⟩
          go_wp2_with fail
          refine (Try.strings_CutPrefix _ _ _).mono ?_
          rw [data_str, show (ByteArray.mk #[41]).data.toList = [41] from rfl, hp_yes, tp_yes]
          rintro e w' ⟨rfl, hww⟩; cases hww
          rw [show (ByteArray.mk r.toArray) = str r from rfl]
          go_wp2_with fail
          refine (hF _).out.mono ?_
          rintro e w' ⟨rfl, hww⟩; cases hww
          go_wp2
          go_ret3
          exact ⟨hb, .inr ⟨FIN.out, rfl⟩⟩
    · have FIN : Hid (meth l = none) := by
        show _ = _
        rw [HM.out]; simp only; rw [if_neg hd]
      go_enter Try.func19, Try.ntmps19
      go_wp2_with fail
      refine hH.out.mono ?_
      rintro e w' ⟨rfl, hww⟩; cases hww
      go_wp2_with fail
      refine hL.out.mono ?_
      rintro e w1 ⟨hb, v, rfl, hown⟩
      go_wp2_with fail
      refine (Try.strings_CutPrefix _ _ _).mono ?_
      rw [data_str, show (ByteArray.mk #[41]).data.toList = [41] from rfl, hp_no _ hd]
      rintro e w' ⟨rfl, hww⟩; cases hww
      go_wp2
      go_ret3
      exact ⟨hb, .inr ⟨FIN.out, rfl⟩⟩

theorem method_any (s : ByteArray) (w : World) (hs : s.size ≤ 9223372036854775807) :
    Calls Try.prog 19 #[.string s] w fun e w' => Below w.heap.size w w' ∧ MethAns s.data.toList w.heap.size e w' := by
  have no : meth s.data.toList = none → Lib.hasPrefix s.data.toList [40] = false → Calls Try.prog 19 #[.string s] w fun e w' => Below w.heap.size w w' ∧ MethAns s.data.toList w.heap.size e w' :=
    fun h1 h2 => (method_bad s w h2).mono fun e w' ⟨he, hw⟩ => by cases hw; exact ⟨Below.refl _ _, .inr ⟨h1, he⟩⟩
  match h : s.data.toList with
  | [] => rw [h] at no; exact no rfl rfl
  | c :: t =>
    by_cases hc : c = 40
    · subst hc; rw [← h]; exact method_open s w t hs h
    · rw [h] at no
      exact no (by unfold meth; simp only; rw [if_neg hc]) (hp_no t hc)
end Go.Proofs.Ytccbgdbipihoaaa.Q.D
namespace Go.Proofs.Ytccbgdbipihoaaa.Q
open Go.RowKit D
structure CD where
  kind : Int
  n : Int
  cls : ByteArray
  nm : ByteArray
  dsc : ByteArray
def CD.cells (c : CD) : List Value := [.int .i64 c.kind, .int .i32 c.n, .string c.cls, .string c.nm, .string c.dsc]
def CD.val (c : CD) : Value := .agg #[.int .i64 c.kind, .int .i32 c.n, .string c.cls, .string c.nm, .string c.dsc]
structure CD.Fits (c : CD) : Prop where
  c3 : c.cls.size ≤ 9223372036854775807
  c4 : c.nm.size ≤ 9223372036854775807
  c5 : c.dsc.size ≤ 9223372036854775807






end Go.Proofs.Ytccbgdbipihoaaa.Q
namespace Go.Proofs.Ytccbgdbipihoaaa.Q
open Go.RowKit
def Moved (H : Nat) (v v' : Value) : Prop := v'.ownBlock = v.ownBlock ∨ ∃ g, v'.ownBlock = some g ∧ H ≤ g

structure Step (v : Value) (w : World) (v' : Value) (w' : World) : Prop where
  grown : w.grownBy w' v.ownBlock
  moved : Moved w.heap.size v v'

theorem Step.refl (v : Value) (w : World) : Step v w v w := ⟨⟨rfl, rfl, rfl, Nat.le_refl _, fun _ _ _ => rfl⟩, .inl rfl⟩

theorem Step.trans {v v1 v2 : Value} {w w1 w2 : World} (h : Step v w v1 w1) (k : Step v1 w1 v2 w2) : Step v w v2 w2 := by
  refine ⟨⟨k.grown.os.trans h.grown.os, k.grown.tape.trans h.grown.tape, k.grown.output.trans h.grown.output, Nat.le_trans h.grown.size k.grown.size, ?_⟩, ?_⟩
  · intro i hi hne
    have h1 := h.grown.block i hi hne
    have hlt : i < w1.heap.size := Nat.lt_of_lt_of_le hi h.grown.size
    rw [k.grown.block i hlt ?_, h1]
    rcases h.moved with e | ⟨g, e, hg⟩
    · rw [e]; exact hne
    · rw [e]; intro e2; cases e2; omega
  · rcases k.moved with e | ⟨g, e, hg⟩
    · rcases h.moved with e1 | ⟨g1, e1, hg1⟩
      · exact .inl (e.trans e1)
      · exact .inr ⟨g1, e.trans e1, hg1⟩
    · exact .inr ⟨g, e, Nat.le_trans h.grown.size hg⟩





theorem Step.below {v v' : Value} {w w' : World} (h : Step v w v' w') {B : Nat} (hB : B ≤ w.heap.size) (hv : ∀ k, v.ownBlock = some k → B ≤ k) : Below B w w' :=
  (Below.refl _ _).grown h.grown hB hv


theorem ret_int {k : IntKind} {a b : Int} (h : a = b) : Ending.returned (.int k a) = .returned (.int k b) := by rw [h]


def bcells (l : List Int) : List Value := l.map (Value.int .u8)
theorem hidIt {p : Prop} (h : p) : Hid p := h

end Go.Proofs.Ytccbgdbipihoaaa.Q
namespace Go.Proofs.Ytccbgdbipihoaaa.Q
open Go.RowKit



end Go.Proofs.Ytccbgdbipihoaaa.Q
namespace Go.Proofs.Ytccbgdbipihoaaa.Q
open Go.RowKit

end Go.Proofs.Ytccbgdbipihoaaa.Q
namespace Go.Proofs.Ytccbgdbipihoaaa.Q
open Go.RowKit
def Lies (w : World) (g off : Nat) (l : List Int) : Prop := ∀ j x, l[j]? = some x → w.cell? ⟨g, off + j, none⟩ = some (.int .u8 x)
def AllBytes (l : List Int) : Prop := ∀ x ∈ l, 0 ≤ x ∧ x ≤ 255
def View (w : World) (v : Value) (l : List Int) : Prop :=
  ∃ ao cap, v = .slice ao l.length cap ∧ l.length ≤ cap ∧ cap ≤ maxLen ∧ AllBytes l ∧ (l = [] ∨ ∃ g off, ao = some ⟨g, off, none⟩ ∧ Lies w g off l)





theorem View.drewN {w : World} {v : Value} {l : List Int} (h : View w v l) (q : Nat) : View (w.drewN q) v l := h


end Go.Proofs.Ytccbgdbipihoaaa.Q
namespace Go.Proofs.Ytccbgdbipihoaaa.Q
open Go.RowKit

def lenOf : Value → Nat
  | .slice _ n _ => n
  | _ => 0

theorem View.below {w wr : World} {v : Value} {l : List Int} (h : View w v l) (hb : Below w.heap.size w wr) : View wr v l := by
  obtain ⟨ao, cap, rfl, hc, hm, hy, hl⟩ := h
  refine ⟨ao, cap, rfl, hc, hm, hy, ?_⟩
  rcases hl with h | ⟨g, off, e, hl⟩
  · exact .inl h
  · exact .inr ⟨g, off, e, fun j x hj => cell_later hb (hl j x hj)⟩


end Go.Proofs.Ytccbgdbipihoaaa.Q
namespace Go.Proofs.Ytccbgdbipihoaaa.Q
open Go.RowKit
theorem View.laid (w : World) (l : List Int) (hb : AllBytes l) (hm : l.length ≤ maxLen) : View (w.alloc (.cells (bcells l).toArray 5)) (.slice (some ⟨w.heap.size, 0, none⟩) l.length l.length) l := by
  refine ⟨_, _, rfl, Nat.le_refl _, hm, hb, .inr ⟨_, _, rfl, fun j x hj => ?_⟩⟩
  have h := cell_of_row (w.alloc (.cells (bcells l).toArray 5)) w.heap.size (0 + j) (bcells l).toArray 5 (0, 0) (heap_alloc_new w _)
  rw [h]
  simp [bcells, hj]


end Go.Proofs.Ytccbgdbipihoaaa.Q
namespace Go.Proofs.Ytccbgdbipihoaaa.Q
open Go.RowKit



structure WStep (pw : Nat) (v : Value) (w : World) (v' : Value) (w' : World) : Prop where
  os : w'.os = w.os
  tape : w'.tape = w.tape
  output : w'.output = w.output
  size : w.heap.size ≤ w'.heap.size
  block : ∀ k, k < w.heap.size → k ≠ pw → some k ≠ v.ownBlock → w'.heap[k]? = w.heap[k]?
  moved : Moved w.heap.size v v'

theorem WStep.refl (pw : Nat) (v : Value) (w : World) : WStep pw v w v w := ⟨rfl, rfl, rfl, Nat.le_refl _, fun _ _ _ _ => rfl, .inl rfl⟩
theorem WStep.trans {pw : Nat} {v v1 v2 : Value} {w w1 w2 : World} (h : WStep pw v w v1 w1) (k : WStep pw v1 w1 v2 w2) : WStep pw v w v2 w2 := by
  refine ⟨k.os.trans h.os, k.tape.trans h.tape, k.output.trans h.output, Nat.le_trans h.size k.size, ?_, ?_⟩
  · intro i hi hp hne
    have h1 := h.block i hi hp hne
    rw [k.block i (Nat.lt_of_lt_of_le hi h.size) hp ?_, h1]
    rcases h.moved with e | ⟨g, e, hg⟩
    · rw [e]; exact hne
    · rw [e]; intro e2; cases e2; omega
  · rcases k.moved with e | ⟨g, e, hg⟩
    · rcases h.moved with e1 | ⟨g1, e1, hg1⟩
      · exact .inl (e.trans e1)
      · exact .inr ⟨g1, e.trans e1, hg1⟩
    · exact .inr ⟨g, e, Nat.le_trans h.size hg⟩


end Go.Proofs.Ytccbgdbipihoaaa.Q
namespace Go.Proofs.Ytccbgdbipihoaaa.Q
open Go.RowKit
attribute [local go_sem ↓] Go.wp_at_zero Go.wp_at_succ



end Go.Proofs.Ytccbgdbipihoaaa.Q
namespace Go.Proofs.Ytccbgdbipihoaaa.Q
open Go.RowKit


theorem own_slice {w : World} {B n : Nat} {v : Value} {xs : List Value} (h : w.ownsRow B 5 1 v n xs) : ∃ ao cap, v = .slice ao n cap := by
  rcases h.2 with ⟨rfl, rfl⟩ | ⟨g, cap, cur, rfl, _⟩
  · exact ⟨_, _, rfl⟩
  · exact ⟨_, _, rfl⟩

theorem AllBytes.append {a b : List Int} (ha : AllBytes a) (hb : AllBytes b) : AllBytes (a ++ b) := fun x hx => by
  rcases List.mem_append.1 hx with h | h
  · exact ha x h
  · exact hb x h
theorem AllBytes.nil : AllBytes [] := fun x hx => by simp at hx

end Go.Proofs.Ytccbgdbipihoaaa.Q
namespace Go.Proofs.Ytccbgdbipihoaaa.Q
open Go.RowKit

structure CD.Ok (c : CD) : Prop extends c.Fits where
  nlo : -2147483648 ≤ c.n
  nhi : c.n ≤ 2147483647

structure CAt (w : World) (g o : Nat) (c : CD) : Prop where
  c0 : w.cell? ⟨g, o, none⟩ = some (.int .i64 c.kind)
  c1 : w.cell? ⟨g, o + 1, none⟩ = some (.int .i32 c.n)
  c2 : w.cell? ⟨g, o + 2, none⟩ = some (.string c.cls)
  c3 : w.cell? ⟨g, o + 3, none⟩ = some (.string c.nm)
  c4 : w.cell? ⟨g, o + 4, none⟩ = some (.string c.dsc)
theorem CAt.below {w wr : World} {g o : Nat} {c : CD} (h : CAt w g o c) (hb : Below w.heap.size w wr) : CAt wr g o c :=
  ⟨cell_later hb h.c0, cell_later hb h.c1, cell_later hb h.c2, cell_later hb h.c3, cell_later hb h.c4⟩
theorem CAt.block {w wr : World} {g o : Nat} {c : CD} (h : CAt w g o c) (hb : wr.heap[g]? = w.heap[g]?) : CAt wr g o c := by
  have k : ∀ o, wr.cell? ⟨g, o, none⟩ = w.cell? ⟨g, o, none⟩ := fun o => World.cell?_of_block (a := ⟨g, o, none⟩) hb
  exact ⟨(k _).trans h.c0, (k _).trans h.c1, (k _).trans h.c2, (k _).trans h.c3, (k _).trans h.c4⟩
def CLies (w : World) (g off : Nat) (l : List CD) : Prop := ∀ (i : Nat) c, l[i]? = some c → CAt w g (off + i * 5) c
def CView (w : World) (v : Value) (l : List CD) : Prop :=
  ∃ ao cap, v = .slice ao l.length cap ∧ l.length ≤ cap ∧ cap ≤ maxLen ∧ (∀ c ∈ l, c.Ok) ∧ (l = [] ∨ ∃ g off, ao = some ⟨g, off, none⟩ ∧ CLies w g off l)
theorem CView.below {w wr : World} {v : Value} {l : List CD} (h : CView w v l) (hb : Below w.heap.size w wr) : CView wr v l := by
  obtain ⟨ao, cap, rfl, hc, hm, hk, hl⟩ := h
  refine ⟨ao, cap, rfl, hc, hm, hk, ?_⟩
  rcases hl with h | ⟨g, off, e, hl⟩
  · exact .inl h
  · exact .inr ⟨g, off, e, fun i c hi => (hl i c hi).below hb⟩
theorem CView.drewN {w : World} {v : Value} {l : List CD} (h : CView w v l) (q : Nat) : CView (w.drewN q) v l := by
  obtain ⟨ao, cap, rfl, hc, hm, hk, hl⟩ := h
  refine ⟨ao, cap, rfl, hc, hm, hk, ?_⟩
  rcases hl with h | ⟨g, off, e, hl⟩
  · exact .inl h
  · exact .inr ⟨g, off, e, fun i c hi => (hl i c hi).block rfl⟩
theorem CView.ok {w : World} {v : Value} {l : List CD} (h : CView w v l) : ∀ c ∈ l, c.Ok := by obtain ⟨_, _, _, _, _, h, _⟩ := h; exact h
theorem CView.nil (w : World) : CView w (.slice none 0 0) [] := ⟨none, 0, rfl, Nat.le_refl _, by unfold maxLen; omega, by simp, .inl rfl⟩

def ccells (l : List CD) : List Value := l.flatMap CD.cells
theorem ccells_cons (c : CD) (l : List CD) : ccells (c :: l) = c.cells ++ ccells l := rfl
theorem ccells_len (l : List CD) : (ccells l).length = l.length * 5 := by
  induction l with
  | nil => rfl
  | cons c l ih => rw [ccells_cons, List.length_append, ih]; simp [CD.cells]; omega
theorem ccells_get : ∀ (l : List CD) (i : Nat) (c : CD), l[i]? = some c → ∀ j, j < 5 → (ccells l)[i * 5 + j]? = c.cells[j]? := by
  intro l
  induction l with
  | nil => intro i c h; simp at h
  | cons d l ih =>
    intro i c h j hj
    rw [ccells_cons]
    cases i with
    | zero =>
      simp at h; subst h
      rw [Nat.zero_mul, Nat.zero_add]
      exact List.getElem?_append_left (by simp [CD.cells]; omega)
    | succ i =>
      have hi : l[i]? = some c := by simpa using h
      rw [List.getElem?_append_right (by simp [CD.cells]; omega)]
      have e : (i + 1) * 5 + j - d.cells.length = i * 5 + j := by simp [CD.cells]; omega
      rw [e]
      exact ih i c hi j hj
theorem addr_add (g off j : Nat) : (⟨g, off, none⟩ : Addr).add j = ⟨g, off + j, none⟩ := by unfold Addr.add; split <;> simp_all
theorem CLies.cells {w : World} {g off : Nat} {l : List CD} (h : CLies w g off l) (j : Nat) (u : Value) (hj : (ccells l)[j]? = some u) : w.cell? ((⟨g, off, none⟩ : Addr).add j) = some u := by
  rw [addr_add]
  have hlt : j < l.length * 5 := by rw [← ccells_len]; exact (List.getElem?_eq_some_iff.1 hj).1
  have hi : j / 5 < l.length := by omega
  obtain ⟨c, hc⟩ : ∃ c, l[j / 5]? = some c := ⟨_, List.getElem?_eq_getElem hi⟩
  have e := ccells_get l (j / 5) c hc (j % 5) (by omega)
  rw [show j / 5 * 5 + j % 5 = j by omega, hj] at e
  have hA := h (j / 5) c hc
  have h5 : j % 5 < 5 := by omega
  have ej : off + j = off + j / 5 * 5 + j % 5 := by omega
  rw [ej]
  generalize j % 5 = r at *
  generalize off + j / 5 * 5 = o at *
  match r, h5, e with
  | 0, _, e => simp [CD.cells] at e; subst e; exact hA.c0
  | 1, _, e => simp [CD.cells] at e; subst e; exact hA.c1
  | 2, _, e => simp [CD.cells] at e; subst e; exact hA.c2
  | 3, _, e => simp [CD.cells] at e; subst e; exact hA.c3
  | 4, _, e => simp [CD.cells] at e; subst e; exact hA.c4










theorem below_drewN {B : Nat} {w W : World} (h : Below B w W) (q : Nat) : Below B w (W.drewN q) := ⟨h.os, h.tape, h.output, h.size, h.block⟩
end Go.Proofs.Ytccbgdbipihoaaa.Q
namespace Go.Proofs.Ytccbgdbipihoaaa.Q
open Go.RowKit
theorem balloc (w : World) (o : Obj) : Below w.heap.size w (w.alloc o) := (Below.refl _ _).alloc (Nat.le_refl _) o
theorem next {w w1 w2 : World} (h : Below w.heap.size w w1) (k : Below w1.heap.size w1 w2) : Below w.heap.size w w2 := h.trans (k.mono h.size)
def RowsAt (k : Nat) (w : World) (ao : Option Addr) (n : Nat) (rows : Nat → List Value) : Prop :=
  0 < n → ∃ b off, ao = some ⟨b, off, none⟩ ∧ b < w.heap.size ∧ ∀ j, j < n → ∀ i v, (rows j)[i]? = some v → w.cell? ⟨b, off + j * k + i, none⟩ = some v
theorem RowsAt.below {k n : Nat} {w w' : World} {ao : Option Addr} {rows : Nat → List Value} (h : RowsAt k w ao n rows) (hb : Below w.heap.size w w') : RowsAt k w' ao n rows := by
  intro hn
  obtain ⟨b, off, e, hlt, hc⟩ := h hn
  exact ⟨b, off, e, Nat.lt_of_lt_of_le hlt hb.size, fun j hj i v hv => by rw [hb.cell (p := ⟨b, off + j * k + i, none⟩) hlt]; exact hc j hj i v hv⟩
theorem RowsAt.take {k n m : Nat} {w : World} {ao : Option Addr} {rows : Nat → List Value} (h : RowsAt k w ao n rows) (hm : m ≤ n) : RowsAt k w ao m rows := by
  intro hn
  obtain ⟨b, off, e, hlt, hc⟩ := h (by omega)
  exact ⟨b, off, e, hlt, fun j hj => hc j (by omega)⟩

def Asks (g : Nat) (v : Value) (b : Bool) (w : World) : Prop :=
  ∀ W : World, Below w.heap.size w W → Calls Try.prog g #[v] W fun e w' => e = .returned (.bool b) ∧ Below W.heap.size W w'
theorem Asks.below {g : Nat} {v : Value} {b : Bool} {w w' : World} (h : Asks g v b w) (hb : Below w.heap.size w w') : Asks g v b w' :=
  fun W hW => h W (next hb hW)




end Go.Proofs.Ytccbgdbipihoaaa.Q
namespace Go.Proofs.Ytccbgdbipihoaaa.Q
open Go.RowKit D
structure FD where
  nm : ByteArray
  ds : ByteArray
  st : Bool
structure HD where
  fr : Int
  tO : Int
  aT : Int
  ty : ByteArray
structure RD where
  aT : Int
  loc : List ByteArray
  stk : List ByteArray
structure MD where
  nm : ByteArray
  ds : ByteArray
  st : Bool
  nat : Bool
  stk : Int
  loc : Int
  code : List Int
  hs : List HD
  rs : List RD
structure KD where
  nm : ByteArray
  sup : ByteArray
  pool : List CD
  fs : List FD
  ms : List MD

def LAt {α : Type} (k : Nat) (R : World → List Value → α → Prop) (w : World) (ao : Option Addr) (c : Nat) (l : List α) : Prop :=
  l.length ≤ c ∧ c ≤ maxLen ∧ ∃ rows, RowsAt k w ao l.length rows ∧ ∀ i x, l[i]? = some x → R w (rows i) x
theorem LAt.below {α : Type} {k : Nat} {R : World → List Value → α → Prop} {w w' : World} {ao : Option Addr} {c : Nat} {l : List α} (h : LAt k R w ao c l) (hb : Below w.heap.size w w') (hR : ∀ r x, R w r x → R w' r x) : LAt k R w' ao c l := by
  obtain ⟨h1, h2, rows, h3, h4⟩ := h
  exact ⟨h1, h2, rows, h3.below hb, fun i x hx => hR _ _ (h4 i x hx)⟩
theorem LAt.take {α : Type} {k : Nat} {R : World → List Value → α → Prop} {w : World} {ao : Option Addr} {c : Nat} {l : List α} (h : LAt k R w ao c l) (n : Nat) : LAt k R w ao c (l.take n) := by
  obtain ⟨h1, h2, rows, h3, h4⟩ := h
  have hn : (l.take n).length ≤ l.length := by rw [List.length_take]; omega
  exact ⟨by omega, h2, rows, h3.take hn, fun i x hx => h4 i x (by rw [List.getElem?_take] at hx; split at hx <;> simp_all)⟩
theorem LAt.nil {α : Type} (k : Nat) (R : World → List Value → α → Prop) (w : World) (ao : Option Addr) (c : Nat) (h : c ≤ maxLen) : LAt k R w ao c [] :=
  ⟨Nat.zero_le _, h, fun _ => [], fun hn => absurd hn (by simp), fun i x hx => by simp at hx⟩
theorem LAt.big {α : Type} {k : Nat} {R : World → List Value → α → Prop} {w : World} {ao : Option Addr} {c : Nat} {l : List α} (h : LAt k R w ao c l) : l.length ≤ 9223372036854775807 := by
  have h1 := h.1; have h2 := h.2.1; unfold maxLen at h2; omega

def TextR (_ : World) (r : List Value) (s : ByteArray) : Prop := r = [.string s] ∧ s.size ≤ 9223372036854775807
def ConstR (_ : World) (r : List Value) (c : CD) : Prop := r = c.cells ∧ c.Ok
def FieldR (_ : World) (r : List Value) (f : FD) : Prop := r = [.string f.nm, .string f.ds, .bool f.st] ∧ f.nm.size ≤ 9223372036854775807 ∧ f.ds.size ≤ 9223372036854775807
def HandR (_ : World) (r : List Value) (h : HD) : Prop := r = [.int .i64 h.fr, .int .i64 h.tO, .int .i64 h.aT, .string h.ty] ∧ h.ty.size ≤ 9223372036854775807
def FrameR (w : World) (r : List Value) (f : RD) : Prop :=
  ∃ o1 c1 o2 c2, r = [.int .i64 f.aT, .slice o1 f.loc.length c1, .slice o2 f.stk.length c2] ∧ LAt 1 TextR w o1 c1 f.loc ∧ LAt 1 TextR w o2 c2 f.stk
def MethR (w : World) (r : List Value) (m : MD) : Prop :=
  ∃ o1 c1 o2 c2 o3 c3, r = [.string m.nm, .string m.ds, .bool m.st, .bool m.nat, .int .i64 m.stk, .int .i64 m.loc, .slice o1 m.code.length c1, .slice o2 m.hs.length c2, .slice o3 m.rs.length c3] ∧
    m.nm.size ≤ 9223372036854775807 ∧ m.ds.size ≤ 9223372036854775807 ∧ View w (.slice o1 m.code.length c1) m.code ∧ LAt 4 HandR w o2 c2 m.hs ∧ LAt 3 FrameR w o3 c3 m.rs
def ClassV (w : World) (v : Value) (k : KD) : Prop :=
  ∃ o1 c1 o2 c2 o3 c3, v = .agg #[.string k.nm, .string k.sup, .slice o1 k.pool.length c1, .slice o2 k.fs.length c2, .slice o3 k.ms.length c3] ∧
    k.nm.size ≤ 9223372036854775807 ∧ k.sup.size ≤ 9223372036854775807 ∧ LAt 5 ConstR w o1 c1 k.pool ∧ LAt 3 FieldR w o2 c2 k.fs ∧ LAt 9 MethR w o3 c3 k.ms
theorem FrameR.below {w w' : World} (hb : Below w.heap.size w w') {r : List Value} {f : RD} (h : FrameR w r f) : FrameR w' r f := by
  obtain ⟨o1, c1, o2, c2, e, h1, h2⟩ := h
  exact ⟨o1, c1, o2, c2, e, h1.below hb (fun _ _ h => h), h2.below hb (fun _ _ h => h)⟩
theorem MethR.below {w w' : World} (hb : Below w.heap.size w w') {r : List Value} {m : MD} (h : MethR w r m) : MethR w' r m := by
  obtain ⟨o1, c1, o2, c2, o3, c3, e, s1, s2, h1, h2, h3⟩ := h
  exact ⟨o1, c1, o2, c2, o3, c3, e, s1, s2, h1.below hb, h2.below hb (fun _ _ h => h), h3.below hb (fun _ _ h => h.below hb)⟩
theorem ClassV.below {w w' : World} (hb : Below w.heap.size w w') {v : Value} {k : KD} (h : ClassV w v k) : ClassV w' v k := by
  obtain ⟨o1, c1, o2, c2, o3, c3, e, s1, s2, h1, h2, h3⟩ := h
  exact ⟨o1, c1, o2, c2, o3, c3, e, s1, s2, h1.below hb (fun _ _ h => h), h2.below hb (fun _ _ h => h), h3.below hb (fun _ _ h => h.below hb)⟩

/-! What Right says. -/

/-! Small functions. -/


end Go.Proofs.Ytccbgdbipihoaaa.Q
namespace Go.Proofs.Ytccbgdbipihoaaa.Q
open Go.RowKit D





end Go.Proofs.Ytccbgdbipihoaaa.Q
namespace Go.Proofs.Ytccbgdbipihoaaa.Q
open Go.RowKit D

end Go.Proofs.Ytccbgdbipihoaaa.Q
namespace Go.Proofs.Ytccbgdbipihoaaa.Q
open Go.RowKit D



end Go.Proofs.Ytccbgdbipihoaaa.Q
namespace Go.Proofs.Ytccbgdbipihoaaa.Q
open Go.RowKit D
end Go.Proofs.Ytccbgdbipihoaaa.Q
namespace Go.Proofs.Ytccbgdbipihoaaa.Q
open Go.RowKit D
theorem LAt.row {α : Type} {k : Nat} {R : World → List Value → α → Prop} {w : World} {ao : Option Addr} {c : Nat} {l : List α} (h : LAt k R w ao c l) {j : Nat} {x : α} (hx : l[j]? = some x) :
    ∃ b off r, ao = some ⟨b, off, none⟩ ∧ R w r x ∧ ∀ i v, r[i]? = some v → w.cell? ⟨b, off + j * k + i, none⟩ = some v := by
  obtain ⟨_, _, rows, h3, h4⟩ := h
  have hj : j < l.length := (List.getElem?_eq_some_iff.1 hx).1
  obtain ⟨b, off, e, _, hc⟩ := h3 (by omega)
  exact ⟨b, off, rows j, e, h4 j x hx, hc j hj⟩

end Go.Proofs.Ytccbgdbipihoaaa.Q
