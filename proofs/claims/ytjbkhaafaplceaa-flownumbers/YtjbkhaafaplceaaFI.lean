/- Check of package flow: walked. -/
import Derived.Test.YtjbkhaafaplceaaFH
import Derived.Deep.CutRange
namespace Go.Proofs.Ytjbkhaafaplceaa
open Go.RowKit

/-- A branch to where none stands. -/
def brkB (l : List IN) (x : IN) : Bool := decide (kd x.op = 6) && !decide (0 ≤ findZ l x.a)
/-- The code alone, from there on. -/
def codeF (l : List IN) : List IN → Int × Int
  | [] => match l.getLast? with
    | some x => if endsB x.op then (0, 0) else (17, x.pl)
    | none => (17, 0)
  | x :: r => if brkB l x then (16, x.pl) else codeF l r
def codeZ (l : List IN) : Int × Int := if l = [] then (17, 0) else codeF l l
/-- The frames, from there on, behind one at p. -/
def framF (l : List IN) : Option Int → List FN → Int × Int
  | _, [] => (0, 0)
  | p, f :: r => if findZ l f.p < 0 then (16, f.p) else if (match p with | some q => decide (f.p ≤ q) | none => false) then (21, f.p) else framF l (some f.p) r
def handF (l : List IN) (k : Int × Int) : List HN → Int × Int
  | [] => k
  | x :: r => if handB l x then handF l k r else (16, x.f)
def checkZ (l : List IN) (h : List HN) (fr : List FN) : Int × Int := if (codeZ l).1 ≠ 0 then codeZ l else handF l (framF l none fr) h
theorem codeF_cons (l : List IN) (x : IN) (r : List IN) : codeF l (x :: r) = if brkB l x then (16, x.pl) else codeF l r := rfl
theorem framF_cons (l : List IN) (p : Option Int) (f : FN) (r : List FN) : framF l p (f :: r) = if findZ l f.p < 0 then (16, f.p) else if (match p with | some q => decide (f.p ≤ q) | none => false) then (21, f.p) else framF l (some f.p) r := rfl
theorem handF_cons (l : List IN) (k : Int × Int) (x : HN) (r : List HN) : handF l k (x :: r) = if handB l x then handF l k r else (16, x.f) := rfl
theorem drop_at {α : Type} {l : List α} {k : Nat} {x : α} (h : l[k]? = some x) : l.drop k = x :: l.drop (k + 1) := by
  obtain ⟨hk, e⟩ := List.getElem?_eq_some_iff.1 h
  subst e
  exact List.drop_eq_getElem_cons hk
def Ans (p : Int × Int) (e : Ending) : Prop := e = .returned (.tuple #[.int .i64 p.1, .int .i64 p.2])
set_option maxRecDepth 8000 in
set_option maxHeartbeats 4000000 in
theorem checkCode_any (v : Value) (l : List IN) (w : World) (hv : IView w v l) :
    Calls Try.prog 26 #[v] w fun e w' => Ans (codeZ l) e ∧ Below w.heap.size w w' := by
  have HV := hidIt hv
  have GS := hidIt (fun (p : Int) W (h : Below w.heap.size w W) => stands_any v l p W (hv.below h))
  obtain ⟨ao, cap, rfl, hc, hm, _⟩ := hv
  unfold maxLen at hm
  by_cases h0 : l.length = 0
  · obtain rfl : l = [] := List.length_eq_zero_iff.1 h0
    go_enter Try.func26, Try.ntmps26
    go_wp2
    go_ret2
    exact ⟨rfl, Below.refl _ _⟩
  have hz : codeZ l = codeF l l := by unfold codeZ; rw [if_neg (fun h => h0 (by rw [h]; rfl))]
  rw [hz]
  have h0' : ((l.length : Int) == 0) = false := by simpa using h0
  have HA0 : Hid (codeF l (l.drop 0) = codeF l l) := rfl
  clear hz
  generalize codeF l l = A at *
  go_enter Try.func26, Try.ntmps26
  go_wp2
  go_loopw [5, 12] (fun _ i wr => ∃ k : Nat, k ≤ l.length ∧ i = .int .i64 (k : Int) ∧ Below w.heap.size w wr ∧ codeF l (l.drop k) = A) (fun _ i _ => l.length - (intOf i).toNat)
  case atStart => exact ⟨0, Nat.zero_le _, rfl, Below.refl _ w, HA0.out⟩
  case round =>
    obtain ⟨k, hk, rfl, hb, hA⟩ := hrel
    have HB := hidIt hb
    have HA := hidIt hA
    have hz := hb.size
    clear hb hA HA0
    by_cases hlt : k < l.length
    · have hlt' : (k : Int) < (l.length : Int) := by omega
      obtain ⟨x, hx⟩ : ∃ x, l[k]? = some x := ⟨l[k], List.getElem?_eq_getElem hlt⟩
      obtain ⟨g, off, rfl, c0, c1, c2, c3⟩ := (HV.out.below HB.out).row hx
      rw [drop_at hx, codeF_cons] at HA
      clear hx
      have GB := hidIt (fun W => branch_any x.op W)
      have hA1 := below_alloc wr (.cells #[.int .i64 x.pl, .int .i64 x.op, .int .i64 x.a, .int .i64 x.b] 23)
      have HB1 := hidIt (HB.out.trans (hA1.mono HB.out.size))
      have hX := box_at wr x
      have G2 := hidIt (GS.out x.a _ HB1.out)
      unfold brkB at HA
      clear hA1
      obtain ⟨d0, d1, d2, d3⟩ := hX
      by_cases h6 : kd x.op = 6
      · rw [decide_eq_true h6] at GB HA
        by_cases hf : 0 ≤ findZ l x.a
        · rw [decide_eq_true hf] at G2 HA
          go_wp2_with (first | (go_at_call 43; refine (GB.out _).mono ?_; rintro e w' ⟨rfl, hww⟩; cases hww) | (go_at_call 44; refine G2.out.mono ?_; rintro e w1 ⟨rfl, hb1⟩))
          exact ⟨⟨k + 1, by omega, by go_num, HB1.out.trans (hb1.mono HB1.out.size), by simpa using HA.out⟩, by simp [intOf]; omega⟩
        · rw [decide_eq_false hf] at G2 HA
          go_wp2_with (first | (go_at_call 43; refine (GB.out _).mono ?_; rintro e w' ⟨rfl, hww⟩; cases hww) | (go_at_call 44; refine G2.out.mono ?_; rintro e w1 ⟨rfl, hb1⟩; have d0 := cell_later hb1 d0))
          go_quiet (fail)
          go_wp2
          go_ret2
          refine ⟨?_, below_drewN (HB1.out.trans (hb1.mono HB1.out.size)) _⟩
          rw [← (show (16, x.pl) = A by simpa using HA.out)]
          rfl
      · rw [decide_eq_false h6] at GB HA
        go_wp2_with (first | (go_at_call 43; refine (GB.out _).mono ?_; rintro e w' ⟨rfl, hww⟩; cases hww))
        exact ⟨⟨k + 1, by omega, by go_num, HB1.out, by simpa using HA.out⟩, by simp [intOf]; omega⟩
    · have hlt' : ¬ (k : Int) < (l.length : Int) := by omega
      obtain rfl : k = l.length := by omega
      obtain ⟨x, hx⟩ : ∃ x, l[l.length - 1]? = some x := ⟨l[l.length - 1], List.getElem?_eq_getElem (by omega)⟩
      obtain ⟨g, off, rfl, c0, c1, c2, c3⟩ := (HV.out.below HB.out).row hx
      have hA1 := below_alloc wr (.cells #[.int .i64 x.pl, .int .i64 x.op, .int .i64 x.a, .int .i64 x.b] 23)
      have HB1 := hidIt (HB.out.trans (hA1.mono HB.out.size))
      have hX := box_at wr x
      have GE := hidIt (fun W => ends_any x.op W)
      have hl1 := last_get hx
      rw [List.drop_length] at HA
      have HA2 : Hid ((if endsB x.op then ((0, 0) : Int × Int) else (17, x.pl)) = A) := by have := HA.out; unfold codeF at this; rw [hl1] at this; exact this
      clear HA
      have HA := HA2
      clear HA2
      clear hA1 hl1 hx HV GS
      obtain ⟨d0, d1, d2, d3⟩ := hX
      generalize l.length = N at *
      obtain ⟨n1, rfl⟩ : ∃ n1, N = n1 + 1 := ⟨N - 1, by omega⟩
      rw [show n1 + 1 - 1 = n1 by omega] at *
      cases he : endsB x.op with
      | true =>
        rw [he] at GE HA
        go_wp2_with (first | (go_at_call 29; refine (GE.out _).mono ?_; rintro e w' ⟨rfl, hww⟩; cases hww))
        go_ret2
        refine ⟨?_, HB1.out⟩
        rw [← (show (0, 0) = A by simpa using HA.out)]
        rfl
      | false =>
        rw [he] at GE HA
        go_wp2_with (first | (go_at_call 29; refine (GE.out _).mono ?_; rintro e w' ⟨rfl, hww⟩; cases hww))
        go_quiet (fail)
        go_wp2
        go_ret2
        refine ⟨?_, below_drewN HB1.out _⟩
        rw [← (show (17, x.pl) = A by simpa using HA.out)]
        rfl
def prevZ (fr : List FN) (k : Nat) : Option Int := if k = 0 then none else (fr[k - 1]?).map FN.p
theorem fbox_at (w : World) (x : FN) : FAt (w.alloc (.cells #[.int .i64 x.p, .slice x.a1 x.n1 x.c1, .slice x.a2 x.n2 x.c2] 34)) w.heap.size 0 x := by
  have h := heap_alloc_new w (.cells #[.int .i64 x.p, .slice x.a1 x.n1 x.c1, .slice x.a2 x.n2 x.c2] 34)
  exact ⟨cell_row h 0 rfl, cell_row h 1 rfl, cell_row h 2 rfl⟩
set_option maxRecDepth 8000 in
set_option maxHeartbeats 4000000 in
theorem checkFrames_any (v u : Value) (l : List IN) (fr : List FN) (w : World) (hv : IView w v l) (hu : FView w u fr) :
    Calls Try.prog 28 #[v, u] w fun e w' => Ans (framF l none fr) e ∧ Below w.heap.size w w' := by
  have HV := hidIt hv
  have HU := hidIt hu
  have GS := hidIt (fun (p : Int) W (h : Below w.heap.size w W) => stands_any v l p W (hv.below h))
  obtain ⟨ao0, cap0, rfl, -⟩ := hv
  obtain ⟨ao, cap, rfl, hc, hm, _⟩ := hu
  unfold maxLen at hm
  have HA0 : Hid (framF l (prevZ fr 0) (fr.drop 0) = framF l none fr) := rfl
  generalize framF l none fr = A at *
  go_enter Try.func28, Try.ntmps28
  go_wp2
  go_loopw [6, 7, 10] (fun _ _ i wr => ∃ k : Nat, k ≤ fr.length ∧ i = .int .i64 (k : Int) ∧ Below w.heap.size w wr ∧ framF l (prevZ fr k) (fr.drop k) = A) (fun _ _ i _ => fr.length - (intOf i).toNat)
  case atStart => exact ⟨0, Nat.zero_le _, rfl, Below.refl _ w, HA0.out⟩
  case round =>
    obtain ⟨k, hk, rfl, hb, hA⟩ := hrel
    have HB := hidIt hb
    have HA := hidIt hA
    have hz := hb.size
    clear hb hA HA0
    by_cases hlt : k < fr.length
    · have hlt' : (k : Int) < (fr.length : Int) := by omega
      obtain ⟨x, hx⟩ : ∃ x, fr[k]? = some x := ⟨fr[k], List.getElem?_eq_getElem hlt⟩
      obtain ⟨g, off, rfl, c0, c1, c2⟩ := (HU.out.below HB.out).row hx
      rw [drop_at hx, framF_cons] at HA
      have hnext : prevZ fr (k + 1) = some x.p := by unfold prevZ; rw [if_neg (by omega), Nat.add_sub_cancel, hx]; rfl
      rw [← hnext] at HA
      have hA1 := below_alloc wr (.cells #[.int .i64 x.p, .slice x.a1 x.n1 x.c1, .slice x.a2 x.n2 x.c2] 34)
      have HB1 := hidIt (HB.out.trans (hA1.mono HB.out.size))
      have hX := fbox_at wr x
      have G2 := hidIt (GS.out x.p _ HB1.out)
      obtain ⟨d0, d1, d2⟩ := hX
      clear hnext
      by_cases hf : 0 ≤ findZ l x.p
      · rw [decide_eq_true hf] at G2
        rw [if_neg (by omega)] at HA
        by_cases hk0 : k = 0
        · have hp : prevZ fr k = none := by unfold prevZ; rw [if_pos hk0]
          rw [hp] at HA
          have HA2 : Hid (framF l (prevZ fr (k + 1)) (fr.drop (k + 1)) = A) := HA.out
          have hk0' : decide ((0 : Int) < (k : Int)) = false := by simpa using hk0
          have hk0n : decide (0 < k) = false := by simpa using hk0
          have hk0m : ¬ 0 < k := by omega
          clear HA hp hk0 hx HU
          go_wp2_with (first | (go_at_call 44; refine G2.out.mono ?_; rintro e w1 ⟨rfl, hb1⟩; have e0 := cell_later hb1 d0))
          go_quiet (fail)
          go_wp2
          exact ⟨⟨k + 1, by omega, by go_num, below_drewN (HB1.out.trans (hb1.mono HB1.out.size)) _, HA2.out⟩, by simp [intOf]; omega⟩
        · obtain ⟨y, hy⟩ : ∃ y, fr[k - 1]? = some y := ⟨fr[k - 1], List.getElem?_eq_getElem (by omega)⟩
          obtain ⟨g', off', e', y0, y1, y2⟩ := (HU.out.below HB.out).row hy
          cases e'
          have hp : prevZ fr k = some y.p := by unfold prevZ; rw [if_neg hk0, hy]; rfl
          rw [hp] at HA
          have HA2 : Hid ((if decide (x.p ≤ y.p) = true then ((21, x.p) : Int × Int) else framF l (prevZ fr (k + 1)) (fr.drop (k + 1))) = A) := HA.out
          clear HA hp hy hx HU
          have y0' := cell_later hA1 y0
          obtain ⟨m, rfl⟩ : ∃ m, k = m + 1 := ⟨k - 1, by omega⟩
          rw [show m + 1 - 1 = m by omega] at y0'
          have hkm : (0 : Int) < ((m + 1 : Nat) : Int) := by omega
          by_cases hle : x.p ≤ y.p
          · rw [decide_eq_true hle, if_pos rfl] at HA2
            go_wp2_with (first | (go_at_call 44; refine G2.out.mono ?_; rintro e w1 ⟨rfl, hb1⟩; have e0 := cell_later hb1 d0; have f0 := cell_later hb1 y0'))
            go_quiet (fail)
            go_wp2
            go_quiet (fail)
            go_wp2
            go_ret2
            refine ⟨?_, below_drewN (below_drewN (HB1.out.trans (hb1.mono HB1.out.size)) _) _⟩
            rw [← HA2.out]
            rfl
          · rw [decide_eq_false hle, if_neg (by decide)] at HA2
            go_wp2_with (first | (go_at_call 44; refine G2.out.mono ?_; rintro e w1 ⟨rfl, hb1⟩; have e0 := cell_later hb1 d0; have f0 := cell_later hb1 y0'))
            go_quiet (fail)
            go_wp2
            exact ⟨⟨m + 1 + 1, by omega, by go_num, below_drewN (HB1.out.trans (hb1.mono HB1.out.size)) _, HA2.out⟩, by simp [intOf]; omega⟩
      · rw [decide_eq_false hf] at G2
        rw [if_pos (by omega)] at HA
        clear hx
        go_wp2_with (first | (go_at_call 44; refine G2.out.mono ?_; rintro e w1 ⟨rfl, hb1⟩; have e0 := cell_later hb1 d0))
        go_quiet (fail)
        go_wp2
        go_ret2
        refine ⟨?_, below_drewN (HB1.out.trans (hb1.mono HB1.out.size)) _⟩
        rw [← HA.out]
        rfl
    · have hlt' : ¬ (k : Int) < (fr.length : Int) := by omega
      obtain rfl : k = fr.length := by omega
      rw [List.drop_length] at HA
      have HA2 : Hid (((0, 0) : Int × Int) = A) := HA.out
      clear HA
      go_wp2
      go_ret2
      refine ⟨?_, HB.out⟩
      rw [← HA2.out]
      rfl
end Go.Proofs.Ytjbkhaafaplceaa
