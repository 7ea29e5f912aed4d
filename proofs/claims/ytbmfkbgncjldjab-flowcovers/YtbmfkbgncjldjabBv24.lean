/- Texts FCo FI NS. -/
import Derived.Test.YtbmfkbgncjldjabBv04
import Derived.Test.YtbmfkbgncjldjabBv22
import Derived.Test.YtbmfkbgncjldjabBv23
import Derived.Test.YtbmfkbgncjldjabBv03
import Derived.Deep.CutRange
namespace Go.Proofs.Ytbmfkbgncjldjab
open Go.RowKit

theorem inst_pl (p op : Int) (t : List Int) : (inst p op t).pl = p := by
  unfold inst
  split <;> rfl
theorem dec_pl (b : List Int) (hb : b.length ≤ 1024) : ∀ (f p : Nat) (acc : List IN), (∀ x ∈ acc, 0 ≤ x.pl ∧ x.pl ≤ 1024) → ∀ x ∈ (decL5 b f p acc).1, 0 ≤ x.pl ∧ x.pl ≤ 1024
  | 0, p, acc, h => h
  | f + 1, p, acc, h => by
    unfold decL5
    split
    · exact h
    · rename_i op t hd
      have hp : p < b.length := by
        apply Nat.lt_of_not_le
        intro hle
        rw [List.drop_eq_nil_of_le hle] at hd
        cases hd
      split
      · exact fun x hx => by simp at hx
      · split
        · exact fun x hx => by simp at hx
        · refine dec_pl b hb f (p + sz op) (acc ++ [inst p op t]) ?_
          intro x hx
          rcases List.mem_append.1 hx with hx | hx
          · exact h x hx
          · simp at hx
            subst hx
            rw [inst_pl]
            omega
theorem dec_len (b : List Int) : ∀ (f p : Nat) (acc : List IN), (decL5 b f p acc).1.length ≤ acc.length + f
  | 0, p, acc => by unfold decL5; exact Nat.le_refl _
  | f + 1, p, acc => by
    unfold decL5
    split
    · exact Nat.le_add_right _ _
    · rename_i op t hd
      split
      · exact Nat.zero_le _
      · split
        · exact Nat.zero_le _
        · have := dec_len b f (p + sz op) (acc ++ [inst p op t])
          rw [List.length_append] at this
          simp at this
          omega
theorem decZ_small (b : List Int) : Places (decZ5 b).1 ∧ (decZ5 b).1.length ≤ 1024 := by
  unfold decZ5
  split
  · exact ⟨fun x hx => by simp at hx, Nat.zero_le _⟩
  · rename_i h
    refine ⟨fun x hx => ?_, ?_⟩
    · have := dec_pl b (by omega) b.length 0 [] (fun x hx => by simp at hx) x hx
      omega
    · have := dec_len b b.length 0 []
      simp at this
      omega
theorem fra_len (ts : List Int) : ∀ (ls : List M.LN) (p : Int) (fs : List (Int × Bool)), (M.fra ts ls p fs).length ≤ fs.length + ls.length
  | [], _, _ => Nat.le_refl _
  | x :: r, p, fs => by
    rw [M.fra_cons]
    simp only [List.length_cons]
    split
    · refine Nat.le_trans (fra_len ts r p _) ?_
      split
      · omega
      · rw [List.length_append]; simp; omega
    · have := fra_len ts r (p + (sz x.op : Nat)) fs
      omega
theorem frames_len {k : M.BK} {pool : List P3.CD} {σ : M.SG} (h : M.BodyIs k pool σ) (hp : pool.length ≤ 256) : (M.framesZ σ).length ≤ 1000 := by
  have h1 := M.body_made h hp
  have h2 := M.heres_ins σ
  have h3 := h1.lab
  have h4 := h1.her
  have h5 := h1.ins
  have := fra_len σ.ts σ.ls 0 []
  unfold M.framesZ
  simp at this
  omega
def toFN (y : M.FM) : FN := match y.lc, y.st with
  | .slice a n c, .slice a2 n2 c2 => ⟨y.at_, a, n, c, a2, n2, c2⟩
  | _, _ => ⟨y.at_, none, 0, 0, none, 0, 0⟩
theorem fr_slices {pl : Bool} {w : World} {y : M.FM} {z : Int × Bool} (h : M.FR1 pl w y z) : frow (toFN y) = M.frow y := by
  obtain ⟨z1, z2⟩ := z
  obtain ⟨h1, ⟨g, h2, h3⟩, h4⟩ := h
  cases z2
  · have h4' : y.st = .slice none 0 0 := h4
    unfold toFN M.frow frow
    rw [h2, h4']
  · obtain ⟨g2, h5, h6⟩ := h4
    unfold toFN M.frow frow
    rw [h2, h5]
theorem frames_view {pl : Bool} {w : World} {b : Nat} {v : Value} {fs : List M.FM} {zs : List (Int × Bool)} (h : w.ownsRow b 88 3 v fs.length (M.fcells fs)) (hz : M.FRs pl w fs zs) : FView w v (fs.map toFN) := by
  refine GView.f (GView.of_own (T := 88) (B := b) (fun _ => rfl) ?_)
  have e : (fs.map toFN).flatMap frow = M.fcells fs := by
    unfold M.fcells
    have H : ∀ y ∈ fs, frow (toFN y) = M.frow y := fun y hy => by
      obtain ⟨j, hj⟩ := List.getElem?_of_mem hy
      have hlt := (List.getElem?_eq_some_iff.1 hj).1
      obtain ⟨z, hzz⟩ : ∃ z, zs[j]? = some z := ⟨_, List.getElem?_eq_getElem (by rw [← hz.1]; exact hlt)⟩
      exact fr_slices (hz.2 j y z hj hzz)
    clear h hz
    induction fs with
    | nil => rfl
    | cons y r ih => rw [List.map_cons, List.flatMap_cons, List.flatMap_cons, H y (by simp), ih (fun z hz => H z (by simp [hz]))]
  rw [e, List.length_map]
  exact h
theorem code_view {w : World} {b : Nat} {v : Value} {l : List IN} (h : w.ownsRow b 5 1 v (encL l []).1.length (bcells (encL l []).1)) : View w v (encL l []).1 := by
  have hb := enc_bytes l [] (fun x hx => by simp at hx)
  rcases h.2 with ⟨rfl, h0⟩ | ⟨g, cap, cur, rfl, hB, hg, k1, k2, _⟩
  · exact ⟨none, 0, by rw [h0], by rw [h0]; exact Nat.le_refl _, by unfold maxLen; omega, hb, .inl (List.length_eq_zero_iff.1 h0)⟩
  · refine ⟨_, cap, rfl, k1, k2, hb, .inr ⟨g, 0, rfl, fun j x hj => ?_⟩⟩
    have := h.cells (g := g) rfl j (.int .u8 x) (by unfold bcells; rw [List.getElem?_map, hj]; rfl)
    have e : (⟨g, 0, none⟩ : Addr).add j = ⟨g, 0 + j, none⟩ := by unfold Addr.add; split <;> simp_all
    rw [e] at this
    exact this
theorem NVb {w w' : World} {v : Value} {l : List Int} (h : M.NV w.heap.size w.heap.size w v l) (hb : Below w.heap.size w w') : M.NV w'.heap.size w'.heap.size w' v l := by
  obtain ⟨ao, cap, e, hc, hm, hx, hl⟩ := h
  refine ⟨ao, cap, e, hc, hm, hx, ?_⟩
  rcases hl with h | ⟨g, off, e, h1, h2, hl⟩
  · exact .inl h
  · exact .inr ⟨g, off, e, Nat.lt_of_lt_of_le h1 hb.size, Nat.lt_of_lt_of_le h1 hb.size, fun j x hj => cell_later hb (hl j x hj)⟩
end Go.Proofs.Ytbmfkbgncjldjab
namespace Go.Proofs.Ytbmfkbgncjldjab
open Go.RowKit

def brkB (l : List IN) (x : IN) : Bool := decide (kd x.op = 6) && !decide (0 ≤ findZ l x.a)
def codeF (l : List IN) : List IN → Int × Int
  | [] => match l.getLast? with
    | some x => if endsB x.op then (0, 0) else (17, x.pl)
    | none => (17, 0)
  | x :: r => if brkB l x then (16, x.pl) else codeF l r
def codeZ (l : List IN) : Int × Int := if l = [] then (17, 0) else codeF l l
def framF (l : List IN) : Option Int → List FN → Int × Int
  | _, [] => (0, 0)
  | p, f :: r => if findZ l f.p < 0 then (16, f.p) else if (match p with | some q => decide (f.p ≤ q) | none => false) then (21, f.p) else framF l (some f.p) r
def handF (l : List IN) (k : Int × Int) : List HN → Int × Int
  | [] => k
  | x :: r => if handB l x then handF l k r else (16, x.f)
def checkZ (l : List IN) (h : List HN) (fr : List FN) : Int × Int := if (codeZ l).1 ≠ 0 then codeZ l else handF l (framF l none fr) h
theorem codeF_cons (l : List IN) (x : IN) (r : List IN) : codeF l (x :: r) = if brkB l x then (16, x.pl) else codeF l r := rfl
theorem framF_cons (l : List IN) (p : Option Int) (f : FN) (r : List FN) : framF l p (f :: r) = if findZ l f.p < 0 then (16, f.p) else if (match p with | some q => decide (f.p ≤ q) | none => false) then (21, f.p) else framF l (some f.p) r := rfl
theorem handF_cons (l : List IN) (k : Int × Int) (x : HN) (r : List HN) : handF l k (x :: r) = if handB l x then handF l k r else (16, x.f) := rfl
theorem drop_at {α : Type} {l : List α} {k : Nat} {x : α} (h : l[k]? = some x) : l.drop k = x :: l.drop (k + 1) := by
  obtain ⟨hk, e⟩ := List.getElem?_eq_some_iff.1 h
  subst e
  exact List.drop_eq_getElem_cons hk
def Ans (p : Int × Int) (e : Ending) : Prop := e = .returned (.tuple #[.int .i64 p.1, .int .i64 p.2])
set_option maxRecDepth 8000 in
set_option maxHeartbeats 4000000 in
theorem checkCode_any (v : Value) (l : List IN) (w : World) (hv : IView w v l) :
    Calls Try.prog 16 #[v] w fun e w' => Ans (codeZ l) e ∧ Below w.heap.size w w' := by
  have HV := hidIt hv
  have GS := hidIt (fun (p : Int) W (h : Below w.heap.size w W) => stands_any v l p W (hv.below h))
  obtain ⟨ao, cap, rfl, hc, hm, _⟩ := hv
  unfold maxLen at hm
  by_cases h0 : l.length = 0
  · obtain rfl : l = [] := List.length_eq_zero_iff.1 h0
    go_enter Try.func16, Try.ntmps16
    go_wp2
    go_ret2
    exact ⟨rfl, Below.refl _ _⟩
  have hz : codeZ l = codeF l l := by unfold codeZ; rw [if_neg (fun h => h0 (by rw [h]; rfl))]
  rw [hz]
  have h0' : ((l.length : Int) == 0) = false := by simpa using h0
  have HA0 : Hid (codeF l (l.drop 0) = codeF l l) := rfl
  clear hz
  generalize codeF l l = A at *
  go_enter Try.func16, Try.ntmps16
  go_wp2
  go_loopw [5, 12] (fun _ i wr => ∃ k : Nat, k ≤ l.length ∧ i = .int .i64 (k : Int) ∧ Below w.heap.size w wr ∧ codeF l (l.drop k) = A) (fun _ i _ => l.length - (intOf i).toNat)
  case atStart => exact ⟨0, Nat.zero_le _, rfl, Below.refl _ w, HA0.out⟩
  case round =>
    obtain ⟨k, hk, rfl, hb, hA⟩ := hrel
    have HB := hidIt hb
    have HA := hidIt hA
    have hz := hb.size
    clear hb hA HA0
    by_cases hlt : k < l.length
    · have hlt' : (k : Int) < (l.length : Int) := by omega
      obtain ⟨x, hx⟩ : ∃ x, l[k]? = some x := ⟨l[k], List.getElem?_eq_getElem hlt⟩
      obtain ⟨g, off, rfl, c0, c1, c2, c3⟩ := (HV.out.below HB.out).row hx
      rw [drop_at hx, codeF_cons] at HA
      clear hx
      have GB := hidIt (fun W => branch_any x.op W)
      have hA1 := below_alloc wr (.cells #[.int .i64 x.pl, .int .i64 x.op, .int .i64 x.a, .int .i64 x.b] 37)
      have HB1 := hidIt (HB.out.trans (hA1.mono HB.out.size))
      have hX := box_at wr x
      have G2 := hidIt (GS.out x.a _ HB1.out)
      unfold brkB at HA
      clear hA1
      obtain ⟨d0, d1, d2, d3⟩ := hX
      by_cases h6 : kd x.op = 6
      · rw [decide_eq_true h6] at GB HA
        by_cases hf : 0 ≤ findZ l x.a
        · rw [decide_eq_true hf] at G2 HA
          go_wp2_with (first | (go_at_call 34; refine (GB.out _).mono ?_; rintro e w' ⟨rfl, hww⟩; cases hww) | (go_at_call 35; refine G2.out.mono ?_; rintro e w1 ⟨rfl, hb1⟩))
          exact ⟨⟨k + 1, by omega, by go_num, HB1.out.trans (hb1.mono HB1.out.size), by simpa using HA.out⟩, by simp [intOf]; omega⟩
        · rw [decide_eq_false hf] at G2 HA
          go_wp2_with (first | (go_at_call 34; refine (GB.out _).mono ?_; rintro e w' ⟨rfl, hww⟩; cases hww) | (go_at_call 35; refine G2.out.mono ?_; rintro e w1 ⟨rfl, hb1⟩; have d0 := cell_later hb1 d0))
          go_quiet (fail)
          go_wp2
          go_ret2
          refine ⟨?_, below_drewN (HB1.out.trans (hb1.mono HB1.out.size)) _⟩
          rw [← (show (16, x.pl) = A by simpa using HA.out)]
          rfl
      · rw [decide_eq_false h6] at GB HA
        go_wp2_with (first | (go_at_call 34; refine (GB.out _).mono ?_; rintro e w' ⟨rfl, hww⟩; cases hww))
        exact ⟨⟨k + 1, by omega, by go_num, HB1.out, by simpa using HA.out⟩, by simp [intOf]; omega⟩
    · have hlt' : ¬ (k : Int) < (l.length : Int) := by omega
      obtain rfl : k = l.length := by omega
      obtain ⟨x, hx⟩ : ∃ x, l[l.length - 1]? = some x := ⟨l[l.length - 1], List.getElem?_eq_getElem (by omega)⟩
      obtain ⟨g, off, rfl, c0, c1, c2, c3⟩ := (HV.out.below HB.out).row hx
      have hA1 := below_alloc wr (.cells #[.int .i64 x.pl, .int .i64 x.op, .int .i64 x.a, .int .i64 x.b] 37)
      have HB1 := hidIt (HB.out.trans (hA1.mono HB.out.size))
      have hX := box_at wr x
      have GE := hidIt (fun W => ends_any x.op W)
      have hl1 := last_get hx
      rw [List.drop_length] at HA
      have HA2 : Hid ((if endsB x.op then ((0, 0) : Int × Int) else (17, x.pl)) = A) := by have := HA.out; unfold codeF at this; rw [hl1] at this; exact this
      clear HA
      have HA := HA2
      clear HA2
      clear hA1 hl1 hx HV GS
      obtain ⟨d0, d1, d2, d3⟩ := hX
      generalize l.length = N at *
      obtain ⟨n1, rfl⟩ : ∃ n1, N = n1 + 1 := ⟨N - 1, by omega⟩
      rw [show n1 + 1 - 1 = n1 by omega] at *
      cases he : endsB x.op with
      | true =>
        rw [he] at GE HA
        go_wp2_with (first | (go_at_call 20; refine (GE.out _).mono ?_; rintro e w' ⟨rfl, hww⟩; cases hww))
        go_ret2
        refine ⟨?_, HB1.out⟩
        rw [← (show (0, 0) = A by simpa using HA.out)]
        rfl
      | false =>
        rw [he] at GE HA
        go_wp2_with (first | (go_at_call 20; refine (GE.out _).mono ?_; rintro e w' ⟨rfl, hww⟩; cases hww))
        go_quiet (fail)
        go_wp2
        go_ret2
        refine ⟨?_, below_drewN HB1.out _⟩
        rw [← (show (17, x.pl) = A by simpa using HA.out)]
        rfl
def prevZ (fr : List FN) (k : Nat) : Option Int := if k = 0 then none else (fr[k - 1]?).map FN.p
theorem fbox_at (w : World) (x : FN) : FAt (w.alloc (.cells #[.int .i64 x.p, .slice x.a1 x.n1 x.c1, .slice x.a2 x.n2 x.c2] 88)) w.heap.size 0 x := by
  have h := heap_alloc_new w (.cells #[.int .i64 x.p, .slice x.a1 x.n1 x.c1, .slice x.a2 x.n2 x.c2] 88)
  exact ⟨cell_row h 0 rfl, cell_row h 1 rfl, cell_row h 2 rfl⟩
set_option maxRecDepth 8000 in
set_option maxHeartbeats 4000000 in
theorem checkFrames_any (v u : Value) (l : List IN) (fr : List FN) (w : World) (hv : IView w v l) (hu : FView w u fr) :
    Calls Try.prog 18 #[v, u] w fun e w' => Ans (framF l none fr) e ∧ Below w.heap.size w w' := by
  have HV := hidIt hv
  have HU := hidIt hu
  have GS := hidIt (fun (p : Int) W (h : Below w.heap.size w W) => stands_any v l p W (hv.below h))
  obtain ⟨ao0, cap0, rfl, -⟩ := hv
  obtain ⟨ao, cap, rfl, hc, hm, _⟩ := hu
  unfold maxLen at hm
  have HA0 : Hid (framF l (prevZ fr 0) (fr.drop 0) = framF l none fr) := rfl
  generalize framF l none fr = A at *
  go_enter Try.func18, Try.ntmps18
  go_wp2
  go_loopw [6, 7, 10] (fun _ _ i wr => ∃ k : Nat, k ≤ fr.length ∧ i = .int .i64 (k : Int) ∧ Below w.heap.size w wr ∧ framF l (prevZ fr k) (fr.drop k) = A) (fun _ _ i _ => fr.length - (intOf i).toNat)
  case atStart => exact ⟨0, Nat.zero_le _, rfl, Below.refl _ w, HA0.out⟩
  case round =>
    obtain ⟨k, hk, rfl, hb, hA⟩ := hrel
    have HB := hidIt hb
    have HA := hidIt hA
    have hz := hb.size
    clear hb hA HA0
    by_cases hlt : k < fr.length
    · have hlt' : (k : Int) < (fr.length : Int) := by omega
      obtain ⟨x, hx⟩ : ∃ x, fr[k]? = some x := ⟨fr[k], List.getElem?_eq_getElem hlt⟩
      obtain ⟨g, off, rfl, c0, c1, c2⟩ := (HU.out.below HB.out).row hx
      rw [drop_at hx, framF_cons] at HA
      have hnext : prevZ fr (k + 1) = some x.p := by unfold prevZ; rw [if_neg (by omega), Nat.add_sub_cancel, hx]; rfl
      rw [← hnext] at HA
      have hA1 := below_alloc wr (.cells #[.int .i64 x.p, .slice x.a1 x.n1 x.c1, .slice x.a2 x.n2 x.c2] 88)
      have HB1 := hidIt (HB.out.trans (hA1.mono HB.out.size))
      have hX := fbox_at wr x
      have G2 := hidIt (GS.out x.p _ HB1.out)
      obtain ⟨d0, d1, d2⟩ := hX
      clear hnext
      by_cases hf : 0 ≤ findZ l x.p
      · rw [decide_eq_true hf] at G2
        rw [if_neg (by omega)] at HA
        by_cases hk0 : k = 0
        · have hp : prevZ fr k = none := by unfold prevZ; rw [if_pos hk0]
          rw [hp] at HA
          have HA2 : Hid (framF l (prevZ fr (k + 1)) (fr.drop (k + 1)) = A) := HA.out
          have hk0' : decide ((0 : Int) < (k : Int)) = false := by simpa using hk0
          have hk0n : decide (0 < k) = false := by simpa using hk0
          have hk0m : ¬ 0 < k := by omega
          clear HA hp hk0 hx HU
          go_wp2_with (first | (go_at_call 35; refine G2.out.mono ?_; rintro e w1 ⟨rfl, hb1⟩; have e0 := cell_later hb1 d0))
          go_quiet (fail)
          go_wp2
          exact ⟨⟨k + 1, by omega, by go_num, below_drewN (HB1.out.trans (hb1.mono HB1.out.size)) _, HA2.out⟩, by simp [intOf]; omega⟩
        · obtain ⟨y, hy⟩ : ∃ y, fr[k - 1]? = some y := ⟨fr[k - 1], List.getElem?_eq_getElem (by omega)⟩
          obtain ⟨g', off', e', y0, y1, y2⟩ := (HU.out.below HB.out).row hy
          cases e'
          have hp : prevZ fr k = some y.p := by unfold prevZ; rw [if_neg hk0, hy]; rfl
          rw [hp] at HA
          have HA2 : Hid ((if decide (x.p ≤ y.p) = true then ((21, x.p) : Int × Int) else framF l (prevZ fr (k + 1)) (fr.drop (k + 1))) = A) := HA.out
          clear HA hp hy hx HU
          have y0' := cell_later hA1 y0
          obtain ⟨m, rfl⟩ : ∃ m, k = m + 1 := ⟨k - 1, by omega⟩
          rw [show m + 1 - 1 = m by omega] at y0'
          have hkm : (0 : Int) < ((m + 1 : Nat) : Int) := by omega
          by_cases hle : x.p ≤ y.p
          · rw [decide_eq_true hle, if_pos rfl] at HA2
            go_wp2_with (first | (go_at_call 35; refine G2.out.mono ?_; rintro e w1 ⟨rfl, hb1⟩; have e0 := cell_later hb1 d0; have f0 := cell_later hb1 y0'))
            go_quiet (fail)
            go_wp2
            go_quiet (fail)
            go_wp2
            go_ret2
            refine ⟨?_, below_drewN (below_drewN (HB1.out.trans (hb1.mono HB1.out.size)) _) _⟩
            rw [← HA2.out]
            rfl
          · rw [decide_eq_false hle, if_neg (by decide)] at HA2
            go_wp2_with (first | (go_at_call 35; refine G2.out.mono ?_; rintro e w1 ⟨rfl, hb1⟩; have e0 := cell_later hb1 d0; have f0 := cell_later hb1 y0'))
            go_quiet (fail)
            go_wp2
            exact ⟨⟨m + 1 + 1, by omega, by go_num, below_drewN (HB1.out.trans (hb1.mono HB1.out.size)) _, HA2.out⟩, by simp [intOf]; omega⟩
      · rw [decide_eq_false hf] at G2
        rw [if_pos (by omega)] at HA
        clear hx
        go_wp2_with (first | (go_at_call 35; refine G2.out.mono ?_; rintro e w1 ⟨rfl, hb1⟩; have e0 := cell_later hb1 d0))
        go_quiet (fail)
        go_wp2
        go_ret2
        refine ⟨?_, below_drewN (HB1.out.trans (hb1.mono HB1.out.size)) _⟩
        rw [← HA.out]
        rfl
    · have hlt' : ¬ (k : Int) < (fr.length : Int) := by omega
      obtain rfl : k = fr.length := by omega
      rw [List.drop_length] at HA
      have HA2 : Hid (((0, 0) : Int × Int) = A) := HA.out
      clear HA
      go_wp2
      go_ret2
      refine ⟨?_, HB.out⟩
      rw [← HA2.out]
      rfl
end Go.Proofs.Ytbmfkbgncjldjab
namespace Go.Proofs.Ytbmfkbgncjldjab.M
open Go.RowKit

def szs : List LN → Nat
  | [] => 0
  | x :: r => (if 0 ≤ x.hr then 0 else sz x.op) + szs r
theorem szs_append (a b : List LN) : szs (a ++ b) = szs a + szs b := by
  induction a with
  | nil => simp [szs]
  | cons x a ih => simp only [List.cons_append, szs, ih]; omega
theorem szs_le (l : List LN) : szs l ≤ 3 * (l.filter (fun x => !decide (0 ≤ x.hr))).length := by
  induction l with
  | nil => simp [szs]
  | cons x r ih =>
    have := sz_le x.op
    simp only [szs, List.filter_cons]
    by_cases h : 0 ≤ x.hr
    · simp [h]; omega
    · simp [h]; omega
theorem sz_put {x : LN} (h : LOk x) (hr : ¬ 0 ≤ x.hr) : 1 ≤ sz x.op := by
  rcases h with h | h | h
  · exact absurd h.1 hr
  · exact sz_pos h.2.2.1
  · exact sz_pos (by rw [h.2.2.1]; decide)
theorem plc_get : ∀ (ls : List LN) (p : Int) (ps : List Int) (i : Nat) (q : Int), (plc ls p ps)[i]? = some q → ps[i]? = some q ∨ ∃ a x c, ls = a ++ x :: c ∧ 0 ≤ x.hr ∧ x.hr.toNat = i ∧ q = p + (szs a : Nat)
  | [], p, ps, i, q, h => .inl h
  | x :: r, p, ps, i, q, h => by
    rw [plc_cons] at h
    by_cases hx : 0 ≤ x.hr
    · rw [if_pos hx] at h
      rcases plc_get r p _ i q h with h | ⟨a, y, c, e1, e2, e3, e4⟩
      · by_cases e : x.hr.toNat = i
        · subst e
          rw [List.getElem?_set] at h
          simp only [if_true] at h
          split at h
          · cases h
            exact .inr ⟨[], x, r, rfl, hx, rfl, by simp [szs]⟩
          · cases h
        · rw [List.getElem?_set_ne e] at h
          exact .inl h
      · exact .inr ⟨x :: a, y, c, by rw [e1]; rfl, e2, e3, by rw [e4]; simp [szs, hx]⟩
    · rw [if_neg hx] at h
      rcases plc_get r _ ps i q h with h | ⟨a, y, c, e1, e2, e3, e4⟩
      · exact .inl h
      · exact .inr ⟨x :: a, y, c, by rw [e1]; rfl, e2, e3, by rw [e4]; simp [szs, hx]; omega⟩
theorem cod_st (ps : List Int) : ∀ (a c : List LN) (p : Int), (∃ y ∈ c, ¬ 0 ≤ y.hr) → ∃ z ∈ cod ps (a ++ c) p, z.pl = p + (szs a : Nat)
  | [], [], _, ⟨y, h, _⟩ => by simp at h
  | [], x :: c, p, ⟨y, h, hy⟩ => by
    rw [List.nil_append, cod_cons]
    by_cases hx : 0 ≤ x.hr
    · rw [if_pos hx]
      have : y ∈ c := by
        rcases List.mem_cons.1 h with rfl | h
        · exact absurd hx hy
        · exact h
      have := cod_st ps [] c p ⟨y, this, hy⟩
      simpa using this
    · rw [if_neg hx]
      exact ⟨_, List.mem_cons_self, by simp [szs]⟩
  | x :: a, c, p, h => by
    rw [List.cons_append, cod_cons]
    by_cases hx : 0 ≤ x.hr
    · rw [if_pos hx]
      obtain ⟨z, h1, h2⟩ := cod_st ps a c p h
      exact ⟨z, h1, by rw [h2]; simp [szs, hx]⟩
    · rw [if_neg hx]
      obtain ⟨z, h1, h2⟩ := cod_st ps a c (p + (sz x.op : Nat)) h
      exact ⟨z, List.mem_cons_of_mem _ h1, by rw [h2]; simp [szs, hx]; omega⟩
theorem find_at {l : List IN} {p : Int} (h : ∃ z ∈ l, z.pl = p) : 0 ≤ findZ l p := by
  rcases findZ_cases l p with ⟨_, h2⟩ | ⟨k, x, h1, _⟩
  · obtain ⟨z, hz, hp⟩ := h
    exact absurd hp (h2 z hz)
  · omega
def Ended (σ : SG) : Prop := ∃ ls0 x, σ.ls = ls0 ++ [x] ∧ ¬ 0 ≤ x.hr
theorem Ended.behind {σ : SG} (h : Ended σ) {a c : List LN} {x : LN} (e : σ.ls = a ++ x :: c) (hx : 0 ≤ x.hr) : ∃ y ∈ c, ¬ 0 ≤ y.hr := by
  obtain ⟨ls0, z, h1, h2⟩ := h
  rw [h1] at e
  rcases List.eq_nil_or_concat c with e2 | ⟨c', y, e2⟩
  · subst e2
    have := List.append_inj_right' e rfl
    simp at this
    subst this
    exact absurd hx h2
  · rw [List.concat_eq_append] at e2
    subst e2
    have e3 : ls0 ++ [z] = (a ++ x :: c') ++ [y] := by rw [e]; simp
    have := List.append_inj_right' e3 rfl
    simp at this
    subst this
    exact ⟨z, by simp, h2⟩
theorem Ended.some {σ : SG} (h : Ended σ) : ∃ y ∈ σ.ls, ¬ 0 ≤ y.hr := by
  obtain ⟨ls0, z, h1, h2⟩ := h
  exact ⟨z, by rw [h1]; simp, h2⟩
theorem stands_at {σ : SG} (h : Ended σ) (i : Nat) : 0 ≤ findZ (codeZ σ) (((placesZ σ)[i]?).getD 0) := by
  have h0 : 0 ≤ findZ (codeZ σ) 0 := by
    have := cod_st (placesZ σ) [] σ.ls 0 h.some
    exact find_at (by simpa [codeZ, szs] using this)
  cases hq : (placesZ σ)[i]? with
  | none => exact h0
  | some q =>
    show 0 ≤ findZ (codeZ σ) q
    rcases plc_get σ.ls 0 _ i q hq with h1 | ⟨a, x, c, e1, e2, e3, e4⟩
    · rw [List.getElem?_replicate] at h1
      split at h1
      · cases h1; exact h0
      · cases h1
    · have hb := h.behind e1 e2
      have := cod_st (placesZ σ) (a ++ [x]) c 0 hb
      rw [List.append_assoc, List.singleton_append, ← e1] at this
      refine find_at ?_
      obtain ⟨z, hz1, hz2⟩ := this
      refine ⟨z, hz1, ?_⟩
      rw [hz2, e4, szs_append]
      simp [szs, e2]
theorem place_small {σ : SG} (h : szs σ.ls ≤ 1000) (i : Nat) : 0 ≤ ((placesZ σ)[i]?).getD 0 ∧ ((placesZ σ)[i]?).getD 0 ≤ 1000 := by
  cases hq : (placesZ σ)[i]? with
  | none => exact ⟨Int.le_refl 0, by decide⟩
  | some q =>
    show 0 ≤ q ∧ q ≤ 1000
    rcases plc_get σ.ls 0 _ i q hq with h1 | ⟨a, x, c, e1, e2, e3, e4⟩
    · rw [List.getElem?_replicate] at h1
      split at h1
      · cases h1; omega
      · cases h1
    · have : szs a ≤ szs σ.ls := by rw [e1, szs_append]; omega
      omega
theorem fits_pl {op a b : Int} (p : Int) (h6 : kd op ≠ 6) : fitsB ⟨p, op, a, b⟩ = fitsB ⟨0, op, a, b⟩ := by
  unfold fitsB
  dsimp only
  split <;> first | rfl | (rename_i h; exact absurd h h6)
theorem cod_enc (ps : List Int) (hps : ∀ i : Nat, 0 ≤ (ps[i]?).getD 0 ∧ (ps[i]?).getD 0 ≤ 1000) : ∀ (ls : List LN) (p : Nat) (out : List Int), (∀ x ∈ ls, LOk x) → out.length = p → p + szs ls ≤ 1000 → ∃ b, encL (cod ps ls (p : Int)) out = (b, 0)
  | [], p, out, _, ho, hp => ⟨out, by
    unfold cod encL
    rw [if_neg (by simp [szs] at hp; omega)]⟩
  | x :: r, p, out, hl, ho, hp => by
    have hx := hl x (by simp)
    have hr : ∀ y ∈ r, LOk y := fun y hy => hl y (by simp [hy])
    rw [cod_cons]
    simp only [szs] at hp
    rcases hx with ⟨h1, h2⟩ | ⟨h1, h2, h3, h4, h5⟩ | ⟨h1, h2, h3, h4, h5⟩
    · rw [if_pos h1] at hp ⊢
      exact cod_enc ps hps r p out hr ho (by omega)
    · rw [if_neg (by omega)] at hp
      rw [if_neg (by omega), if_neg (by omega)]
      unfold encL
      rw [if_neg h3, if_neg (by simp [ho]), if_neg (by rw [fits_pl _ h4, h5]; decide)]
      have := cod_enc ps hps r (p + sz x.op) (out ++ oneB ⟨(p : Int), x.op, x.a, x.b⟩) hr (by rw [List.length_append, one_len _ h3, ho]) (by omega)
      rw [Int.natCast_add] at this
      exact this
    · have hk : kd x.op ≠ 0 := by rw [h3]; decide
      rw [if_neg (by omega)] at hp
      rw [if_neg (by omega), if_pos h2]
      unfold encL
      have hq := hps x.lb.toNat
      rw [if_neg hk, if_neg (by simp [ho]), if_neg (by
        unfold fitsB
        dsimp only
        rw [h3]
        simp only [decide_eq_false_iff_not, Classical.not_not]
        exact ⟨h5, by omega, by omega⟩)]
      have := cod_enc ps hps r (p + sz x.op) (out ++ oneB ⟨(p : Int), x.op, (ps[x.lb.toNat]?).getD 0, x.b⟩) hr (by rw [List.length_append, one_len _ hk, ho]) (by omega)
      rw [Int.natCast_add] at this
      exact this
theorem made_szs {pool : List CD} {σ : SG} (h : Made pool σ) : szs σ.ls ≤ 390 := by
  have h1 := szs_le σ.ls
  have h2 := h.ins
  unfold SG.ins at h2
  omega
theorem made_back {pool : List CD} {σ : SG} (h : Made pool σ) : decZ5 (encL (codeZ σ) []).1 = (codeZ σ, 0, 0) := by
  have hs := made_szs h
  obtain ⟨b, hb⟩ := cod_enc (placesZ σ) (fun i => place_small (by omega) i) σ.ls 0 [] (fun x hx => (h.good.ls x hx).1) rfl (by omega)
  have hb' : encL (codeZ σ) [] = (b, 0) := hb
  rw [hb']
  exact back2 _ _ hb'
theorem body_ended {k : BK} {pool : List CD} {σ : SG} (h : BodyIs k pool σ) : Ended σ := by
  obtain ⟨σ1, _, h2⟩ := h
  split at h2
  · obtain ⟨σ2, _, rfl⟩ := h2
    exact ⟨σ2.ls, _, rfl, by decide⟩
  · subst h2
    exact ⟨σ1.ls, _, rfl, by decide⟩
theorem code_pos {σ : SG} (h : Ended σ) : 0 < (codeZ σ).length := by
  obtain ⟨z, hz, _⟩ := cod_st (placesZ σ) [] σ.ls 0 h.some
  have hz' : z ∈ codeZ σ := by simpa [codeZ] using hz
  exact List.length_pos_of_mem hz'
theorem hands_stand {σ : SG} (h : Ended σ) : ∀ x ∈ handsZ σ, 0 ≤ findZ (codeZ σ) x.f ∧ 0 ≤ findZ (codeZ σ) x.t ∧ 0 ≤ findZ (codeZ σ) x.a := fun x hx => by
  unfold handsZ at hx
  obtain ⟨t, _, rfl⟩ := List.mem_map.1 hx
  exact ⟨stands_at h _, stands_at h _, stands_at h _⟩
end Go.Proofs.Ytbmfkbgncjldjab.M
