/- Texts MB MT MU MV MC. -/
import Derived.Test.YtbmfkbgncjldjaaBv06
import Derived.Deep.RegionHeld3
namespace Go.Proofs.Ytbmfkbgncjldjaa.M
open Go.RowKit

structure MkB (n d : Nat) (pl : Bool) (s : MS) : Prop where
  dep : s.depth = d
  pln : s.plain = pl
  lb : s.labels ≤ n
  ln : s.ls.length ≤ n
  pn : s.pool.length ≤ n
  hn : s.hs.length ≤ n
  tn : s.ts.length ≤ n
  l0 : -(n : Int) ≤ s.left
  l1 : s.left ≤ 110
  small : ∀ x ∈ s.pool, P3.CD.Ok x
def Mk (B pr pm n d : Nat) (pl : Bool) (σ : SG) (w : World) : Prop := ∃ s, MkP B pr pm s w ∧ MkB n d pl s ∧ s.sg = σ
theorem MkB.mono {n n' d : Nat} {pl : Bool} {s : MS} (h : MkB n d pl s) (hn : n ≤ n') : MkB n' d pl s :=
  ⟨h.dep, h.pln, by have := h.lb; omega, by have := h.ln; omega, by have := h.pn; omega, by have := h.hn; omega, by have := h.tn; omega, by have := h.l0; omega, h.l1, h.small⟩
theorem Mk.mono {B pr pm n n' d : Nat} {pl : Bool} {σ : SG} {w : World} (h : Mk B pr pm n d pl σ w) (hn : n ≤ n') : Mk B pr pm n' d pl σ w := by
  obtain ⟨s, h1, h2, h3⟩ := h
  exact ⟨s, h1, h2.mono hn, h3⟩
theorem Mk.below {B pr pm n d : Nat} {pl : Bool} {σ : SG} {w w' : World} (h : Mk B pr pm n d pl σ w) (hb : Below w.heap.size w w') : Mk B pr pm n d pl σ w' := by
  obtain ⟨s, h1, h2⟩ := h
  exact ⟨s, h1.below hb, h2⟩
theorem Mk.kq {B pr pm n d : Nat} {pl : Bool} {σ : SG} {w w' : World} (h : Mk B pr pm n d pl σ w) (hb : Below w.heap.size w w') : Kq B pr w w' := by
  obtain ⟨s, h1, -⟩ := h
  exact Kq.of_below hb h1.lt.2

def OnlyB (pr : Nat) (w w' : World) : Prop := ∀ k, k ≠ pr → w'.heap[k]? = w.heap[k]?
theorem MkP.drewS {B pr pm : Nat} {s : MS} {w : World} {x : Addr} {u : Value} (h : MkP B pr pm s (w.setCell x u)) (q : Nat) : MkP B pr pm s ((w.drewN q).setCell x u) := ⟨h.blk, h.rec_, h.rl, h.p, h.l, h.h, h.t, h.hpm, h.hpr, h.at_le⟩
theorem Kq.drewS {B pr : Nat} {w w' : World} {x : Addr} {u : Value} (h : Kq B pr w (w'.setCell x u)) (q : Nat) : Kq B pr w ((w'.drewN q).setCell x u) := ⟨h.os, h.tape, h.output, h.size, h.block⟩
theorem MkP.took {B pr pm : Nat} {s : MS} {w : World} (h : MkP B pr pm s w) (hlt : s.at_ < s.rl.length) : MkP B pr pm { s with at_ := s.at_ + 1 } (w.setCell ⟨pr, 1, none⟩ (.int .i64 ((s.at_ : Int) + 1))) := by
  have S : ∀ T, T ≠ 113 → Same T w (w.setCell ⟨pr, 1, none⟩ (.int .i64 ((s.at_ : Int) + 1))) := fun T hT => Same.of_set h.rec_ hT
  refine ⟨S 128 (by decide) _ _ h.blk, ?_, h.rl.kq ((Kq.refl B pr w).set (.inr rfl)), own_same h.p (S 153 (by decide)), own_same h.l (S 148 (by decide)), own_same h.h (S 159 (by decide)), own_same h.t (S 3 (by decide)), h.hpm, h.hpr, hlt⟩
  rw [set_row h.rec_]
  simp
set_option maxRecDepth 8000 in
set_option maxHeartbeats 2000000 in
theorem take_any (B pr pm n d : Nat) (pl : Bool) (σ : SG) (k : Nat) (w : World) (h : Mk B pr pm n d pl σ w) (hk : 0 < k) (hk2 : k ≤ 100000) :
    Calls Try.prog 69 #[.pointer (some ⟨pr, 0, none⟩), .int .i64 (k : Int)] w fun e w' => (∃ x : Nat, x < k ∧ e = .returned (.int .i64 (x : Int))) ∧ Mk B pr pm n d pl σ w' ∧ Kq B pr w w' ∧ OnlyB pr w w' := by
  obtain ⟨s, HP, HB, hsg⟩ := h
  have HSG := hidIt hsg
  clear hsg
  have c0 := cell_row HP.rec_ 0 rfl
  have c1 := cell_row HP.rec_ 1 rfl
  have hal := HP.at_le
  obtain ⟨ao, cap, hvr, hc, hm, hrg, hl⟩ := HP.rl
  rw [hvr] at c0
  unfold maxLen at hm
  have f0 := frozen_row HP.rec_
  have hk' : ¬ (k : Int) = 0 := by omega
  have HREC : Hid (∀ u, MkP B pr pm { s with at_ := s.at_ + 1 } (w.setCell ⟨pr, 1, none⟩ u) ∨ True) := fun _ => .inr trivial
  by_cases hlt : s.at_ < s.rl.length
  · obtain ⟨x, hx⟩ : ∃ x, s.rl[s.at_]? = some x := ⟨s.rl[s.at_], List.getElem?_eq_getElem hlt⟩
    have hlt' : (s.at_ : Int) < (s.rl.length : Int) := by omega
    obtain ⟨g, off, rfl, hg, hgp, hcl⟩ : ∃ g off, ao = some ⟨g, off, none⟩ ∧ g < B ∧ g < pr ∧ ∀ j x, s.rl[j]? = some x → w.cell? ⟨g, off + j, none⟩ = some (.int .i64 x) := by
      rcases hl with h | h
      · rw [h] at hlt; simp at hlt
      · exact h
    have cx := hcl s.at_ x hx
    have HT := hidIt (HP.took hlt)
    have HBB := hidIt HB
    obtain ⟨r0, r1⟩ := hrg x (List.mem_of_getElem? hx)
    have HK1 := hidIt ((Kq.refl B pr w).set (o := 1) (u := .int .i64 ((s.at_ : Int) + 1)) (.inr rfl))
    clear hl hcl HREC hrg hx
    by_cases hneg : x < 0
    · have t0 := Int.emod_nonneg (-(x + 1)) (b := (k : Int)) (by omega)
      have t1 := Int.emod_lt_of_pos (-(x + 1)) (b := (k : Int)) (by omega)
      go_enter Try.func69, Try.ntmps69
      go_wp2
      go_quiet (fail)
      go_wp2
      go_quiet (fail)
      go_wp2
      go_ret
      refine ⟨⟨((-(x + 1)) % (k : Int)).toNat, by omega, ret_int ?_⟩, ⟨_, HT.out.drewS _, ?_⟩, HK1.out.drewS _, fun k hk => Below.heap_setCell _ _ _ _ hk⟩
      · rw [Int.toNat_of_nonneg t0, ← Int.neg_tmod, Int.tmod_eq_emod_of_nonneg (by omega)]
      · exact ⟨⟨HBB.out.dep, HBB.out.pln, HBB.out.lb, HBB.out.ln, HBB.out.pn, HBB.out.hn, HBB.out.tn, HBB.out.l0, HBB.out.l1, HBB.out.small⟩, HSG.out⟩
    · have t0 := Int.emod_nonneg x (b := (k : Int)) (by omega)
      have t1 := Int.emod_lt_of_pos x (b := (k : Int)) (by omega)
      go_enter Try.func69, Try.ntmps69
      go_wp2
      go_quiet (fail)
      go_wp2
      go_quiet (fail)
      go_wp2
      go_ret
      refine ⟨⟨(x % (k : Int)).toNat, by omega, ret_int ?_⟩, ⟨_, HT.out.drewS _, ?_⟩, HK1.out.drewS _, fun k hk => Below.heap_setCell _ _ _ _ hk⟩
      · rw [Int.toNat_of_nonneg t0]
      · exact ⟨⟨HBB.out.dep, HBB.out.pln, HBB.out.lb, HBB.out.ln, HBB.out.pn, HBB.out.hn, HBB.out.tn, HBB.out.l0, HBB.out.l1, HBB.out.small⟩, HSG.out⟩
  · have hlt' : ¬ (s.at_ : Int) < (s.rl.length : Int) := by omega
    have HBB := hidIt HB
    clear hl hrg HREC
    go_enter Try.func69, Try.ntmps69
    go_wp2
    go_quiet (fail)
    go_wp2
    go_ret
    refine ⟨⟨0, hk, ret_int ?_⟩, ⟨_, HP.drew _, HBB.out, HSG.out⟩, (Kq.refl B pr w).drew _, fun _ _ => rfl⟩
    simp
theorem kcells {pr pm : Nat} {s : MS} {w : World} (h : w.heap[pm]? = some (.cells (mblk pr s) 128 (0, 0))) :
    w.cell? ⟨pm, 0, none⟩ = some (.pointer (some ⟨pr, 0, none⟩)) ∧ w.cell? ⟨pm, 1, none⟩ = some s.vp ∧ w.cell? ⟨pm, 2, none⟩ = some s.vl ∧ w.cell? ⟨pm, 3, none⟩ = some (.int .i64 s.labels) ∧ w.cell? ⟨pm, 4, none⟩ = some (.bool s.plain) ∧ w.cell? ⟨pm, 5, none⟩ = some (.int .i64 s.left) ∧ w.cell? ⟨pm, 6, none⟩ = some (.int .i64 s.depth) :=
  ⟨cell_row h 0 rfl, cell_row h 1 rfl, cell_row h 2 rfl, cell_row h 3 rfl, cell_row h 4 rfl, cell_row h 5 rfl, cell_row h 6 rfl⟩
set_option maxRecDepth 8000 in
set_option maxHeartbeats 2000000 in
theorem put_any (B pr pm n d : Nat) (pl : Bool) (σ : SG) (op a b : Int) (w : World) (h : Mk B pr pm n d pl σ w) (hn : n ≤ 900000) :
    Calls Try.prog 78 #[.pointer (some ⟨pm, 0, none⟩), .int .i64 op, .int .i64 a, .int .i64 b] w fun e w' => e = .returned (.tuple #[]) ∧ Mk B pr pm (n + 1) d pl (σ.put op a b) w' ∧ Kq B pr w w' := by
  obtain ⟨s, HP, HB, hsg⟩ := h
  have HSG := hidIt hsg
  clear hsg
  obtain ⟨-, -, c2, -, -, c5, -⟩ := kcells HP.blk
  have f0 := frozen_row HP.blk
  have hz := HP.lt
  have hln := HB.ln
  have L0 := HB.l0
  have L1 := HB.l1
  have HPL := hidIt (fun v1 w1 hg ho => HP.putL (o := .cells (lrow ⟨0, op, a, b, -1, -1⟩).toArray 148) (v1 := v1) (w1 := w1) (x := ⟨0, op, a, b, -1, -1⟩) hg ho)
  have hOl := HP.l
  obtain ⟨aol, capl, el⟩ := own_slice HP.l
  have HEL := hidIt el
  rw [el] at c2
  go_enter Try.func78, Try.ntmps78
  go_wp2_with (at_builtin; refine wpList_lappend rfl _ _ rfl B (.slice aol s.ls.length capl) _ _ ⟨0, op, a, b, -1, -1⟩ rfl (by rw [← HEL.out]; exact hOl) rfl (by omega) (by omega) ?_; intro v1 w1 ho1 hg1; obtain ⟨hb1, HP1, K1⟩ := HPL.out v1 w1 (by rw [HEL.out]; exact hg1) ho1; obtain ⟨-, -, q2, -, -, q5, -⟩ := kcells hb1; have qf := frozen_row hb1; obtain ⟨ao1, cap1, rfl⟩ := own_slice ho1)
  go_end0
  refine ⟨rfl, ⟨_, HP1.set (s' := { s with vl := .slice ao1 (s.ls.length + 1) cap1, ls := s.ls ++ [⟨0, op, a, b, -1, -1⟩], left := s.left - 1 }) 5 (.int .i64 (s.left - 1)) rfl rfl rfl rfl rfl rfl rfl rfl rfl rfl rfl rfl, ?_⟩, K1.set (.inl HP.hpm)⟩
  refine ⟨⟨HB.dep, HB.pln, by have := HB.lb; simp only; omega, by simp; omega, by have := HB.pn; simp only; omega, by have := HB.hn; simp only; omega, by have := HB.tn; simp only; omega, by simp only; omega, by simp only; omega, HB.small⟩, ?_⟩
  rw [← HSG.out]
  rfl
set_option maxRecDepth 8000 in
set_option maxHeartbeats 2000000 in
theorem jump_any (B pr pm n d : Nat) (pl : Bool) (σ : SG) (op : Int) (lbl : Nat) (w : World) (h : Mk B pr pm n d pl σ w) (hn : n ≤ 900000) :
    Calls Try.prog 123 #[.pointer (some ⟨pm, 0, none⟩), .int .i64 op, .int .i64 (lbl : Int)] w fun e w' => e = .returned (.tuple #[]) ∧ Mk B pr pm (n + 1) d pl (σ.jump op (lbl : Int)) w' ∧ Kq B pr w w' := by
  obtain ⟨s, HP, HB, hsg⟩ := h
  have HSG := hidIt hsg
  clear hsg
  obtain ⟨-, -, c2, -, -, c5, -⟩ := kcells HP.blk
  have f0 := frozen_row HP.blk
  have hz := HP.lt
  have hln := HB.ln
  have L0 := HB.l0
  have L1 := HB.l1
  have HPL := hidIt (fun v1 w1 hg ho => HP.putL (o := .cells (lrow ⟨0, op, 0, 0, (lbl : Int), -1⟩).toArray 148) (v1 := v1) (w1 := w1) (x := ⟨0, op, 0, 0, (lbl : Int), -1⟩) hg ho)
  have hOl := HP.l
  obtain ⟨aol, capl, el⟩ := own_slice HP.l
  have HEL := hidIt el
  rw [el] at c2
  go_enter Try.func123, Try.ntmps123
  go_wp2_with (at_builtin; refine wpList_lappend rfl _ _ rfl B (.slice aol s.ls.length capl) _ _ ⟨0, op, 0, 0, (lbl : Int), -1⟩ rfl (by rw [← HEL.out]; exact hOl) rfl (by omega) (by omega) ?_; intro v1 w1 ho1 hg1; obtain ⟨hb1, HP1, K1⟩ := HPL.out v1 w1 (by rw [HEL.out]; exact hg1) ho1; obtain ⟨-, -, q2, -, -, q5, -⟩ := kcells hb1; have qf := frozen_row hb1; obtain ⟨ao1, cap1, rfl⟩ := own_slice ho1)
  go_end0
  refine ⟨rfl, ⟨_, HP1.set (s' := { s with vl := .slice ao1 (s.ls.length + 1) cap1, ls := s.ls ++ [⟨0, op, 0, 0, (lbl : Int), -1⟩], left := s.left - 1 }) 5 (.int .i64 (s.left - 1)) rfl rfl rfl rfl rfl rfl rfl rfl rfl rfl rfl rfl, ?_⟩, K1.set (.inl HP.hpm)⟩
  refine ⟨⟨HB.dep, HB.pln, by have := HB.lb; simp only; omega, by simp; omega, by have := HB.pn; simp only; omega, by have := HB.hn; simp only; omega, by have := HB.tn; simp only; omega, by simp only; omega, by simp only; omega, HB.small⟩, ?_⟩
  rw [← HSG.out]
  rfl
set_option maxRecDepth 8000 in
set_option maxHeartbeats 2000000 in
theorem here_any (B pr pm n d : Nat) (pl : Bool) (σ : SG) (lbl : Nat) (w : World) (h : Mk B pr pm n d pl σ w) (hn : n ≤ 900000) :
    Calls Try.prog 124 #[.pointer (some ⟨pm, 0, none⟩), .int .i64 (lbl : Int)] w fun e w' => e = .returned (.tuple #[]) ∧ Mk B pr pm (n + 1) d pl (σ.here (lbl : Int)) w' ∧ Kq B pr w w' := by
  obtain ⟨s, HP, HB, hsg⟩ := h
  have HSG := hidIt hsg
  clear hsg
  obtain ⟨-, -, c2, -, -, c5, -⟩ := kcells HP.blk
  have f0 := frozen_row HP.blk
  have hz := HP.lt
  have hln := HB.ln
  have L0 := HB.l0
  have L1 := HB.l1
  have HPL := hidIt (fun v1 w1 hg ho => HP.putL (o := .cells (lrow ⟨0, -1, 0, 0, -1, (lbl : Int)⟩).toArray 148) (v1 := v1) (w1 := w1) (x := ⟨0, -1, 0, 0, -1, (lbl : Int)⟩) hg ho)
  have hOl := HP.l
  obtain ⟨aol, capl, el⟩ := own_slice HP.l
  have HEL := hidIt el
  rw [el] at c2
  go_enter Try.func124, Try.ntmps124
  go_wp2_with (at_builtin; refine wpList_lappend rfl _ _ rfl B (.slice aol s.ls.length capl) _ _ ⟨0, -1, 0, 0, -1, (lbl : Int)⟩ rfl (by rw [← HEL.out]; exact hOl) rfl (by omega) (by omega) ?_; intro v1 w1 ho1 hg1; obtain ⟨hb1, HP1, K1⟩ := HPL.out v1 w1 (by rw [HEL.out]; exact hg1) ho1; obtain ⟨-, -, q2, -, -, q5, -⟩ := kcells hb1; have qf := frozen_row hb1; obtain ⟨ao1, cap1, rfl⟩ := own_slice ho1)
  go_end0
  refine ⟨rfl, ⟨_, HP1, ?_⟩, K1⟩
  refine ⟨⟨HB.dep, HB.pln, by have := HB.lb; simp only; omega, by simp; omega, by have := HB.pn; simp only; omega, by have := HB.hn; simp only; omega, by have := HB.tn; simp only; omega, by simp only; omega, by simp only; omega, HB.small⟩, ?_⟩
  rw [← HSG.out]
  rfl
set_option maxRecDepth 8000 in
set_option maxHeartbeats 2000000 in
theorem mark_any (B pr pm n d : Nat) (pl : Bool) (σ : SG) (w : World) (h : Mk B pr pm n d pl σ w) (hn : n ≤ 900000) :
    Calls Try.prog 122 #[.pointer (some ⟨pm, 0, none⟩)] w fun e w' => e = .returned (.int .i64 (σ.labels : Int)) ∧ Mk B pr pm (n + 1) d pl σ.mark w' ∧ Kq B pr w w' := by
  obtain ⟨s, HP, HB, hsg⟩ := h
  have HSG := hidIt hsg
  clear hsg
  obtain ⟨-, -, -, c3, -, -, -⟩ := kcells HP.blk
  have f0 := frozen_row HP.blk
  have hlb := HB.lb
  go_enter Try.func122, Try.ntmps122
  go_wp2
  go_ret
  refine ⟨ret_int (by rw [← HSG.out]; show _ = ((s.labels : Nat) : Int); omega), ⟨_, HP.set (s' := { s with labels := s.labels + 1 }) 3 (.int .i64 ((s.labels : Int) + 1)) (by simp [mblk]) rfl rfl rfl rfl rfl rfl rfl rfl rfl rfl rfl, ?_⟩, (Kq.refl B pr w).set (.inl HP.hpm)⟩
  refine ⟨⟨HB.dep, HB.pln, by simp only; omega, by have := HB.ln; simp only; omega, by have := HB.pn; simp only; omega, by have := HB.hn; simp only; omega, by have := HB.tn; simp only; omega, by have := HB.l0; simp only; omega, HB.l1, HB.small⟩, ?_⟩
  rw [← HSG.out]
  rfl
end Go.Proofs.Ytbmfkbgncjldjaa.M
namespace Go.Proofs.Ytbmfkbgncjldjaa.M
open Go.RowKit
theorem own_int {w : World} {B : Nat} {v : Value} {l : List Int} (h : w.ownsRow B 3 1 v l.length (ncells l)) {j : Nat} {x : Int} (hj : l[j]? = some x) :
    ∃ g cap, v = .slice (some ⟨g, 0, none⟩) l.length cap ∧ w.cell? ⟨g, j, none⟩ = some (.int .i64 x) := by
  have hlt := (List.getElem?_eq_some_iff.1 hj).1
  rcases h.2 with ⟨rfl, h0⟩ | ⟨g, cap, cur, rfl, _, hg, h1, h2, h3, h4⟩
  · rw [h0] at hlt; simp at hlt
  · refine ⟨g, cap, rfl, cell_row hg j ?_⟩
    rw [← Array.getElem?_toList]
    have e : (cur.toList.take (l.length * 1))[j]? = (ncells l)[j]? := by rw [h4]
    rw [List.getElem?_take, if_pos (by omega)] at e
    rw [e]
    simp [ncells, hj]
def isIn (l : List Int) (x : Int) : Bool := l.any (· == x)
theorem isIn_drop {l : List Int} {x y : Int} {k : Nat} (h : l[k]? = some y) (hn : y ≠ x) : isIn (l.drop k) x = isIn (l.drop (k + 1)) x := by
  obtain ⟨hk, e⟩ := List.getElem?_eq_some_iff.1 h
  subst e
  unfold isIn
  rw [List.drop_eq_getElem_cons hk, List.any_cons, beq_false_of_ne hn, Bool.false_or]
theorem isIn_hit {l : List Int} {x : Int} {k : Nat} (h : l[k]? = some x) : isIn (l.drop k) x = true := by
  obtain ⟨hk, e⟩ := List.getElem?_eq_some_iff.1 h
  subst e
  unfold isIn
  rw [List.drop_eq_getElem_cons hk, List.any_cons, beq_self_eq_true, Bool.true_or]
set_option maxRecDepth 8000 in
set_option maxHeartbeats 4000000 in
theorem caught_any (B pr pm n d : Nat) (pl : Bool) (σ : SG) (lbl : Int) (w : World) (h : Mk B pr pm n d pl σ w) (hn : n ≤ 900000) :
    Calls Try.prog 105 #[.pointer (some ⟨pm, 0, none⟩), .int .i64 lbl] w fun e w' => e = .returned (.bool (isIn σ.ts lbl)) ∧ w' = w := by
  obtain ⟨s, HP, HB, hsg⟩ := h
  have HA0 : Hid (isIn (s.ts.drop 0) lbl = isIn σ.ts lbl) := by show _ = _; rw [← hsg]; rfl
  clear hsg
  generalize isIn σ.ts lbl = AN at *
  have c8 := cell_row HP.blk 8 (v := s.vt) rfl
  have htn := HB.tn
  have HO := hidIt HP.t
  obtain ⟨ao, cap, el⟩ := own_slice HP.t
  have HEL := hidIt el
  rw [el] at c8
  have hlen : (s.ts.length : Int) ≤ 900000 := by omega
  clear HP HB el
  go_enter Try.func105, Try.ntmps105
  go_wp2
  go_loopw [5] (fun i_ wr => ∃ j : Nat, i_ = .int .i64 (j : Int) ∧ j ≤ s.ts.length ∧ wr = w ∧ isIn (s.ts.drop j) lbl = AN) (fun i_ _ => s.ts.length - (intOf i_).toNat)
  case atStart =>
    exact ⟨0, by go_num, by omega, rfl, HA0.out⟩
  case round =>
    obtain ⟨j, rfl, hj, hww, hA⟩ := hrel
    cases hww
    have HA := hidIt hA
    clear hA HA0
    by_cases hlt : j < s.ts.length
    · have hlt' : (j : Int) < (s.ts.length : Int) := by omega
      obtain ⟨x, hx⟩ : ∃ x, s.ts[j]? = some x := ⟨s.ts[j], List.getElem?_eq_getElem hlt⟩
      obtain ⟨g, cap', ev, cx⟩ := own_int HO.out hx
      rw [HEL.out] at ev
      cases ev
      have HX := hidIt hx
      clear hx
      by_cases he : x = lbl
      · subst he
        go_wp2
        go_ret
        exact ⟨by rw [← HA.out, isIn_hit HX.out]; rfl, rfl⟩
      · have HE := hidIt he
        go_wp2
        exact ⟨⟨j + 1, by go_num, by omega, by first | rfl | trivial, by rw [← isIn_drop HX.out HE.out]; exact HA.out⟩, by simp [intOf]; omega⟩
    · have hlt' : ¬ (j : Int) < (s.ts.length : Int) := by omega
      obtain rfl : j = s.ts.length := by omega
      have HA2 : Hid (false = AN) := by show _ = _; rw [← HA.out, List.drop_length]; rfl
      go_wp2
      go_ret
      exact ⟨by rw [← HA2.out]; rfl, rfl⟩
end Go.Proofs.Ytbmfkbgncjldjaa.M
namespace Go.Proofs.Ytbmfkbgncjldjaa.M
open Go.RowKit
structure FM where
  at_ : Int
  lc : Value
  st : Value
  o1 : lc.oneCell' = true
  o2 : st.oneCell' = true
def frow (x : FM) : List Value := [.int .i64 x.at_, x.lc, x.st]
def fcells (l : List FM) : List Value := l.flatMap frow
theorem fcells_append (a b : List FM) : fcells (a ++ b) = fcells a ++ fcells b := by simp [fcells]
theorem fcells_at : ∀ (l : List FM) (j : Nat) (x : FM), l[j]? = some x → (fcells l)[j * 3]? = some (.int .i64 x.at_)
  | [], _, _, h => by simp at h
  | y :: l, 0, x, h => by simp at h; subst h; simp [fcells, frow]
  | y :: l, j + 1, x, h => by
    have := fcells_at l j x (by simpa using h)
    rw [show (j + 1) * 3 = j * 3 + 3 from by omega]
    simpa [fcells, frow] using this
theorem own_frame {w : World} {B : Nat} {v : Value} {l : List FM} (h : w.ownsRow B 84 3 v l.length (fcells l)) {j : Nat} {x : FM} (hj : l[j]? = some x) :
    ∃ g cap, v = .slice (some ⟨g, 0, none⟩) l.length cap ∧ g < w.heap.size ∧ w.cell? ⟨g, j * 3, none⟩ = some (.int .i64 x.at_) := by
  have hlt := (List.getElem?_eq_some_iff.1 hj).1
  rcases h.2 with ⟨rfl, h0⟩ | ⟨g, cap, cur, rfl, _, hg, h1, h2, h3, h4⟩
  · rw [h0] at hlt; simp at hlt
  · refine ⟨g, cap, rfl, (Array.getElem?_eq_some_iff.1 hg).1, cell_row hg _ ?_⟩
    rw [← Array.getElem?_toList]
    have e : (cur.toList.take (l.length * 3))[j * 3]? = (fcells l)[j * 3]? := by rw [h4]
    rw [List.getElem?_take, if_pos (by omega)] at e
    rw [e]
    exact fcells_at l j x hj
theorem Try.info84x : (Try.prog.info? 84).map (fun i => (i.zero, i.size, i.bytes)) = some (some (.agg #[.int .i64 0, .slice none 0 0, .slice none 0 0]), 3, 56) := by kernel_rfl
theorem frow_one (x : FM) : ∀ u ∈ frow x, u.oneCell' = true := by
  intro u hu
  simp [frow] at hu
  rcases hu with rfl | rfl | rfl
  · rfl
  · exact x.o1
  · exact x.o2
theorem frame_append {w : World} {ops : Array Oper} {rest : List Oper} {o : Oper} {a : Act} {Q : Exit → Act → World → Prop} (hgd : o.guard = none) (s x : Operand)
    (ho : o.op = .call { callee := .builtin .append, args := #[s, x], argTypes := #[32, 32] })
    (B : Nat) (v : Value) (n : Nat) (xs : List Value) (y : FM) (hs : a.eval s = v) (hown : w.ownsRow B 84 3 v n xs) (hx : a.eval x = .slice (some ⟨w.heap.size, 0, none⟩) 1 1)
    (hlen : n ≤ 1000000) (hB : B ≤ w.heap.size)
    (h : ∀ v' w', w'.ownsRow B 84 3 v' (n + 1) (xs ++ frow y) → (w.alloc (.cells (frow y).toArray 84)).grownBy w' v.ownBlock → wpList Try.prog ops Q rest (a.put o.dst v') w') :
    wpList Try.prog ops Q (o :: rest) a (w.alloc (.cells (frow y).toArray 84)) := by
  obtain ⟨i0, hi, hz0, hz1, hz2⟩ := info_parts Try.info84x
  refine wpList_plain hgd fun K hK => ?_
  have hown' : (w.alloc (.cells (frow y).toArray 84)).ownsRow B 84 3 v n xs := own_same hown (Same.of_below (below_alloc w _))
  obtain ⟨v', w', hr, h2, h3, _, h4⟩ := run_append_own_at (P := Try.prog) (w.alloc (.cells (frow y).toArray 84)) B 32 o.type 84 i0 _ 3 56 Try.underlying32 hi hz0 hz1 hz2 rfl (by decide) v n xs hown' ⟨w.heap.size, 0, none⟩ 1 1 (frow y) rfl
    (fun j u hj => by
      have e : (⟨w.heap.size, 0, none⟩ : Addr).add j = ⟨w.heap.size, j, none⟩ := by unfold Addr.add; split <;> simp_all
      rw [e]
      exact cell_row (heap_alloc_new w _) j (by simpa using hj)) (frow_one y) (by unfold maxLen; omega) (by omega) (by simp; omega)
  unfold Oper.wp execOp
  simp only [ho, resolve, invoke, builtin, Sem.run_bind, Sem.run_pure, Result.andThen_ok, List.map_toArray, List.map_cons, List.map_nil, hs, hx, hr]
  exact hK _ _ (h v' w' h2 h3)
end Go.Proofs.Ytbmfkbgncjldjaa.M
namespace Go.Proofs.Ytbmfkbgncjldjaa.M
open Go.RowKit
def sThr : Obj := .cells #[.string ⟨#[76, 84, 104, 114, 111, 119, 97, 98, 108, 101, 59]⟩] 9 (0, 0)
def FIs (at_ : Int) (lc : Value) (b : Bool) (w : World) (y : FM) : Prop := y.at_ = at_ ∧ y.lc = lc ∧ if b then ∃ g, y.st = .slice (some ⟨g, 0, none⟩) 1 1 ∧ w.heap[g]? = some sThr else y.st = .slice none 0 0
def FrameQ (B pr : Nat) (fs : List FM) (at_ : Int) (lc : Value) (b : Bool) (w : World) (e : Ending) (w' : World) : Prop := ∃ v' fs', e = .returned v' ∧ w'.ownsRow B 84 3 v' fs'.length (fcells fs') ∧ ((fs' = fs ∧ ∃ x, fs[fs.length - 1]? = some x ∧ x.at_ = at_) ∨ (∃ y, fs' = fs ++ [y] ∧ FIs at_ lc b w' y ∧ ∀ x, fs[fs.length - 1]? = some x → x.at_ ≠ at_)) ∧ Kq B pr w w' ∧ ∀ T, T ≠ 84 → Same T w w'
theorem below_set {B k o : Nat} {w W : World} {u : Value} (h : Below B w W) (hk : B ≤ k) : Below B w (W.setCell ⟨k, o, none⟩ u) :=
  ⟨h.os, h.tape, h.output, by have := h.size; simpa using this, fun i hi => by rw [Below.heap_setCell _ _ _ _ (by show i ≠ k; omega)]; exact h.block i hi⟩
theorem frame_more {B pr : Nat} {v v1 : Value} {fs : List FM} {y : FM} {w w0 w1 : World} {e : Ending} {at_ : Int} {lc : Value} {b : Bool} (hown : w.ownsRow B 84 3 v fs.length (fcells fs)) (hB : B ≤ w.heap.size) (hb : Below w.heap.size w w0)
    (ho : w1.ownsRow B 84 3 v1 (fs.length + 1) (fcells fs ++ frow y)) (hg : (w0.alloc (.cells (frow y).toArray 84)).grownBy w1 v.ownBlock) (he : e = .returned v1) (hF : FIs at_ lc b w1 y) (hl : ∀ x, fs[fs.length - 1]? = some x → x.at_ ≠ at_) : FrameQ B pr fs at_ lc b w e w1 := by
  have hz := hb.size
  have hb2 : Below w.heap.size w (w0.alloc (.cells (frow y).toArray 84)) := hb.alloc hz _
  have own2 := own_same hown (Same.of_below (T := 84) hb2)
  refine ⟨v1, fs ++ [y], he, ?_, .inr ⟨y, rfl, hF, hl⟩, ?_, fun T hT => (Same.of_below hb2).trans (Same.of_grown own2 hg hT)⟩
  · rw [fcells_append, List.length_append]
    simpa [fcells] using ho
  · exact (Kq.of_below hb2 hB).grown hg (by simp; omega) (fun k e => (own2.lt k e).1)
theorem frame_less {B pr : Nat} {v : Value} {fs : List FM} {w w0 : World} {e : Ending} {at_ : Int} {lc : Value} {b : Bool} (hown : w.ownsRow B 84 3 v fs.length (fcells fs)) (hB : B ≤ w.heap.size) (hb : Below w.heap.size w w0) (he : e = .returned v) (hl : ∃ x, fs[fs.length - 1]? = some x ∧ x.at_ = at_) : FrameQ B pr fs at_ lc b w e w0 :=
  ⟨v, fs, he, own_same hown (Same.of_below hb), .inl ⟨rfl, hl⟩, Kq.of_below hb hB, fun _ _ => Same.of_below hb⟩
theorem FIs.no {at_ : Int} {lc : Value} {w : World} {h1 : lc.oneCell' = true} {h2 : (Value.slice none 0 0).oneCell' = true} : FIs at_ lc false w ⟨at_, lc, .slice none 0 0, h1, h2⟩ := ⟨rfl, rfl, by simp⟩
theorem FIs.yes {at_ : Int} {lc : Value} {w : World} {g : Nat} {h1 : lc.oneCell' = true} {h2 : (Value.slice (some ⟨g, 0, none⟩) 1 1).oneCell' = true} (h : w.heap[g]? = some sThr) : FIs at_ lc true w ⟨at_, lc, .slice (some ⟨g, 0, none⟩) 1 1, h1, h2⟩ := ⟨rfl, rfl, by rw [if_pos rfl]; exact ⟨g, rfl, h⟩⟩
theorem stThr {B : Nat} {w w1 : World} {v : Value} {m : Nat} {xs : List Value} {al : Option Addr} {nl cl : Nat} {at_ : Int} {o : Obj} (hown : w.ownsRow B 84 3 v m xs)
    (hg : ((((w.alloc (.cells #[.int .i64 at_, .slice al nl cl, .slice (some ⟨w.heap.size + 1, 0, none⟩) 1 1] 84)).alloc (.cells #[.string ⟨#[76, 84, 104, 114, 111, 119, 97, 98, 108, 101, 59]⟩] 9))).alloc o).grownBy w1 v.ownBlock) : w1.heap[w.heap.size + 1]? = some sThr := by
  rw [hg.block (w.heap.size + 1) (by simp) ?_, (below_alloc _ _).block _ (by simp)]
  · have := heap_alloc_new (w.alloc (.cells #[.int .i64 at_, .slice al nl cl, .slice (some ⟨w.heap.size + 1, 0, none⟩) 1 1] 84)) (.cells #[.string ⟨#[76, 84, 104, 114, 111, 119, 97, 98, 108, 101, 59]⟩] 9)
    simpa [sThr] using this
  · intro e
    have := (hown.lt _ e.symm).2
    omega
set_option maxRecDepth 8000 in
set_option maxHeartbeats 8000000 in
theorem frame_any (B pr : Nat) (v : Value) (fs : List FM) (at_ : Int) (al : Option Addr) (nl cl : Nat) (b : Bool) (w : World) (hown : w.ownsRow B 84 3 v fs.length (fcells fs)) (hn : fs.length ≤ 100000) (hB : B ≤ w.heap.size) :
    Calls Try.prog 104 #[v, .int .i64 at_, .slice al nl cl, .bool b] w fun e w' => FrameQ B pr fs at_ (.slice al nl cl) b w e w' := by
  obtain ⟨ao, cap, el⟩ := own_slice hown
  subst el
  have HO := hidIt hown
  clear hown
  have hlen : (fs.length : Int) ≤ 100000 := by omega
  have HB1 := hidIt (below_alloc w (.cells #[.int .i64 at_, .slice al nl cl, .slice none 0 0] 84))
  have HB2 := hidIt ((below_alloc w (.cells #[.int .i64 at_, .slice al nl cl, .slice (some ⟨w.heap.size + 1, 0, none⟩) 1 1] 84)).alloc (by simp) (.cells #[.string ⟨#[76, 84, 104, 114, 111, 119, 97, 98, 108, 101, 59]⟩] 9))
  by_cases h0 : (0 : Int) < (fs.length : Int)
  · obtain ⟨x, hx⟩ : ∃ x, fs[fs.length - 1]? = some x := ⟨fs[fs.length - 1]'(by omega), List.getElem?_eq_getElem (by omega)⟩
    obtain ⟨g, cap', ev, hgl, cx⟩ := own_frame HO.out hx
    cases ev
    have HX := hidIt hx
    clear hx
    have hne : g ≠ w.heap.size := by omega
    have e3 : ((fs.length : Int) - 1).toNat * 3 = (fs.length - 1) * 3 := by omega
    by_cases he : x.at_ = at_
    all_goals have HAT := hidIt he
    · cases b
      · go_enter Try.func104, Try.ntmps104
        go_wp2
        go_ret
        exact frame_less HO.out hB HB1.out rfl ⟨x, HX.out, HAT.out⟩
      · go_enter Try.func104, Try.ntmps104
        go_wp2
        go_ret
        exact frame_less HO.out hB HB2.out rfl ⟨x, HX.out, HAT.out⟩
    · have HL : Hid (∀ y, fs[fs.length - 1]? = some y → y.at_ ≠ at_) := fun y hy => by rw [HX.out] at hy; cases hy; exact HAT.out
      cases b
      · go_enter Try.func104, Try.ntmps104
        go_wp2_with (at_builtin; refine frame_append rfl _ _ rfl B (.slice (some ⟨g, 0, none⟩) fs.length cap) _ _ ⟨at_, .slice al nl cl, .slice none 0 0, rfl, rfl⟩ rfl (own_same HO.out (Same.of_below HB1.out)) (by rw [show (w.alloc (.cells #[.int .i64 at_, .slice al nl cl, .slice none 0 0] 84)).heap.size = w.heap.size + 1 from by simp]; rfl) (by omega) (by simp; omega) ?_; intro v1 w1 ho1 hg1; have HF := hidIt (frame_more (pr := pr) (at_ := at_) (lc := .slice al nl cl) (b := false) HO.out hB HB1.out ho1 hg1 rfl FIs.no HL.out); clear ho1 hg1)
        go_ret
        exact HF.out
      · go_enter Try.func104, Try.ntmps104
        go_wp2_with (at_builtin; refine frame_append rfl _ _ rfl B (.slice (some ⟨g, 0, none⟩) fs.length cap) _ _ ⟨at_, .slice al nl cl, .slice (some ⟨w.heap.size + 1, 0, none⟩) 1 1, rfl, rfl⟩ rfl (own_same HO.out (Same.of_below HB2.out)) (by rw [show ((w.alloc (.cells #[.int .i64 at_, .slice al nl cl, .slice (some ⟨w.heap.size + 1, 0, none⟩) 1 1] 84)).alloc (.cells #[.string ⟨#[76, 84, 104, 114, 111, 119, 97, 98, 108, 101, 59]⟩] 9)).heap.size = w.heap.size + 1 + 1 from by simp]; rfl) (by omega) (by simp; omega) ?_; intro v1 w1 ho1 hg1; have HF := hidIt (frame_more (pr := pr) (at_ := at_) (lc := .slice al nl cl) (b := true) HO.out hB HB2.out ho1 hg1 rfl (FIs.yes (stThr HO.out hg1)) HL.out); clear ho1 hg1)
        go_ret
        exact HF.out
  · have HL : Hid (∀ y, fs[fs.length - 1]? = some y → y.at_ ≠ at_) := fun y hy => by have := (List.getElem?_eq_some_iff.1 hy).1; omega
    cases b
    · go_enter Try.func104, Try.ntmps104
      go_wp2_with (at_builtin; refine frame_append rfl _ _ rfl B (.slice ao fs.length cap) _ _ ⟨at_, .slice al nl cl, .slice none 0 0, rfl, rfl⟩ rfl (own_same HO.out (Same.of_below HB1.out)) (by rw [show (w.alloc (.cells #[.int .i64 at_, .slice al nl cl, .slice none 0 0] 84)).heap.size = w.heap.size + 1 from by simp]; rfl) (by omega) (by simp; omega) ?_; intro v1 w1 ho1 hg1; have HF := hidIt (frame_more (pr := pr) (at_ := at_) (lc := .slice al nl cl) (b := false) HO.out hB HB1.out ho1 hg1 rfl FIs.no HL.out); clear ho1 hg1)
      go_ret
      exact HF.out
    · go_enter Try.func104, Try.ntmps104
      go_wp2_with (at_builtin; refine frame_append rfl _ _ rfl B (.slice ao fs.length cap) _ _ ⟨at_, .slice al nl cl, .slice (some ⟨w.heap.size + 1, 0, none⟩) 1 1, rfl, rfl⟩ rfl (own_same HO.out (Same.of_below HB2.out)) (by rw [show ((w.alloc (.cells #[.int .i64 at_, .slice al nl cl, .slice (some ⟨w.heap.size + 1, 0, none⟩) 1 1] 84)).alloc (.cells #[.string ⟨#[76, 84, 104, 114, 111, 119, 97, 98, 108, 101, 59]⟩] 9)).heap.size = w.heap.size + 1 + 1 from by simp]; rfl) (by omega) (by simp; omega) ?_; intro v1 w1 ho1 hg1; have HF := hidIt (frame_more (pr := pr) (at_ := at_) (lc := .slice al nl cl) (b := true) HO.out hB HB2.out ho1 hg1 rfl (FIs.yes (stThr HO.out hg1)) HL.out); clear ho1 hg1)
      go_ret
      exact HF.out
end Go.Proofs.Ytbmfkbgncjldjaa.M
namespace Go.Proofs.Ytbmfkbgncjldjaa.M
open Go.RowKit

structure COk (c : CD) : Prop where
  ok : P3.CD.Ok c
  sm : P3.CD.Small c
theorem add_len (l : List CD) (c : CD) : (P3.addZ l c).1.length ≤ l.length + 1 := by
  unfold P3.addZ
  split
  · split
    · simp
    · split <;> simp
  · simp
theorem add_ok {l : List CD} {c : CD} (h : ∀ x ∈ l, P3.CD.Ok x) (hc : P3.CD.Ok c) : ∀ x ∈ (P3.addZ l c).1, P3.CD.Ok x := by
  unfold P3.addZ
  split
  · split
    · exact h
    · split
      · intro x hx; simp at hx
      · intro x hx
        rcases List.mem_append.1 hx with hx | hx
        · exact h x hx
        · simp at hx; subst hx; exact hc
  · intro x hx; simp at hx
theorem add_calls (B : Nat) (v : Value) (l : List CD) (c : CD) (w : World) (ho : w.ownsRow B 153 5 v l.length (ccells l)) (hl : l.length ≤ 1000000) (hc : COk c) (hs : ∀ x ∈ l, P3.CD.Ok x) :
    Calls Try.prog 119 #[v, P3.CD.val c] w fun e w' => Below w.heap.size w w' ∧ ∃ v' y, e = .returned (.tuple #[v', .int .i64 (P3.addZ l c).2.1, .int .i64 y]) ∧ w'.ownsRow w.heap.size 153 5 v' (P3.addZ l c).1.length (ccells (P3.addZ l c).1) := by
  refine (P3.radd_any v l c w (P3.CView.of_own ho hs) hc.sm (by omega)).mono fun e w' ⟨hb, v', he, ho'⟩ => ⟨hb, v', _, he, ho'⟩
theorem own_wk {w : World} {B B' n s : Nat} {T : TypeId} {v : Value} {xs : List Value} (h : w.ownsRow B T s v n xs) (hB : B' ≤ B) : w.ownsRow B' T s v n xs := by
  refine ⟨h.1, ?_⟩
  rcases h.2 with x | ⟨g, cap, cur, e, hb, r⟩
  · exact .inl x
  · exact .inr ⟨g, cap, cur, e, by omega, r⟩
theorem MkP.setP {B pr pm : Nat} {s : MS} {w : World} {v : Value} {l : List CD} (h : MkP B pr pm s w) (ho : w.ownsRow 0 153 5 v l.length (ccells l)) : MkP B pr pm { s with vp := v, pool := l } (w.setCell ⟨pm, 1, none⟩ v) := by
  have S : ∀ T, T ≠ 128 → Same T w (w.setCell ⟨pm, 1, none⟩ v) := fun T hT => Same.of_set h.blk hT
  refine ⟨by rw [set_row h.blk]; rfl, S 113 (by decide) _ _ h.rec_, h.rl.kq ((Kq.refl B pr w).set (.inl h.hpm)), own_same ho (S 153 (by decide)), own_same h.l (S 148 (by decide)), own_same h.h (S 159 (by decide)), own_same h.t (S 3 (by decide)), h.hpm, h.hpr, h.at_le⟩
set_option maxRecDepth 8000 in
set_option maxHeartbeats 2000000 in
theorem constant_any (B pr pm n d : Nat) (pl : Bool) (σ : SG) (c : CD) (w : World) (h : Mk B pr pm n d pl σ w) (hn : n ≤ 900000) (hc : COk c) :
    Calls Try.prog 99 #[.pointer (some ⟨pm, 0, none⟩), P3.CD.val c] w fun e w' => e = .returned (.int .i64 (σ.ix c)) ∧ Mk B pr pm (n + 1) d pl (σ.add c) w' ∧ Kq B pr w w' := by
  obtain ⟨s, HP0, HB, hsg⟩ := h
  have HSG := hidIt hsg
  have HIX : Hid (σ.ix c = (P3.addZ s.pool c).2.1) := by show _ = _; rw [← hsg]; rfl
  clear hsg
  generalize σ.ix c = IX at *
  have b0 := below_alloc w (.cells #[.int .i64 c.kind, .int .i32 c.n, .string c.cls, .string c.nm, .string c.dsc] 153)
  have hx := heap_alloc_new w (.cells #[.int .i64 c.kind, .int .i32 c.n, .string c.cls, .string c.nm, .string c.dsc] 153)
  have HP := HP0.below b0
  have K0 := Kq.of_below (pr := pr) b0 HP0.lt.2
  have hpn := HB.pn
  have hlt0 := HP0.lt
  clear HP0 b0
  generalize hW : w.alloc (.cells #[.int .i64 c.kind, .int .i32 c.n, .string c.cls, .string c.nm, .string c.dsc] 153) = W at *
  have HW := hidIt hW
  clear hW
  obtain ⟨-, c1, -, -, -, -, -⟩ := kcells HP.blk
  obtain ⟨aop, capp, ep⟩ := own_slice HP.p
  have GA := add_calls 0 s.vp s.pool c W.drew (own_same HP.p (Same.refl _ _)) (by omega) hc HB.small
  rw [← HIX.out] at GA
  rw [ep] at c1 GA
  unfold P3.CD.val at GA ⊢
  have HGA := hidIt GA
  have d0 := cell_row hx 0 rfl
  have d1 := cell_row hx 1 rfl
  have d2 := cell_row hx 2 rfl
  have d3 := cell_row hx 3 rfl
  have d4 := cell_row hx 4 rfl
  have hS2 : Hid (W.drew.cell? ⟨pm, 1, none⟩ = some (.slice aop s.pool.length capp) ∧ W.drew.cell? ⟨w.heap.size, 0, none⟩ = some (.int .i64 c.kind) ∧ W.drew.cell? ⟨w.heap.size, 1, none⟩ = some (.int .i32 c.n) ∧ W.drew.cell? ⟨w.heap.size, 2, none⟩ = some (.string c.cls) ∧ W.drew.cell? ⟨w.heap.size, 3, none⟩ = some (.string c.nm) ∧ W.drew.cell? ⟨w.heap.size, 4, none⟩ = some (.string c.dsc)) := ⟨c1, d0, d1, d2, d3, d4⟩
  have hS3 : Hid (∀ W3, Below W.drew.heap.size W.drew W3 → (W3.cell? ⟨pm, 1, none⟩ = some (.slice aop s.pool.length capp) ∧ W3.cell? ⟨w.heap.size, 0, none⟩ = some (.int .i64 c.kind) ∧ W3.cell? ⟨w.heap.size, 1, none⟩ = some (.int .i32 c.n) ∧ W3.cell? ⟨w.heap.size, 2, none⟩ = some (.string c.cls) ∧ W3.cell? ⟨w.heap.size, 3, none⟩ = some (.string c.nm) ∧ W3.cell? ⟨w.heap.size, 4, none⟩ = some (.string c.dsc))) := by
    intro W3 hb
    exact ⟨cell_later hb c1, cell_later hb d0, cell_later hb d1, cell_later hb d2, cell_later hb d3, cell_later hb d4⟩
  clear c1 d0 d1 d2 d3 d4 GA hx
  go_enter Try.func99, Try.ntmps99
  go_wp2_with fail
  rw [HW.out]
  go_region_held3 (fun W3 => W3.cell? ⟨pm, 1, none⟩ = some (.slice aop s.pool.length capp) ∧ W3.cell? ⟨w.heap.size, 0, none⟩ = some (.int .i64 c.kind) ∧ W3.cell? ⟨w.heap.size, 1, none⟩ = some (.int .i32 c.n) ∧ W3.cell? ⟨w.heap.size, 2, none⟩ = some (.string c.cls) ∧ W3.cell? ⟨w.heap.size, 3, none⟩ = some (.string c.nm) ∧ W3.cell? ⟨w.heap.size, 4, none⟩ = some (.string c.dsc)) (first | exact hS2.out | exact hS3.out _ (by assumption))
    (first
      | (go_at_call 119; refine HGA.out.mono ?_; rintro e w2 ⟨b2, v2, y2, rfl, o2⟩; obtain ⟨ao2, cap2, rfl⟩ := own_slice o2))
  have HP2 := (HP.drew 1).below b2
  obtain ⟨-, q1, -, -, -, -, -⟩ := kcells HP2.blk
  rw [ep] at q1
  have qf := frozen_row HP2.blk
  have hz : B ≤ W.drew.heap.size := HP.lt.2
  have HP3 := HP2.setP (own_wk o2 (Nat.zero_le _))
  have K3 := ((K0.drew 1).trans (Kq.of_below b2 hz)).set (k := pm) (o := 1) (u := .slice ao2 (P3.addZ s.pool c).1.length cap2) (.inl HP.hpm)
  go_wp2
  go_ret
  refine ⟨rfl, ⟨_, HP3, ?_⟩, K3⟩
  have hal := add_len s.pool c
  refine ⟨⟨HB.dep, HB.pln, by have := HB.lb; simp only; omega, by have := HB.ln; simp only; omega, by simp only; omega, by have := HB.hn; simp only; omega, by have := HB.tn; simp only; omega, by have := HB.l0; simp only; omega, HB.l1, add_ok HB.small hc.ok⟩, ?_⟩
  rw [← HSG.out]
  rfl
end Go.Proofs.Ytbmfkbgncjldjaa.M
