/- Reach of package flow: its function value, walked. -/
import Derived.Test.YtjbkhaafaplceaaFK
import Derived.Test.YtjbkhaafaplceaaFE
import Derived.Test.YtjbkhaafaplceaaFF
namespace Go.Proofs.Ytjbkhaafaplceaa
open Go.RowKit

/-- What lies where while Reach runs: r the truths, st the stack. -/
structure RcP (B bl bb gl bs : Nat) (v : Value) (l : List IN) (r : List Bool) (vs : Value) (st : List Int) (w : World) : Prop where
  box : w.heap[bl]? = some (.cells #[v] 25 (0, 0))
  bit : w.heap[bb]? = some (.cells #[.slice (some ⟨gl, 0, none⟩) l.length l.length] 53 (0, 0))
  row : w.heap[gl]? = some (.cells (bcellsB r) 4 (0, 0))
  stk : w.heap[bs]? = some (.cells #[vs] 37 (0, 0))
  own : NOwn w B vs st
  len : r.length = l.length
  hgl : B ≤ gl
  hbs : B ≤ bs
/-- What turns: the row of truths, the stack's box, the stack's own row. -/
structure Rk (gl bs : Nat) (vs : Value) (w : World) (vs' : Value) (w' : World) : Prop where
  os : w'.os = w.os
  tape : w'.tape = w.tape
  output : w'.output = w.output
  size : w.heap.size ≤ w'.heap.size
  block : ∀ k, k < w.heap.size → k ≠ gl → k ≠ bs → some k ≠ vs.ownBlock → w'.heap[k]? = w.heap[k]?
  moved : Moved w.heap.size vs vs'
theorem Rk.refl (gl bs : Nat) (vs : Value) (w : World) : Rk gl bs vs w vs w := ⟨rfl, rfl, rfl, Nat.le_refl _, fun _ _ _ _ _ => rfl, .inl rfl⟩
theorem Rk.trans {gl bs : Nat} {v1 v2 v3 : Value} {w1 w2 w3 : World} (h : Rk gl bs v1 w1 v2 w2) (k : Rk gl bs v2 w2 v3 w3) : Rk gl bs v1 w1 v3 w3 := by
  refine ⟨k.os.trans h.os, k.tape.trans h.tape, k.output.trans h.output, Nat.le_trans h.size k.size, fun i hi h1 h2 h3 => ?_, ?_⟩
  · rw [k.block i (Nat.lt_of_lt_of_le hi h.size) h1 h2 ?_, h.block i hi h1 h2 h3]
    rcases h.moved with e | ⟨g, e, hg⟩
    · rw [e]; exact h3
    · rw [e]; intro e2; cases e2; omega
  · rcases k.moved with e | ⟨g, e, hg⟩
    · rcases h.moved with e1 | ⟨g1, e1, hg1⟩
      · exact .inl (e.trans e1)
      · exact .inr ⟨g1, e.trans e1, hg1⟩
    · exact .inr ⟨g, e, Nat.le_trans h.size hg⟩
theorem Rk.below {gl bs B : Nat} {v1 v2 : Value} {w1 w2 : World} (h : Rk gl bs v1 w1 v2 w2) (hB : B ≤ w1.heap.size) (h1 : B ≤ gl) (h2 : B ≤ bs) (h3 : ∀ k, v1.ownBlock = some k → B ≤ k) : Below B w1 w2 :=
  ⟨h.os, h.tape, h.output, h.size, fun k hk => h.block k (by omega) (by omega) (by omega) (fun e => by have := h3 k e.symm; omega)⟩
theorem Rk.of_below {gl bs : Nat} {v : Value} {w w' : World} (h : Below w.heap.size w w') : Rk gl bs v w v w' := ⟨h.os, h.tape, h.output, h.size, fun k hk _ _ _ => h.block k hk, .inl rfl⟩
theorem RcP.below {B bl bb gl bs : Nat} {v : Value} {l : List IN} {r : List Bool} {vs : Value} {st : List Int} {w w' : World} (h : RcP B bl bb gl bs v l r vs st w) (hb : Below w.heap.size w w') : RcP B bl bb gl bs v l r vs st w' :=
  ⟨(hb.block _ (Array.getElem?_eq_some_iff.1 h.box).1).trans h.box, (hb.block _ (Array.getElem?_eq_some_iff.1 h.bit).1).trans h.bit, (hb.block _ (Array.getElem?_eq_some_iff.1 h.row).1).trans h.row, (hb.block _ (Array.getElem?_eq_some_iff.1 h.stk).1).trans h.stk, h.own.step hb, h.len, h.hgl, h.hbs⟩
theorem RcP.drewN {B bl bb gl bs : Nat} {v : Value} {l : List IN} {r : List Bool} {vs : Value} {st : List Int} {w : World} (h : RcP B bl bb gl bs v l r vs st w) (q : Nat) : RcP B bl bb gl bs v l r vs st (w.drewN q) := ⟨h.box, h.bit, h.row, h.stk, h.own, h.len, h.hgl, h.hbs⟩
/-- The function value's work. -/
def rchZ (p : List Bool × List Int) (n : Int) : List Bool × List Int := if 0 ≤ n ∧ p.1[n.toNat]? = some false then (p.1.set n.toNat true, p.2 ++ [n]) else p
theorem own_set {w : World} {B g o T U s n : Nat} {cs : Array Value} {u v : Value} {xs : List Value} (h : w.ownsRow B T s v n xs) (hg : w.heap[g]? = some (.cells cs U (0, 0))) (hT : T ≠ U) : (w.setCell ⟨g, o, none⟩ u).ownsRow B T s v n xs := by
  refine ⟨h.1, ?_⟩
  rcases h.2 with x | ⟨g', cap, cur, rfl, hB, hg', r⟩
  · exact .inl x
  · refine .inr ⟨g', cap, cur, rfl, hB, ?_, r⟩
    rw [Below.heap_setCell _ _ _ _ (other_block hg' hg hT)]
    exact hg'
/-- A row of one's own lies in no block of another type. -/
theorem own_ne {w : World} {B g T U s n : Nat} {cs : Array Value} {v : Value} {xs : List Value} (h : w.ownsRow B T s v n xs) (hg : w.heap[g]? = some (.cells cs U (0, 0))) (hT : T ≠ U) : some g ≠ v.ownBlock := by
  intro e
  rcases h.2 with ⟨rfl, _⟩ | ⟨g', cap, cur, rfl, hB, hg', r⟩
  · cases e
  · cases e
    exact other_block hg' hg hT rfl
theorem step_keeps {w w' : World} {o : Obj} {B : Nat} {v v' : Value} {l : List Int} (st : Step v (w.alloc o) v' w') (h : NOwn w B v l) (k : Nat) (cs : Array Value) (U : TypeId) (hU : 3 ≠ U) (hk : w.heap[k]? = some (.cells cs U (0, 0))) : w'.heap[k]? = some (.cells cs U (0, 0)) := by
  have hlt := (Array.getElem?_eq_some_iff.1 hk).1
  rw [st.grown.block k (Nat.lt_of_lt_of_le hlt (below_alloc w o).size) (own_ne h hk hU), (below_alloc w o).block k hlt]
  exact hk
set_option maxRecDepth 8000 in
set_option maxHeartbeats 4000000 in
theorem rch_any (B bl bb gl bs : Nat) (v : Value) (l : List IN) (r : List Bool) (vs : Value) (st : List Int) (n : Int) (w : World) (h : RcP B bl bb gl bs v l r vs st w) (hv : ∃ ao cap, v = .slice ao l.length cap) (hst : st.length ≤ 10000000000000) (hB : B ≤ w.heap.size) :
    Calls Try.prog 41 #[.int .i64 n, .pointer (some ⟨bl, 0, none⟩), .pointer (some ⟨bb, 0, none⟩), .pointer (some ⟨bs, 0, none⟩)] w fun e w' => e = .returned (.tuple #[]) ∧ ∃ vs', RcP B bl bb gl bs v l (rchZ (r, st) n).1 vs' (rchZ (r, st) n).2 w' ∧ Rk gl bs vs w vs' w' := by
  have HP := hidIt h
  obtain ⟨ao, cap, rfl⟩ := hv
  have c0 := cell_row h.box 0 rfl
  have c1 := cell_row h.bit 0 rfl
  have c2 := cell_row h.stk 0 rfl
  have hf := frozen_row h.row
  have hf2 := frozen_row h.stk
  have hlen := h.len
  have hN : ∀ (h : ¬ (0 ≤ n ∧ r[n.toNat]? = some false)), rchZ (r, st) n = (r, st) := fun h => by unfold rchZ; rw [if_neg h]
  by_cases h0 : 0 ≤ n
  · by_cases h1 : n < (l.length : Int)
    · obtain ⟨k, rfl⟩ := Int.eq_ofNat_of_zero_le h0
      have hk : k < r.length := by omega
      have ck : w.cell? ⟨gl, k, none⟩ = some (.bool r[k]) := cell_row h.row k (by simp [bcellsB, hk])
      cases hr : r[k] with
      | true =>
        rw [hr] at ck
        rw [hN (by rw [Int.toNat_natCast, List.getElem?_eq_getElem hk, hr]; simp)]
        clear hN h
        go_enter Try.func41, Try.ntmps41
        go_wp2
        go_end0
        exact ⟨rfl, vs, HP.out, Rk.refl _ _ _ _⟩
      | false =>
        rw [hr] at ck
        have e1 : rchZ (r, st) (k : Int) = (r.set k true, st ++ [(k : Int)]) := by
          unfold rchZ
          rw [if_pos ⟨h0, by rw [Int.toNat_natCast, List.getElem?_eq_getElem hk, hr]⟩, Int.toNat_natCast]
        rw [e1]
        have ho1 : OnlyG gl w (w.setCell ⟨gl, k, none⟩ (.bool true)) := (OnlyG.refl gl w).set
        have X1 : Hid ((w.setCell ⟨gl, k, none⟩ (.bool true)).heap[gl]? = some (.cells (bcellsB (r.set k true)) 4 (0, 0))) := by
          show _ = _
          rw [set_row h.row]
          congr 2
          simp [bcellsB, List.map_set]
        have X2 := hidIt ((ho1.block _ (other_block h.box h.row (by decide))).trans h.box)
        have X3 := hidIt ((ho1.block _ (other_block h.bit h.row (by decide))).trans h.bit)
        have X4 := hidIt ((ho1.block _ (other_block h.stk h.row (by decide))).trans h.stk)
        have X5 : Hid (NOwn (w.setCell ⟨gl, k, none⟩ (.bool true)) B vs st) := own_set h.own h.row (by decide)
        have HO1 := hidIt ho1
        obtain ⟨aos, caps, rfl⟩ := own_slice h.own
        clear hN h e1 ho1
        go_enter Try.func41, Try.ntmps41
        go_upto_region 2 with (fail)
        generalize w.setCell ⟨gl, k, none⟩ (.bool true) = w1 at *
        have q2 := cell_row X4.out 0 rfl
        have qf := frozen_row X4.out
        have hB1 : B ≤ w1.heap.size := by rw [HO1.out.size]; exact hB
        clear c0 c1 c2 ck hf hf2
        go_wp2_with (at_builtin; refine wpList_nappend rfl _ _ rfl B _ _ _ X5.out rfl rfl hst hB1 ?_; intro ao2 cap2 w2 ho2 st2; have HO2 := hidIt ho2; have ST2 := hidIt st2; have hA := below_alloc w1 (.cells #[.int .i64 (k : Int)] 3); have Y4 := hidIt ((st2.grown.block _ (Nat.lt_of_lt_of_le (Array.getElem?_eq_some_iff.1 X4.out).1 hA.size) (own_ne X5.out X4.out (by decide))).trans ((hA.block _ (Array.getElem?_eq_some_iff.1 X4.out).1).trans X4.out)); have r2 := cell_row Y4.out 0 rfl; have rf := frozen_row Y4.out; clear q2 qf ho2 st2 hA)
        go_end0
        refine ⟨rfl, .slice ao2 (st.length + 1) cap2, ?_, ?_⟩
        · have S := step_keeps ST2.out X5.out
          have S1 := S _ _ _ (by decide) X1.out
          have S2 := S _ _ _ (by decide) X2.out
          have S3 := S _ _ _ (by decide) X3.out
          refine ⟨?_, ?_, ?_, ?_, own_set HO2.out Y4.out (by decide), by rw [List.length_set]; exact hlen, HP.out.hgl, HP.out.hbs⟩
          · rw [Below.heap_setCell _ _ _ _ (other_block S2 Y4.out (by decide))]; exact S2
          · rw [Below.heap_setCell _ _ _ _ (other_block S3 Y4.out (by decide))]; exact S3
          · rw [Below.heap_setCell _ _ _ _ (other_block S1 Y4.out (by decide))]; exact S1
          · rw [set_row Y4.out]; simp
        · have G := ST2.out.grown
          have hA := below_alloc w1 (.cells #[.int .i64 (k : Int)] 3)
          refine ⟨G.os.trans HO1.out.os, G.tape.trans HO1.out.tape, G.output.trans HO1.out.output, ?_, fun i hi hi1 hi2 hi3 => ?_, ?_⟩
          · have := G.size
            have := hA.size
            have e := HO1.out.size
            simp only [World.setCell, Array.size_modify]
            omega
          · rw [Below.heap_setCell _ _ _ _ hi2, G.block i (by have := hA.size; have := HO1.out.size; omega) hi3, hA.block i (by rw [HO1.out.size]; exact hi), HO1.out.block i hi1]
          · rcases ST2.out.moved with e | ⟨g, e, hg⟩
            · exact .inl e
            · refine .inr ⟨g, e, ?_⟩
              have := hA.size
              have := HO1.out.size
              omega
    · rw [hN (by rw [List.getElem?_eq_none (by omega)]; simp)]
      clear hN h
      go_enter Try.func41, Try.ntmps41
      go_wp2
      go_end0
      exact ⟨rfl, vs, HP.out, Rk.refl _ _ _ _⟩
  · rw [hN (by omega)]
    clear hN h
    go_enter Try.func41, Try.ntmps41
    go_wp2
    go_end0
    exact ⟨rfl, vs, HP.out, Rk.refl _ _ _ _⟩
end Go.Proofs.Ytjbkhaafaplceaa
