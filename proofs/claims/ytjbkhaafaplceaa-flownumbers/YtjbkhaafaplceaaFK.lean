/- leaders of package flow: walked. -/
import Derived.Test.YtjbkhaafaplceaaFH
import Derived.Test.YtjbkhaafaplceaaFC
import Derived.Laws.OwnMore
import Derived.Deep.OwnRows
namespace Go.Proofs.Ytjbkhaafaplceaa
open Go.RowKit

def bcellsB (d : List Bool) : Array Value := (d.map Value.bool).toArray
/-- One place set. -/
def setB (d : List Bool) (n : Int) : List Bool := if 0 ≤ n ∧ n < d.length then d.set n.toNat true else d
theorem setB_len (d : List Bool) (n : Int) : (setB d n).length = d.length := by unfold setB; split <;> simp
/-- A list of instructions in a box, a row of truths in a box. -/
structure LdP (bl bb gl : Nat) (v : Value) (l : List IN) (d : List Bool) (w : World) : Prop where
  box : w.heap[bl]? = some (.cells #[v] 25 (0, 0))
  bit : w.heap[bb]? = some (.cells #[.slice (some ⟨gl, 0, none⟩) l.length l.length] 53 (0, 0))
  row : w.heap[gl]? = some (.cells (bcellsB d) 4 (0, 0))
  len : d.length = l.length
theorem LdP.below {bl bb gl : Nat} {v : Value} {l : List IN} {d : List Bool} {w w' : World} (h : LdP bl bb gl v l d w) (hb : Below w.heap.size w w') : LdP bl bb gl v l d w' :=
  ⟨(hb.block _ (Array.getElem?_eq_some_iff.1 h.box).1).trans h.box, (hb.block _ (Array.getElem?_eq_some_iff.1 h.bit).1).trans h.bit, (hb.block _ (Array.getElem?_eq_some_iff.1 h.row).1).trans h.row, h.len⟩
theorem LdP.drewN {bl bb gl : Nat} {v : Value} {l : List IN} {d : List Bool} {w : World} (h : LdP bl bb gl v l d w) (q : Nat) : LdP bl bb gl v l d (w.drewN q) := ⟨h.box, h.bit, h.row, h.len⟩
set_option maxRecDepth 8000 in
set_option maxHeartbeats 2000000 in
theorem lead_any (bl bb gl : Nat) (v : Value) (l : List IN) (d : List Bool) (n : Int) (w : World) (h : LdP bl bb gl v l d w) (hv : ∃ ao cap, v = .slice ao l.length cap) :
    Calls Try.prog 52 #[.int .i64 n, .pointer (some ⟨bl, 0, none⟩), .pointer (some ⟨bb, 0, none⟩)] w fun e w' => e = .returned (.tuple #[]) ∧ LdP bl bb gl v l (setB d n) w' ∧ OnlyG gl w w' := by
  have HP := hidIt h
  obtain ⟨ao, cap, rfl⟩ := hv
  have c0 := cell_row h.box 0 rfl
  have c1 := cell_row h.bit 0 rfl
  have hf := frozen_row h.row
  have hlen := h.len
  have hN : ∀ (h : ¬ (0 ≤ n ∧ n < d.length)), setB d n = d := fun h => by unfold setB; rw [if_neg h]
  by_cases h0 : 0 ≤ n
  · by_cases h1 : n < (l.length : Int)
    · obtain ⟨k, rfl⟩ := Int.eq_ofNat_of_zero_le h0
      have hk : k < d.length := by omega
      have e1 : setB d (k : Int) = d.set k true := by unfold setB; rw [if_pos (by omega)]; simp
      rw [e1]
      have ck : w.cell? ⟨gl, k, none⟩ = some (.bool d[k]) := cell_row h.row k (by simp [bcellsB, hk])
      clear hN h e1
      go_enter Try.func52, Try.ntmps52
      go_wp2
      go_end0
      have ho : OnlyG gl w (w.setCell ⟨gl, k, none⟩ (.bool true)) := (OnlyG.refl gl w).set
      refine ⟨rfl, ⟨?_, ?_, ?_, by rw [List.length_set]; exact hlen⟩, ho⟩
      · rw [ho.block _ (other_block HP.out.box HP.out.row (by decide))]; exact HP.out.box
      · rw [ho.block _ (other_block HP.out.bit HP.out.row (by decide))]; exact HP.out.bit
      · rw [set_row HP.out.row]
        congr 2
        simp [bcellsB, List.map_set]
    · rw [hN (by omega)]
      clear hN h
      go_enter Try.func52, Try.ntmps52
      go_wp2
      go_end0
      exact ⟨rfl, HP.out, OnlyG.refl _ _⟩
  · rw [hN (by omega)]
    clear hN h
    go_enter Try.func52, Try.ntmps52
    go_wp2
    go_end0
    exact ⟨rfl, HP.out, OnlyG.refl _ _⟩
/-- Leaders of the code, from there on. -/
def lead1 (l : List IN) : Nat → List IN → List Bool → List Bool
  | _, [], d => d
  | k, x :: r, d => lead1 l (k + 1) r (if decide (kd x.op = 6) || endsB x.op then setB (setB d (tgtZ l x)) ((k : Int) + 1) else setB d (tgtZ l x))
def lead2 (l : List IN) : List HN → List Bool → List Bool
  | [], d => d
  | x :: r, d => lead2 l r (setB (setB (setB d (findZ l x.f)) (findZ l x.t)) (findZ l x.a))
def leadZ (l : List IN) (h : List HN) : List Bool := lead2 l h (lead1 l 0 l (setB (List.replicate l.length false) 0))
theorem lead1_cons (l : List IN) (k : Nat) (x : IN) (r : List IN) (d : List Bool) : lead1 l k (x :: r) d = lead1 l (k + 1) r (if decide (kd x.op = 6) || endsB x.op then setB (setB d (tgtZ l x)) ((k : Int) + 1) else setB d (tgtZ l x)) := rfl
theorem lead2_cons (l : List IN) (x : HN) (r : List HN) (d : List Bool) : lead2 l (x :: r) d = lead2 l r (setB (setB (setB d (findZ l x.f)) (findZ l x.t)) (findZ l x.a)) := rfl
theorem made_bools (n : Nat) : madeCells #[Value.bool false] n = bcellsB (List.replicate n false) := by
  apply Array.toList_inj.1
  rw [toList_madeCells_one]
  simp [bcellsB]
theorem Try.infoB : (Try.prog.info? 4).map (fun i => (i.zero, i.size, i.bytes)) = some (some (.bool false), 1, 1) := by kernel_rfl
end Go.Proofs.Ytjbkhaafaplceaa
