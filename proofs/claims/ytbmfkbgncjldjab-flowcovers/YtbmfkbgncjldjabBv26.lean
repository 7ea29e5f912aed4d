/- Texts FC FK FD. -/
import Derived.Test.YtbmfkbgncjldjabBv02
import Derived.Lib.SliceRun
import Derived.Test.YtbmfkbgncjldjabBv03
import Derived.Laws.OwnMore
import Derived.Deep.OwnRows
import Derived.Deep.RegionHeld3
namespace Go.Proofs.Ytbmfkbgncjldjab
open Go.RowKit

def ncells (l : List Int) : List Value := l.map (Value.int .i64)
theorem ncells_append (a b : List Int) : ncells (a ++ b) = ncells a ++ ncells b := by simp [ncells]
theorem ncells_len (l : List Int) : (ncells l).length = l.length := by simp [ncells]
theorem nan_any (x : Int) (w : World) : Calls Try.prog 75 #[.int .i64 x] w fun e w' => e = .returned (.bool false) ∧ w' = w := by
  go_enter Try.func75, Try.ntmps75
  go_wp2
  go_ret
  exact ⟨rfl, rfl⟩
theorem less_any (x y : Int) (w : World) : Calls Try.prog 54 #[.int .i64 x, .int .i64 y] w fun e w' => e = .returned (.bool (decide (x < y))) ∧ w' = w := by
  have G := hidIt (fun x W => nan_any x W)
  go_enter Try.func54, Try.ntmps54
  go_wp2_with (go_at_call 75; refine (G.out _ _).mono ?_; rintro e w' ⟨rfl, hww⟩; cases hww)
  all_goals go_ret
  all_goals exact ⟨by simp_all, rfl⟩
structure OnlyG (g : Nat) (w w' : World) : Prop where
  os : w'.os = w.os
  tape : w'.tape = w.tape
  output : w'.output = w.output
  size : w'.heap.size = w.heap.size
  block : ∀ k, k ≠ g → w'.heap[k]? = w.heap[k]?
theorem OnlyG.refl (g : Nat) (w : World) : OnlyG g w w := ⟨rfl, rfl, rfl, rfl, fun _ _ => rfl⟩
theorem OnlyG.trans {g : Nat} {a b c : World} (h : OnlyG g a b) (k : OnlyG g b c) : OnlyG g a c := ⟨k.os.trans h.os, k.tape.trans h.tape, k.output.trans h.output, k.size.trans h.size, fun i hi => (k.block i hi).trans (h.block i hi)⟩
theorem OnlyG.drewN {g : Nat} {a b : World} (h : OnlyG g a b) (q : Nat) : OnlyG g a (b.drewN q) := ⟨h.os, h.tape, h.output, h.size, h.block⟩
theorem OnlyG.set {g o : Nat} {a b : World} {u : Value} (h : OnlyG g a b) : OnlyG g a (b.setCell ⟨g, o, none⟩ u) :=
  ⟨h.os, h.tape, h.output, by simpa [World.setCell] using h.size, fun i hi => by rw [Below.heap_setCell _ _ _ _ hi]; exact h.block i hi⟩
theorem OnlyG.below {g B : Nat} {a b : World} (h : OnlyG g a b) (hg : B ≤ g) : Below B a b :=
  ⟨h.os, h.tape, h.output, by rw [h.size]; exact Nat.le_refl _, fun k hk => h.block k (by omega)⟩
def sort2 (x y : Int) (cs : Array Value) : Array Value := if y < x then (cs.setIfInBounds 1 (.int .i64 x)).setIfInBounds 0 (.int .i64 y) else cs
set_option maxRecDepth 8000 in
set_option maxHeartbeats 2000000 in
theorem isort_two (g cap : Nat) (x y : Int) (cs : Array Value) (w : World) (h : w.heap[g]? = some (.cells cs 3 (0, 0))) (h0 : cs[0]? = some (.int .i64 x)) (h1 : cs[1]? = some (.int .i64 y)) :
    Calls Try.prog 48 #[.slice (some ⟨g, 0, none⟩) 2 cap, .int .i64 0, .int .i64 2] w fun e w' => e = .returned (.tuple #[]) ∧ OnlyG g w w' ∧
      w'.heap[g]? = some (.cells (sort2 x y cs) 3 (0, 0)) := by
  have G := hidIt (fun x y W => less_any x y W)
  have c0 := cell_row h 0 h0
  have c1 := cell_row h 1 h1
  have H := hidIt h
  have hbl := cell_lt c0
  have f0 := frozen_row h
  clear h h0 h1
  have HY : Hid (y < x → sort2 x y cs = (cs.setIfInBounds 1 (.int .i64 x)).setIfInBounds 0 (.int .i64 y)) := fun h => by unfold sort2; rw [if_pos h]
  have HN : Hid (¬ y < x → sort2 x y cs = cs) := fun h => by unfold sort2; rw [if_neg h]
  generalize sort2 x y cs = cs' at *
  go_enter Try.func48, Try.ntmps48
  go_wp2
  go_loopw [6, 7] (fun i _ wr => (i = .int .i64 1 ∧ wr = w) ∨ (i = .int .i64 2 ∧ OnlyG g w wr ∧ wr.heap[g]? = some (.cells cs' 3 (0, 0)))) (fun i _ _ => 3 - (intOf i).toNat)
  case atStart => exact .inl ⟨rfl, rfl⟩
  case round =>
    rcases hrel with ⟨rfl, hww⟩ | ⟨rfl, h1, h2⟩
    · cases hww
      go_wp2
      go_loopw [7] (fun j wr => (j = .int .i64 1 ∧ wr = w) ∨ (j = .int .i64 0 ∧ y < x ∧ OnlyG g w wr ∧ wr.heap[g]? = some (.cells cs' 3 (0, 0)))) (fun j _ => (intOf j).toNat)
      case atStart => exact .inl ⟨rfl, rfl⟩
      case round =>
        rcases hrel with ⟨rfl, hww⟩ | ⟨rfl, hyx, h1, h2⟩
        · cases hww
          by_cases hlt : y < x
          · have G2 := hidIt (fun W => G.out y x W)
            rw [decide_eq_true hlt] at G2
            go_wp2
            go_quiet ((go_at_call 54; exact Calls.quiet_of_same (G2.out _)))
            go_wp2
            go_region
            go_wp2
            refine ⟨.inr ⟨rfl, hlt, ((OnlyG.refl g w).drewN _).set.set, ?_⟩, by simp [intOf]⟩
            rw [HY.out hlt]
            exact set_row (set_row H.out)
          · have G2 := hidIt (fun W => G.out y x W)
            rw [decide_eq_false hlt] at G2
            go_wp2
            go_quiet ((go_at_call 54; exact Calls.quiet_of_same (G2.out _)))
            go_wp2
            exact ⟨.inr ⟨rfl, (OnlyG.refl g w).drewN _, by rw [HN.out hlt]; exact H.out⟩, by simp [intOf]⟩
        · have HO := hidIt h1
          have H2 := hidIt h2
          clear h1 h2
          go_wp2
          go_quiet (fail)
          go_wp2
          exact ⟨.inr ⟨rfl, HO.out.drewN _, H2.out⟩, by simp [intOf]⟩
    · have HO := hidIt h1
      have H2 := hidIt h2
      clear h1 h2
      go_wp2
      go_end0
      exact ⟨rfl, HO.out, H2.out⟩
set_option maxRecDepth 8000 in
set_option maxHeartbeats 2000000 in
theorem isort_few (ao : Option Addr) (n cap : Nat) (hn : n ≤ 1) (w : World) :
    Calls Try.prog 48 #[.slice ao n cap, .int .i64 0, .int .i64 (n : Int)] w fun e w' => e = .returned (.tuple #[]) ∧ w' = w := by
  have hn' : ¬ (1 : Int) < (n : Int) := by omega
  go_enter Try.func48, Try.ntmps48
  go_wp2
  go_loopw [6, 7] (fun i _ wr => (i = .int .i64 1 ∧ wr = w)) (fun i _ _ => 3 - (intOf i).toNat)
  case atStart => exact ⟨rfl, rfl⟩
  case round =>
    obtain ⟨rfl, hww⟩ := hrel
    cases hww
    go_wp2
    go_end0
    exact ⟨rfl, rfl⟩
set_option maxRecDepth 8000 in
set_option maxHeartbeats 2000000 in
theorem len64_any (n : Nat) (hn : n ≤ 2) (w : World) : Calls Try.prog 58 #[.int .u64 (n : Int)] w fun e w' => (∃ k : Int, e = .returned (.int .i64 k)) ∧ w' = w := by
  have h : n = 0 ∨ n = 1 ∨ n = 2 := by omega
  rcases h with rfl | rfl | rfl
  all_goals
    go_enter Try.func58, Try.ntmps58
    go_wp2
    go_ret
    exact ⟨⟨_, rfl⟩, rfl⟩
set_option maxRecDepth 8000 in
set_option maxHeartbeats 2000000 in
theorem len_any (n : Nat) (hn : n ≤ 2) (w : World) : Calls Try.prog 39 #[.int .u64 (n : Int)] w fun e w' => (∃ k : Int, e = .returned (.int .i64 k)) ∧ w' = w := by
  have G := hidIt (len64_any n hn w)
  go_enter Try.func39, Try.ntmps39
  go_wp2_with (go_at_call 58; refine G.out.mono ?_; rintro e w' ⟨⟨k, rfl⟩, hww⟩; cases hww)
  go_ret
  exact ⟨⟨k, rfl⟩, rfl⟩
set_option maxRecDepth 8000 in
set_option maxHeartbeats 2000000 in
theorem pdq_any (ao : Option Addr) (n cap : Nat) (k : Int) (hn : n ≤ 2) (w : World) (Q : World → Prop) (h : Calls Try.prog 48 #[.slice ao n cap, .int .i64 0, .int .i64 (n : Int)] w fun e w' => e = .returned (.tuple #[]) ∧ Q w') :
    Calls Try.prog 38 #[.slice ao n cap, .int .i64 0, .int .i64 (n : Int), .int .i64 k] w fun e w' => e = .returned (.tuple #[]) ∧ Q w' := by
  have G := hidIt h
  have hn' : (n : Int) ≤ 12 := by omega
  clear h
  go_enter Try.func38, Try.ntmps38
  go_wp2
  go_loopw [1, 2] (fun a b wr => a = .int .i64 0 ∧ b = .int .i64 (n : Int) ∧ wr = w) (fun _ _ _ => 0)
  case atStart => exact ⟨rfl, rfl, rfl⟩
  case round =>
    obtain ⟨rfl, rfl, hww⟩ := hrel
    cases hww
    go_wp2_with (go_at_call 48; refine G.out.mono ?_; rintro e w' ⟨rfl, hQ⟩)
    refine bodyPost_ret (results_none rfl _ _ _) rfl ?_
    exact ⟨rfl, hQ⟩
set_option maxRecDepth 8000 in
set_option maxHeartbeats 2000000 in
theorem sort_any (ao : Option Addr) (n cap : Nat) (hn : n ≤ 2) (w : World) (Q : World → Prop) (h : Calls Try.prog 48 #[.slice ao n cap, .int .i64 0, .int .i64 (n : Int)] w fun e w' => e = .returned (.tuple #[]) ∧ Q w') :
    Calls Try.prog 22 #[.slice ao n cap] w fun e w' => e = .returned (.tuple #[]) ∧ Q w' := by
  have G1 := hidIt (len_any n hn w)
  have G2 := hidIt (fun k => pdq_any ao n cap k hn w Q h)
  clear h
  go_enter Try.func22, Try.ntmps22
  go_wp2_with (first | (go_at_call 39; refine G1.out.mono ?_; rintro e w' ⟨⟨k, rfl⟩, hww⟩; cases hww) | (go_at_call 38; refine (G2.out _).mono ?_; rintro e w' ⟨rfl, hQ⟩))
  go_end0
  exact ⟨rfl, hQ⟩
set_option maxRecDepth 8000 in
set_option maxHeartbeats 2000000 in
theorem compact_few (ao : Option Addr) (n cap : Nat) (hn : n ≤ 1) (w : World) :
    Calls Try.prog 23 #[.slice ao n cap] w fun e w' => e = .returned (.slice ao n cap) ∧ w' = w := by
  have hn' : (n : Int) < 2 := by omega
  go_enter Try.func23, Try.ntmps23
  go_wp2
  go_ret
  exact ⟨rfl, rfl⟩
set_option maxRecDepth 8000 in
set_option maxHeartbeats 2000000 in
theorem compact_two (g cap : Nat) (x y : Int) (hne : x ≠ y) (w : World) (c0 : w.cell? ⟨g, 0, none⟩ = some (.int .i64 x)) (c1 : w.cell? ⟨g, 1, none⟩ = some (.int .i64 y)) :
    Calls Try.prog 23 #[.slice (some ⟨g, 0, none⟩) 2 cap] w fun e w' => e = .returned (.slice (some ⟨g, 0, none⟩) 2 cap) ∧ ∃ q, w' = w.drewN q := by
  have hne' : (y == x) = false := by simpa using fun h => hne h.symm
  go_enter Try.func23, Try.ntmps23
  go_wp2
  go_loopw [3] (fun k wr => (k = .int .i64 1 ∨ k = .int .i64 2) ∧ ∃ q, wr = w.drewN q) (fun k _ => 3 - (intOf k).toNat)
  case atStart => exact ⟨.inl rfl, 0, rfl⟩
  case round =>
    obtain ⟨hk, q, rfl⟩ := hrel
    rcases hk with rfl | rfl
    · go_wp2
      try go_quiet (fail)
      try go_wp2
      exact ⟨⟨.inr rfl, _, rfl⟩, by simp [intOf]⟩
    · go_wp2
      go_ret
      exact ⟨rfl, _, rfl⟩
set_option maxRecDepth 8000 in
theorem run_clear1 (w : World) (nq g cap : Nat) (x : Int) (c1 : w.cell? ⟨g, 1, none⟩ = some (.int .i64 x)) (f0 : ∀ j, w.frozen? ⟨g, j, none⟩ = false) :
    (Builtin.clear_ #[22] 0 #[.slice (some ⟨g, 1, none⟩) 1 (cap - 1)]).run Try.prog (w.drewN nq) = .ok (.tuple #[]) ((w.drewN nq).setCell ⟨g, 1, none⟩ (.int .i64 0)) := by
  have := Go.Lib.run_clear_slice (P := Try.prog) (w.drewN nq) 22 3 0 (.int .i64 0) Try.underlying22 (fun _ => rfl) rfl rfl g 1 1 (cap - 1) (by omega)
    (by
      intro j hj
      obtain rfl : j = 0 := by omega
      have e : (w.drewN nq).cell? ⟨g, 1 + 0, none⟩ = some (.int .i64 x) := c1
      rw [e]
      rfl) (fun j _ => f0 (1 + j))
  exact this
set_option maxRecDepth 8000 in
set_option maxHeartbeats 2000000 in
theorem compact_same (g cap : Nat) (x : Int) (cs : Array Value) (hc2 : 2 ≤ cap) (hcm : cap ≤ 2 ^ 63 - 1) (w : World) (h : w.heap[g]? = some (.cells cs 3 (0, 0))) (h0 : cs[0]? = some (.int .i64 x)) (h1 : cs[1]? = some (.int .i64 x)) :
    Calls Try.prog 23 #[.slice (some ⟨g, 0, none⟩) 2 cap] w fun e w' => e = .returned (.slice (some ⟨g, 0, none⟩) 1 cap) ∧ OnlyG g w w' ∧ ∃ u, w'.heap[g]? = some (.cells (cs.setIfInBounds 1 u) 3 (0, 0)) := by
  have c0 := cell_row h 0 h0
  have c1 := cell_row h 1 h1
  have H := hidIt h
  have hbl := cell_lt c0
  have f0 := frozen_row h
  clear h h0 h1
  go_enter Try.func23, Try.ntmps23
  go_wp2
  go_loopw [3] (fun k wr => k = .int .i64 1 ∧ wr = w) (fun k _ => 3 - (intOf k).toNat)
  case atStart => exact ⟨rfl, rfl⟩
  case round =>
    obtain ⟨rfl, hww⟩ := hrel
    cases hww
    go_wp2
    go_quiet (fail)
    go_wp2
    go_loopw [3, 5] (fun k k2 wr => k = .int .i64 1 ∧ k2 = .int .i64 1 ∧ wr = w.drewN nq) (fun _ _ _ => 0)
    case atStart => exact ⟨rfl, rfl, rfl⟩
    case round =>
      obtain ⟨rfl, rfl, rfl⟩ := hrel
      have hcl := run_clear1 w nq g cap x c1 f0
      go_wp2
      go_ret
      refine ⟨rfl, ?_, .int .i64 0, ?_⟩
      · exact ((OnlyG.refl g w).drewN nq).set
      · exact set_row H.out
end Go.Proofs.Ytbmfkbgncjldjab
namespace Go.Proofs.Ytbmfkbgncjldjab
open Go.RowKit

def bcellsB (d : List Bool) : Array Value := (d.map Value.bool).toArray
def setB (d : List Bool) (n : Int) : List Bool := if 0 ≤ n ∧ n < d.length then d.set n.toNat true else d
theorem setB_len (d : List Bool) (n : Int) : (setB d n).length = d.length := by unfold setB; split <;> simp
structure LdP (bl bb gl : Nat) (v : Value) (l : List IN) (d : List Bool) (w : World) : Prop where
  box : w.heap[bl]? = some (.cells #[v] 23 (0, 0))
  bit : w.heap[bb]? = some (.cells #[.slice (some ⟨gl, 0, none⟩) l.length l.length] 41 (0, 0))
  row : w.heap[gl]? = some (.cells (bcellsB d) 4 (0, 0))
  len : d.length = l.length
theorem LdP.below {bl bb gl : Nat} {v : Value} {l : List IN} {d : List Bool} {w w' : World} (h : LdP bl bb gl v l d w) (hb : Below w.heap.size w w') : LdP bl bb gl v l d w' :=
  ⟨(hb.block _ (Array.getElem?_eq_some_iff.1 h.box).1).trans h.box, (hb.block _ (Array.getElem?_eq_some_iff.1 h.bit).1).trans h.bit, (hb.block _ (Array.getElem?_eq_some_iff.1 h.row).1).trans h.row, h.len⟩
theorem LdP.drewN {bl bb gl : Nat} {v : Value} {l : List IN} {d : List Bool} {w : World} (h : LdP bl bb gl v l d w) (q : Nat) : LdP bl bb gl v l d (w.drewN q) := ⟨h.box, h.bit, h.row, h.len⟩
set_option maxRecDepth 8000 in
set_option maxHeartbeats 2000000 in
theorem lead_any (bl bb gl : Nat) (v : Value) (l : List IN) (d : List Bool) (n : Int) (w : World) (h : LdP bl bb gl v l d w) (hv : ∃ ao cap, v = .slice ao l.length cap) :
    Calls Try.prog 37 #[.int .i64 n, .pointer (some ⟨bl, 0, none⟩), .pointer (some ⟨bb, 0, none⟩)] w fun e w' => e = .returned (.tuple #[]) ∧ LdP bl bb gl v l (setB d n) w' ∧ OnlyG gl w w' := by
  have HP := hidIt h
  obtain ⟨ao, cap, rfl⟩ := hv
  have c0 := cell_row h.box 0 rfl
  have c1 := cell_row h.bit 0 rfl
  have hf := frozen_row h.row
  have hlen := h.len
  have hN : ∀ (h : ¬ (0 ≤ n ∧ n < d.length)), setB d n = d := fun h => by unfold setB; rw [if_neg h]
  by_cases h0 : 0 ≤ n
  · by_cases h1 : n < (l.length : Int)
    · obtain ⟨k, rfl⟩ := Int.eq_ofNat_of_zero_le h0
      have hk : k < d.length := by omega
      have e1 : setB d (k : Int) = d.set k true := by unfold setB; rw [if_pos (by omega)]; simp
      rw [e1]
      have ck : w.cell? ⟨gl, k, none⟩ = some (.bool d[k]) := cell_row h.row k (by simp [bcellsB, hk])
      clear hN h e1
      go_enter Try.func37, Try.ntmps37
      go_wp2
      go_end0
      have ho : OnlyG gl w (w.setCell ⟨gl, k, none⟩ (.bool true)) := (OnlyG.refl gl w).set
      refine ⟨rfl, ⟨?_, ?_, ?_, by rw [List.length_set]; exact hlen⟩, ho⟩
      · rw [ho.block _ (other_block HP.out.box HP.out.row (by decide))]; exact HP.out.box
      · rw [ho.block _ (other_block HP.out.bit HP.out.row (by decide))]; exact HP.out.bit
      · rw [set_row HP.out.row]
        congr 2
        simp [bcellsB, List.map_set]
    · rw [hN (by omega)]
      clear hN h
      go_enter Try.func37, Try.ntmps37
      go_wp2
      go_end0
      exact ⟨rfl, HP.out, OnlyG.refl _ _⟩
  · rw [hN (by omega)]
    clear hN h
    go_enter Try.func37, Try.ntmps37
    go_wp2
    go_end0
    exact ⟨rfl, HP.out, OnlyG.refl _ _⟩
def lead1 (l : List IN) : Nat → List IN → List Bool → List Bool
  | _, [], d => d
  | k, x :: r, d => lead1 l (k + 1) r (if decide (kd x.op = 6) || endsB x.op then setB (setB d (tgtZ l x)) ((k : Int) + 1) else setB d (tgtZ l x))
def lead2 (l : List IN) : List HN → List Bool → List Bool
  | [], d => d
  | x :: r, d => lead2 l r (setB (setB (setB d (findZ l x.f)) (findZ l x.t)) (findZ l x.a))
def leadZ (l : List IN) (h : List HN) : List Bool := lead2 l h (lead1 l 0 l (setB (List.replicate l.length false) 0))
theorem lead1_cons (l : List IN) (k : Nat) (x : IN) (r : List IN) (d : List Bool) : lead1 l k (x :: r) d = lead1 l (k + 1) r (if decide (kd x.op = 6) || endsB x.op then setB (setB d (tgtZ l x)) ((k : Int) + 1) else setB d (tgtZ l x)) := rfl
theorem lead2_cons (l : List IN) (x : HN) (r : List HN) (d : List Bool) : lead2 l (x :: r) d = lead2 l r (setB (setB (setB d (findZ l x.f)) (findZ l x.t)) (findZ l x.a)) := rfl
theorem made_bools (n : Nat) : madeCells #[Value.bool false] n = bcellsB (List.replicate n false) := by
  apply Array.toList_inj.1
  rw [toList_madeCells_one]
  simp [bcellsB]
theorem Try.infoB : (Try.prog.info? 4).map (fun i => (i.zero, i.size, i.bytes)) = some (some (.bool false), 1, 1) := by kernel_rfl
end Go.Proofs.Ytbmfkbgncjldjab
namespace Go.Proofs.Ytbmfkbgncjldjab
open Go.RowKit

def nextL (l : List IN) (k : Nat) (x : IN) : List Int :=
  if !endsB x.op && decide (k + 1 < l.length) then
    (if tgtZ l x < 0 then [(k : Int) + 1] else if tgtZ l x < (k : Int) + 1 then [tgtZ l x, (k : Int) + 1] else if tgtZ l x = (k : Int) + 1 then [(k : Int) + 1] else [(k : Int) + 1, tgtZ l x])
  else (if tgtZ l x < 0 then [] else [tgtZ l x])
def nextZ (l : List IN) (n : Int) : List Int := if n < 0 then [] else match l[n.toNat]? with
  | some x => nextL l n.toNat x
  | none => []
theorem nextZ_at {l : List IN} {k : Nat} {x : IN} (h : l[k]? = some x) : nextZ l (k : Int) = nextL l k x := by
  unfold nextZ
  rw [if_neg (by omega)]
  simp only [Int.toNat_natCast]
  rw [h]
theorem nextZ_out {l : List IN} {n : Int} (h : n < 0 ∨ (l.length : Int) ≤ n) : nextZ l n = [] := by
  unfold nextZ
  by_cases h0 : n < 0
  · rw [if_pos h0]
  · rw [if_neg h0, List.getElem?_eq_none (by omega)]
theorem tgtZ_lt (l : List IN) (x : IN) : -1 ≤ tgtZ l x ∧ tgtZ l x < l.length := by
  unfold tgtZ
  split
  · exact findZ_lt l x.a
  · omega
def NOwn (w : World) (B : Nat) (v : Value) (l : List Int) : Prop := w.ownsRow B 3 1 v l.length (ncells l)
theorem Try.infoN : (Try.prog.info? 3).map (fun i => (i.zero, i.size, i.bytes)) = some (some (.int .i64 0), 1, 8) := by kernel_rfl
theorem ncells_one (l : List Int) : ∀ u ∈ ncells l, u.oneCell' = true := by
  intro u hu
  simp only [ncells, List.mem_map] at hu
  obtain ⟨x, _, rfl⟩ := hu
  rfl
theorem wpList_nappend {w : World} {ops : Array Oper} {rest : List Oper} {o : Oper} {a : Act} {Q : Exit → Act → World → Prop} (hgd : o.guard = none) (s x : Operand)
    (ho : o.op = .call { callee := .builtin .append, args := #[s, x], argTypes := #[22, 22] })
    (B : Nat) (v : Value) (l : List Int) (y : Int) (hown : NOwn w B v l) (hs : a.eval s = v) (hx : a.eval x = .slice (some ⟨w.heap.size, 0, none⟩) 1 1)
    (hlen : l.length ≤ 10000000000000) (hB : B ≤ w.heap.size)
    (h : ∀ ao' cap' w', NOwn w' B (.slice ao' (l.length + 1) cap') (l ++ [y]) → Step v (w.alloc (.cells #[.int .i64 y] 3)) (.slice ao' (l.length + 1) cap') w' → wpList Try.prog ops Q rest (a.put o.dst (.slice ao' (l.length + 1) cap')) w') :
    wpList Try.prog ops Q (o :: rest) a (w.alloc (.cells #[.int .i64 y] 3)) := by
  obtain ⟨i0, hi, hz0, hz1, hz2⟩ := info_parts Try.infoN
  refine wpList_plain hgd fun K hK => ?_
  have hown' : (w.alloc (.cells #[.int .i64 y] 3)).ownsRow B 3 1 v l.length (ncells l) := own_below hown (below_alloc w _)
  obtain ⟨v', w', hr, h2, h3, _, h4⟩ := run_append_own_at (P := Try.prog) (w.alloc (.cells #[.int .i64 y] 3)) B 22 o.type 3 i0 (.int .i64 0) 1 8 Try.underlying22 hi hz0 hz1 hz2 rfl (by decide) v l.length (ncells l) hown' ⟨w.heap.size, 0, none⟩ 1 1 [.int .i64 y] rfl
    (fun j u hj => by
      have e : (⟨w.heap.size, 0, none⟩ : Addr).add j = ⟨w.heap.size, j, none⟩ := by unfold Addr.add; split <;> simp_all
      rw [e]
      exact cell_row (heap_alloc_new w _) j (by simpa using hj)) (ncells_one [y]) (by unfold maxLen; omega) (by omega) (by simp; omega)
  unfold Oper.wp execOp
  simp only [ho, resolve, invoke, builtin, Sem.run_bind, Sem.run_pure, Result.andThen_ok, List.map_toArray, List.map_cons, List.map_nil, hs, hx, hr]
  obtain ⟨ao', cap', rfl⟩ := own_slice h2
  refine hK _ _ (h ao' cap' w' ?_ (Step.of_at h3 h4))
  show w'.ownsRow B 3 1 _ (l ++ [y]).length (ncells (l ++ [y]))
  rw [ncells_append, List.length_append]
  exact h2
theorem NOwn.nil (w : World) (B : Nat) : NOwn w B (.slice none 0 0) [] := World.ownsRow_nil _ _ _ _
theorem NOwn.block {w : World} {B : Nat} {v : Value} {l : List Int} (h : NOwn w B v l) (hl : l ≠ []) : ∃ g cap cs, v = .slice (some ⟨g, 0, none⟩) l.length cap ∧ B ≤ g ∧ w.heap[g]? = some (.cells cs 3 (0, 0)) ∧ l.length ≤ cap ∧ cap ≤ maxLen ∧ cap ≤ cs.size ∧ ∀ (j : Nat) (x : Int), l[j]? = some x → cs[j]? = some (.int .i64 x) := by
  rcases h.2 with ⟨_, h0⟩ | ⟨g, cap, cur, rfl, hB, hg, h1, h2, h3, h4⟩
  · exact absurd (List.length_eq_zero_iff.1 h0) hl
  · refine ⟨g, cap, cur, rfl, hB, hg, h1, h2, by omega, fun j x hj => ?_⟩
    have hlt := (List.getElem?_eq_some_iff.1 hj).1
    have e : (ncells l)[j]? = some (.int .i64 x) := by simp [ncells, hj]
    rw [← h4, List.getElem?_take, if_pos (by omega), Array.getElem?_toList] at e
    exact e
def sortL : List Int → List Int
  | [x, y] => if y < x then [y, x] else [x, y]
  | l => l
def compL : List Int → List Int
  | [x, y] => if x = y then [x] else [x, y]
  | l => l
theorem NOwn.of_block {w : World} {B g cap n : Nat} {cs : Array Value} {l : List Int} (hB : B ≤ g) (hg : w.heap[g]? = some (.cells cs 3 (0, 0))) (hn : l.length = n) (h1 : n ≤ cap) (h2 : cap ≤ maxLen) (h3 : cs.size = cap) (h4 : ∀ (j : Nat) (x : Int), l[j]? = some x → cs[j]? = some (.int .i64 x)) : NOwn w B (.slice (some ⟨g, 0, none⟩) n cap) l := by
  subst hn
  refine ⟨by rw [ncells_len]; omega, .inr ⟨g, cap, cs, rfl, hB, hg, h1, h2, by omega, ?_⟩⟩
  apply List.ext_getElem?
  intro j
  rw [List.getElem?_take, Array.getElem?_toList]
  by_cases hj : j < l.length * 1
  · rw [if_pos hj]
    have e : l[j]? = some l[j] := List.getElem?_eq_getElem (by omega)
    rw [h4 j _ e]
    simp [ncells, e]
  · rw [if_neg hj, List.getElem?_eq_none (by rw [ncells_len]; omega)]
theorem sortN (B : Nat) (v : Value) (l : List Int) (w : World) (h : NOwn w B v l) (hl : l.length ≤ 2) :
    Calls Try.prog 22 #[v] w fun e w' => e = .returned (.tuple #[]) ∧ (NOwn w' B v (sortL l) ∧ Below B w w') := by
  match l, hl, h with
  | [], _, h =>
    obtain ⟨ao, cap, rfl⟩ := own_slice h
    exact sort_any ao 0 cap (by omega) w _ ((isort_few ao 0 cap (by omega) w).mono fun e w' ⟨he, hw⟩ => ⟨he, by cases hw; exact ⟨h, Below.refl _ _⟩⟩)
  | [x], _, h =>
    obtain ⟨ao, cap, rfl⟩ := own_slice h
    exact sort_any ao 1 cap (by omega) w _ ((isort_few ao 1 cap (by omega) w).mono fun e w' ⟨he, hw⟩ => ⟨he, by cases hw; exact ⟨h, Below.refl _ _⟩⟩)
  | [x, y], _, h =>
    obtain ⟨g, cap, cs, rfl, hB, hg, h1, h2, h3, h4⟩ := h.block (by simp)
    have e3 : cs.size = cap := by
      rcases h.2 with ⟨e, _⟩ | ⟨g', cap', cur, e, _, hg', _, _, h5, _⟩
      · cases e
      · cases e
        rw [hg] at hg'
        cases hg'
        omega
    have hh := isort_two g cap x y cs w hg (h4 0 x rfl) (h4 1 y rfl)
    refine sort_any (some ⟨g, 0, none⟩) 2 cap (by omega) w _ (hh.mono fun e w' ⟨he, ho, hc⟩ => ⟨he, ?_, ho.below hB⟩)
    show NOwn w' B (.slice (some ⟨g, 0, none⟩) 2 cap) (sortL [x, y])
    have h1' : 2 ≤ cap := h1
    rw [show sortL [x, y] = if y < x then [y, x] else [x, y] from rfl]
    unfold sort2 at hc
    by_cases hyx : y < x
    · rw [if_pos hyx] at hc ⊢
      refine NOwn.of_block hB hc rfl h1' h2 (by simpa using e3) fun j z hj => ?_
      match j, hj with
      | 0, hj => simp at hj; subst hj; rw [Array.getElem?_setIfInBounds_self_of_lt (by simp; omega)]
      | 1, hj => simp at hj; subst hj; rw [Array.getElem?_setIfInBounds_ne (by decide), Array.getElem?_setIfInBounds_self_of_lt (by omega)]
      | j + 2, hj => simp at hj
    · rw [if_neg hyx] at hc ⊢
      exact NOwn.of_block hB hc rfl h1' h2 e3 h4
  | _ :: _ :: _ :: _, hl, _ => simp at hl
theorem compactN (B : Nat) (v : Value) (l : List Int) (w : World) (h : NOwn w B v l) (hl : l.length ≤ 2) :
    Calls Try.prog 23 #[v] w fun e w' => ∃ v', e = .returned v' ∧ NOwn w' B v' (compL l) ∧ Below B w w' := by
  match l, hl, h with
  | [], _, h =>
    obtain ⟨ao, cap, rfl⟩ := own_slice h
    exact (compact_few ao 0 cap (by omega) w).mono fun e w' ⟨he, hw⟩ => ⟨_, he, by cases hw; exact ⟨h, Below.refl _ _⟩⟩
  | [x], _, h =>
    obtain ⟨ao, cap, rfl⟩ := own_slice h
    exact (compact_few ao 1 cap (by omega) w).mono fun e w' ⟨he, hw⟩ => ⟨_, he, by cases hw; exact ⟨h, Below.refl _ _⟩⟩
  | [x, y], _, h =>
    obtain ⟨g, cap, cs, rfl, hB, hg, h1, h2, h3, h4⟩ := h.block (by simp)
    have e3 : cs.size = cap := by
      rcases h.2 with ⟨e, _⟩ | ⟨g', cap', cur, e, _, hg', _, _, h5, _⟩
      · cases e
      · cases e
        rw [hg] at hg'
        cases hg'
        omega
    have h1' : 2 ≤ cap := h1
    rw [show compL [x, y] = if x = y then [x] else [x, y] from rfl]
    by_cases hxy : x = y
    · subst hxy
      rw [if_pos rfl]
      refine (compact_same g cap x cs h1' h2 w hg (h4 0 x rfl) (h4 1 x rfl)).mono fun e w' ⟨he, ho, u, hc⟩ => ⟨_, he, ?_, ho.below hB⟩
      refine NOwn.of_block hB hc rfl (by omega) h2 (by simpa using e3) fun j z hj => ?_
      match j, hj with
      | 0, hj => simp at hj; subst hj; simpa using h4 0 x rfl
      | j + 1, hj => simp at hj
    · rw [if_neg hxy]
      refine (compact_two g cap x y hxy w (cell_row hg 0 (h4 0 x rfl)) (cell_row hg 1 (h4 1 y rfl))).mono fun e w' ⟨he, q, hw⟩ => ⟨_, he, ?_⟩
      subst hw
      exact ⟨h, below_drewN (Below.refl _ _) q⟩
  | _ :: _ :: _ :: _, hl, _ => simp at hl
theorem nextL_sorted (l : List IN) (k : Nat) (x : IN) : nextL l k x = compL (sortL ((if !endsB x.op && decide (k + 1 < l.length) then [(k : Int) + 1] else []) ++ (if tgtZ l x < 0 then [] else [tgtZ l x]))) := by
  unfold nextL
  by_cases h1 : (!endsB x.op && decide (k + 1 < l.length)) = true
  · rw [if_pos h1, if_pos h1]
    by_cases h2 : tgtZ l x < 0
    · simp only [if_pos h2]; rfl
    · simp only [if_neg h2]
      simp only [List.cons_append, List.nil_append]
      rw [show sortL [(k : Int) + 1, tgtZ l x] = if tgtZ l x < (k : Int) + 1 then [tgtZ l x, (k : Int) + 1] else [(k : Int) + 1, tgtZ l x] from rfl]
      by_cases h3 : tgtZ l x < (k : Int) + 1
      · rw [if_pos h3, if_pos h3, show compL [tgtZ l x, (k : Int) + 1] = if tgtZ l x = (k : Int) + 1 then [tgtZ l x] else [tgtZ l x, (k : Int) + 1] from rfl, if_neg (by omega)]
      · rw [if_neg h3, if_neg h3, show compL [(k : Int) + 1, tgtZ l x] = if (k : Int) + 1 = tgtZ l x then [(k : Int) + 1] else [(k : Int) + 1, tgtZ l x] from rfl]
        by_cases h4 : tgtZ l x = (k : Int) + 1
        · rw [if_pos h4, if_pos h4.symm]
        · rw [if_neg h4, if_neg (fun h => h4 h.symm)]
  · rw [if_neg h1, if_neg h1]
    by_cases h2 : tgtZ l x < 0
    · simp only [if_pos h2]; rfl
    · simp only [if_neg h2]; rfl
theorem NOwn.step {w w' : World} {B : Nat} {v : Value} {l : List Int} (h : NOwn w B v l) (hb : Below w.heap.size w w') : NOwn w' B v l := own_below h hb
theorem NOwn.drewN {w : World} {B : Nat} {v : Value} {l : List Int} (h : NOwn w B v l) (q : Nat) : NOwn (w.drewN q) B v l := h
theorem sortL_len (l : List Int) : (sortL l).length = l.length := by
  unfold sortL
  split
  · split <;> rfl
  · rfl
end Go.Proofs.Ytbmfkbgncjldjab
