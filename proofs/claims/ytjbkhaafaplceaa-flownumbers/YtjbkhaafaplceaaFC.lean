/- slices.Sort over at most two numbers: walked. -/
import Derived.Test.YtjbkhaafaplceaaFB
import Derived.Lib.SliceRun
namespace Go.Proofs.Ytjbkhaafaplceaa
open Go.RowKit

def ncells (l : List Int) : List Value := l.map (Value.int .i64)
theorem ncells_append (a b : List Int) : ncells (a ++ b) = ncells a ++ ncells b := by simp [ncells]
theorem ncells_len (l : List Int) : (ncells l).length = l.length := by simp [ncells]
theorem nan_any (x : Int) (w : World) : Calls Try.prog 76 #[.int .i64 x] w fun e w' => e = .returned (.bool false) ∧ w' = w := by
  go_enter Try.func76, Try.ntmps76
  go_wp2
  go_ret
  exact ⟨rfl, rfl⟩
theorem less_any (x y : Int) (w : World) : Calls Try.prog 60 #[.int .i64 x, .int .i64 y] w fun e w' => e = .returned (.bool (decide (x < y))) ∧ w' = w := by
  have G := hidIt (fun x W => nan_any x W)
  go_enter Try.func60, Try.ntmps60
  go_wp2_with (go_at_call 76; refine (G.out _ _).mono ?_; rintro e w' ⟨rfl, hww⟩; cases hww)
  all_goals go_ret
  all_goals exact ⟨by simp_all, rfl⟩
/-- Every block but g stands; nothing is made. -/
structure OnlyG (g : Nat) (w w' : World) : Prop where
  os : w'.os = w.os
  tape : w'.tape = w.tape
  output : w'.output = w.output
  size : w'.heap.size = w.heap.size
  block : ∀ k, k ≠ g → w'.heap[k]? = w.heap[k]?
theorem OnlyG.refl (g : Nat) (w : World) : OnlyG g w w := ⟨rfl, rfl, rfl, rfl, fun _ _ => rfl⟩
theorem OnlyG.trans {g : Nat} {a b c : World} (h : OnlyG g a b) (k : OnlyG g b c) : OnlyG g a c := ⟨k.os.trans h.os, k.tape.trans h.tape, k.output.trans h.output, k.size.trans h.size, fun i hi => (k.block i hi).trans (h.block i hi)⟩
theorem OnlyG.drewN {g : Nat} {a b : World} (h : OnlyG g a b) (q : Nat) : OnlyG g a (b.drewN q) := ⟨h.os, h.tape, h.output, h.size, h.block⟩
theorem OnlyG.set {g o : Nat} {a b : World} {u : Value} (h : OnlyG g a b) : OnlyG g a (b.setCell ⟨g, o, none⟩ u) :=
  ⟨h.os, h.tape, h.output, by simpa [World.setCell] using h.size, fun i hi => by rw [Below.heap_setCell _ _ _ _ hi]; exact h.block i hi⟩
theorem OnlyG.below {g B : Nat} {a b : World} (h : OnlyG g a b) (hg : B ≤ g) : Below B a b :=
  ⟨h.os, h.tape, h.output, by rw [h.size]; exact Nat.le_refl _, fun k hk => h.block k (by omega)⟩
/-- What sorting two cells leaves. -/
def sort2 (x y : Int) (cs : Array Value) : Array Value := if y < x then (cs.setIfInBounds 1 (.int .i64 x)).setIfInBounds 0 (.int .i64 y) else cs
set_option maxRecDepth 8000 in
set_option maxHeartbeats 2000000 in
theorem isort_two (g cap : Nat) (x y : Int) (cs : Array Value) (w : World) (h : w.heap[g]? = some (.cells cs 3 (0, 0))) (h0 : cs[0]? = some (.int .i64 x)) (h1 : cs[1]? = some (.int .i64 y)) :
    Calls Try.prog 54 #[.slice (some ⟨g, 0, none⟩) 2 cap, .int .i64 0, .int .i64 2] w fun e w' => e = .returned (.tuple #[]) ∧ OnlyG g w w' ∧
      w'.heap[g]? = some (.cells (sort2 x y cs) 3 (0, 0)) := by
  have G := hidIt (fun x y W => less_any x y W)
  have c0 := cell_row h 0 h0
  have c1 := cell_row h 1 h1
  have H := hidIt h
  have hbl := cell_lt c0
  have f0 := frozen_row h
  clear h h0 h1
  have HY : Hid (y < x → sort2 x y cs = (cs.setIfInBounds 1 (.int .i64 x)).setIfInBounds 0 (.int .i64 y)) := fun h => by unfold sort2; rw [if_pos h]
  have HN : Hid (¬ y < x → sort2 x y cs = cs) := fun h => by unfold sort2; rw [if_neg h]
  generalize sort2 x y cs = cs' at *
  go_enter Try.func54, Try.ntmps54
  go_wp2
  go_loopw [6, 7] (fun i _ wr => (i = .int .i64 1 ∧ wr = w) ∨ (i = .int .i64 2 ∧ OnlyG g w wr ∧ wr.heap[g]? = some (.cells cs' 3 (0, 0)))) (fun i _ _ => 3 - (intOf i).toNat)
  case atStart => exact .inl ⟨rfl, rfl⟩
  case round =>
    rcases hrel with ⟨rfl, hww⟩ | ⟨rfl, h1, h2⟩
    · cases hww
      go_wp2
      go_loopw [7] (fun j wr => (j = .int .i64 1 ∧ wr = w) ∨ (j = .int .i64 0 ∧ y < x ∧ OnlyG g w wr ∧ wr.heap[g]? = some (.cells cs' 3 (0, 0)))) (fun j _ => (intOf j).toNat)
      case atStart => exact .inl ⟨rfl, rfl⟩
      case round =>
        rcases hrel with ⟨rfl, hww⟩ | ⟨rfl, hyx, h1, h2⟩
        · cases hww
          by_cases hlt : y < x
          · have G2 := hidIt (fun W => G.out y x W)
            rw [decide_eq_true hlt] at G2
            go_wp2
            go_quiet ((go_at_call 60; exact Calls.quiet_of_same (G2.out _)))
            go_wp2
            go_region
            go_wp2
            refine ⟨.inr ⟨rfl, hlt, ((OnlyG.refl g w).drewN _).set.set, ?_⟩, by simp [intOf]⟩
            rw [HY.out hlt]
            exact set_row (set_row H.out)
          · have G2 := hidIt (fun W => G.out y x W)
            rw [decide_eq_false hlt] at G2
            go_wp2
            go_quiet ((go_at_call 60; exact Calls.quiet_of_same (G2.out _)))
            go_wp2
            exact ⟨.inr ⟨rfl, (OnlyG.refl g w).drewN _, by rw [HN.out hlt]; exact H.out⟩, by simp [intOf]⟩
        · have HO := hidIt h1
          have H2 := hidIt h2
          clear h1 h2
          go_wp2
          go_quiet (fail)
          go_wp2
          exact ⟨.inr ⟨rfl, HO.out.drewN _, H2.out⟩, by simp [intOf]⟩
    · have HO := hidIt h1
      have H2 := hidIt h2
      clear h1 h2
      go_wp2
      go_end0
      exact ⟨rfl, HO.out, H2.out⟩
set_option maxRecDepth 8000 in
set_option maxHeartbeats 2000000 in
theorem isort_few (ao : Option Addr) (n cap : Nat) (hn : n ≤ 1) (w : World) :
    Calls Try.prog 54 #[.slice ao n cap, .int .i64 0, .int .i64 (n : Int)] w fun e w' => e = .returned (.tuple #[]) ∧ w' = w := by
  have hn' : ¬ (1 : Int) < (n : Int) := by omega
  go_enter Try.func54, Try.ntmps54
  go_wp2
  go_loopw [6, 7] (fun i _ wr => (i = .int .i64 1 ∧ wr = w)) (fun i _ _ => 3 - (intOf i).toNat)
  case atStart => exact ⟨rfl, rfl⟩
  case round =>
    obtain ⟨rfl, hww⟩ := hrel
    cases hww
    go_wp2
    go_end0
    exact ⟨rfl, rfl⟩
set_option maxRecDepth 8000 in
set_option maxHeartbeats 2000000 in
theorem len64_any (n : Nat) (hn : n ≤ 2) (w : World) : Calls Try.prog 64 #[.int .u64 (n : Int)] w fun e w' => (∃ k : Int, e = .returned (.int .i64 k)) ∧ w' = w := by
  have h : n = 0 ∨ n = 1 ∨ n = 2 := by omega
  rcases h with rfl | rfl | rfl
  all_goals
    go_enter Try.func64, Try.ntmps64
    go_wp2
    go_ret
    exact ⟨⟨_, rfl⟩, rfl⟩
set_option maxRecDepth 8000 in
set_option maxHeartbeats 2000000 in
theorem len_any (n : Nat) (hn : n ≤ 2) (w : World) : Calls Try.prog 47 #[.int .u64 (n : Int)] w fun e w' => (∃ k : Int, e = .returned (.int .i64 k)) ∧ w' = w := by
  have G := hidIt (len64_any n hn w)
  go_enter Try.func47, Try.ntmps47
  go_wp2_with (go_at_call 64; refine G.out.mono ?_; rintro e w' ⟨⟨k, rfl⟩, hww⟩; cases hww)
  go_ret
  exact ⟨⟨k, rfl⟩, rfl⟩
set_option maxRecDepth 8000 in
set_option maxHeartbeats 2000000 in
theorem pdq_any (ao : Option Addr) (n cap : Nat) (k : Int) (hn : n ≤ 2) (w : World) (Q : World → Prop) (h : Calls Try.prog 54 #[.slice ao n cap, .int .i64 0, .int .i64 (n : Int)] w fun e w' => e = .returned (.tuple #[]) ∧ Q w') :
    Calls Try.prog 46 #[.slice ao n cap, .int .i64 0, .int .i64 (n : Int), .int .i64 k] w fun e w' => e = .returned (.tuple #[]) ∧ Q w' := by
  have G := hidIt h
  have hn' : (n : Int) ≤ 12 := by omega
  clear h
  go_enter Try.func46, Try.ntmps46
  go_wp2
  go_loopw [1, 2] (fun a b wr => a = .int .i64 0 ∧ b = .int .i64 (n : Int) ∧ wr = w) (fun _ _ _ => 0)
  case atStart => exact ⟨rfl, rfl, rfl⟩
  case round =>
    obtain ⟨rfl, rfl, hww⟩ := hrel
    cases hww
    go_wp2_with (go_at_call 54; refine G.out.mono ?_; rintro e w' ⟨rfl, hQ⟩)
    refine bodyPost_ret (results_none rfl _ _ _) rfl ?_
    exact ⟨rfl, hQ⟩
set_option maxRecDepth 8000 in
set_option maxHeartbeats 2000000 in
theorem sort_any (ao : Option Addr) (n cap : Nat) (hn : n ≤ 2) (w : World) (Q : World → Prop) (h : Calls Try.prog 54 #[.slice ao n cap, .int .i64 0, .int .i64 (n : Int)] w fun e w' => e = .returned (.tuple #[]) ∧ Q w') :
    Calls Try.prog 31 #[.slice ao n cap] w fun e w' => e = .returned (.tuple #[]) ∧ Q w' := by
  have G1 := hidIt (len_any n hn w)
  have G2 := hidIt (fun k => pdq_any ao n cap k hn w Q h)
  clear h
  go_enter Try.func31, Try.ntmps31
  go_wp2_with (first | (go_at_call 47; refine G1.out.mono ?_; rintro e w' ⟨⟨k, rfl⟩, hww⟩; cases hww) | (go_at_call 46; refine (G2.out _).mono ?_; rintro e w' ⟨rfl, hQ⟩))
  go_end0
  exact ⟨rfl, hQ⟩
set_option maxRecDepth 8000 in
set_option maxHeartbeats 2000000 in
theorem compact_few (ao : Option Addr) (n cap : Nat) (hn : n ≤ 1) (w : World) :
    Calls Try.prog 32 #[.slice ao n cap] w fun e w' => e = .returned (.slice ao n cap) ∧ w' = w := by
  have hn' : (n : Int) < 2 := by omega
  go_enter Try.func32, Try.ntmps32
  go_wp2
  go_ret
  exact ⟨rfl, rfl⟩
set_option maxRecDepth 8000 in
set_option maxHeartbeats 2000000 in
theorem compact_two (g cap : Nat) (x y : Int) (hne : x ≠ y) (w : World) (c0 : w.cell? ⟨g, 0, none⟩ = some (.int .i64 x)) (c1 : w.cell? ⟨g, 1, none⟩ = some (.int .i64 y)) :
    Calls Try.prog 32 #[.slice (some ⟨g, 0, none⟩) 2 cap] w fun e w' => e = .returned (.slice (some ⟨g, 0, none⟩) 2 cap) ∧ ∃ q, w' = w.drewN q := by
  have hne' : (y == x) = false := by simpa using fun h => hne h.symm
  go_enter Try.func32, Try.ntmps32
  go_wp2
  go_loopw [3] (fun k wr => (k = .int .i64 1 ∨ k = .int .i64 2) ∧ ∃ q, wr = w.drewN q) (fun k _ => 3 - (intOf k).toNat)
  case atStart => exact ⟨.inl rfl, 0, rfl⟩
  case round =>
    obtain ⟨hk, q, rfl⟩ := hrel
    rcases hk with rfl | rfl
    · go_wp2
      try go_quiet (fail)
      try go_wp2
      exact ⟨⟨.inr rfl, _, rfl⟩, by simp [intOf]⟩
    · go_wp2
      go_ret
      exact ⟨rfl, _, rfl⟩
set_option maxRecDepth 8000 in
theorem run_clear1 (w : World) (nq g cap : Nat) (x : Int) (c1 : w.cell? ⟨g, 1, none⟩ = some (.int .i64 x)) (f0 : ∀ j, w.frozen? ⟨g, j, none⟩ = false) :
    (Builtin.clear_ #[37] 0 #[.slice (some ⟨g, 1, none⟩) 1 (cap - 1)]).run Try.prog (w.drewN nq) = .ok (.tuple #[]) ((w.drewN nq).setCell ⟨g, 1, none⟩ (.int .i64 0)) := by
  have := Go.Lib.run_clear_slice (P := Try.prog) (w.drewN nq) 37 3 0 (.int .i64 0) Try.underlying37 (fun _ => rfl) rfl rfl g 1 1 (cap - 1) (by omega)
    (by
      intro j hj
      obtain rfl : j = 0 := by omega
      have e : (w.drewN nq).cell? ⟨g, 1 + 0, none⟩ = some (.int .i64 x) := c1
      rw [e]
      rfl) (fun j _ => f0 (1 + j))
  exact this
set_option maxRecDepth 8000 in
set_option maxHeartbeats 2000000 in
theorem compact_same (g cap : Nat) (x : Int) (cs : Array Value) (hc2 : 2 ≤ cap) (hcm : cap ≤ 2 ^ 63 - 1) (w : World) (h : w.heap[g]? = some (.cells cs 3 (0, 0))) (h0 : cs[0]? = some (.int .i64 x)) (h1 : cs[1]? = some (.int .i64 x)) :
    Calls Try.prog 32 #[.slice (some ⟨g, 0, none⟩) 2 cap] w fun e w' => e = .returned (.slice (some ⟨g, 0, none⟩) 1 cap) ∧ OnlyG g w w' ∧ ∃ u, w'.heap[g]? = some (.cells (cs.setIfInBounds 1 u) 3 (0, 0)) := by
  have c0 := cell_row h 0 h0
  have c1 := cell_row h 1 h1
  have H := hidIt h
  have hbl := cell_lt c0
  have f0 := frozen_row h
  clear h h0 h1
  go_enter Try.func32, Try.ntmps32
  go_wp2
  go_loopw [3] (fun k wr => k = .int .i64 1 ∧ wr = w) (fun k _ => 3 - (intOf k).toNat)
  case atStart => exact ⟨rfl, rfl⟩
  case round =>
    obtain ⟨rfl, hww⟩ := hrel
    cases hww
    go_wp2
    go_quiet (fail)
    go_wp2
    go_loopw [3, 5] (fun k k2 wr => k = .int .i64 1 ∧ k2 = .int .i64 1 ∧ wr = w.drewN nq) (fun _ _ _ => 0)
    case atStart => exact ⟨rfl, rfl, rfl⟩
    case round =>
      obtain ⟨rfl, rfl, rfl⟩ := hrel
      have hcl := run_clear1 w nq g cap x c1 f0
      go_wp2
      go_ret
      refine ⟨rfl, ?_, .int .i64 0, ?_⟩
      · exact ((OnlyG.refl g w).drewN nq).set
      · exact set_row H.out
end Go.Proofs.Ytjbkhaafaplceaa
