/- known of the statements' package: walked. -/
import Derived.Test.YtjbkhaafaplceaaFR
import Derived.Test.YtjbkhaafaplceaaFJ
namespace Go.Proofs.Ytjbkhaafaplceaa
open Go.RowKit

theorem IView.laidN (w : World) (l : List IN) (hm : l.length ≤ maxLen) : IView (w.alloc (.cells (icells l).toArray 23)) (.slice (some ⟨w.heap.size, 0, none⟩) l.length l.length) l :=
  ⟨_, _, rfl, Nat.le_refl _, hm, .inr ⟨_, _, rfl, ILies.of_block (heap_alloc_new w _) rfl (by rw [← icells_len]; simp)⟩⟩
def lNop : List IN := [⟨0, 0, 0, 0⟩]
def lGo : List IN := [⟨0, 167, 3, 0⟩, ⟨3, 167, 0, 0⟩]
def lRet : List IN := [⟨0, 177, 0, 0⟩, ⟨1, 177, 0, 0⟩]
theorem chk_nop : checkZ lNop [] [] = (17, 0) := by kernel_rfl
theorem lead_go : leadZ lGo [] = [true, true] := by kernel_rfl
theorem next_go0 : nextZ lGo 0 = [1] := by kernel_rfl
theorem next_go1 : nextZ lGo 1 = [0] := by kernel_rfl
theorem next_ret0 : nextZ lRet 0 = [] := by kernel_rfl
theorem blk_go {bl : List (Nat × Nat)} (h : Blk (leadZ lGo []) lGo.length 0 bl) : bl = [(0, 1), (1, 2)] := by
  refine h.unique ?_
  rw [lead_go]
  exact .cons (by decide) (by decide) (fun q h1 h2 => by omega) (.inr rfl) (.cons (by decide) (by decide) (fun q h1 h2 => by omega) (.inl rfl) .nil)
theorem nx_go {nu : List Int} (hn : Numb [(0, 1), (1, 2)] nu) : (nextZ lGo (((1 : Nat) : Int) - 1)).map (fun m => (nu[m.toNat]?).getD 0) = [1] ∧ (nextZ lGo (((2 : Nat) : Int) - 1)).map (fun m => (nu[m.toNat]?).getD 0) = [0] := by
  have h0 := hn 0 (0, 1) rfl
  have h1 := hn 1 (1, 2) rfl
  rw [show ((1 : Nat) : Int) - 1 = 0 by omega, show ((2 : Nat) : Int) - 1 = 1 by omega, next_go0, next_go1]
  simp only [List.map_cons, List.map_nil]
  rw [show (1 : Int).toNat = 1 from rfl, show (0 : Int).toNat = 0 from rfl, h0, h1]
  exact ⟨rfl, rfl⟩
theorem reach_ret {r : List Bool} (h : ReachIs lRet [] r) : r = [true, false] := by
  refine h.unique ⟨rfl, fun k hk => ?_⟩
  have hz : ∀ k, Rch lRet [] k → k = 0 := by
    intro k hr
    induction hr with
    | zero => rfl
    | step _ hs ih =>
      subst ih
      rcases hs with hs | ⟨i, x, _, hx, _⟩
      · rw [show ((0 : Nat) : Int) = 0 from rfl, next_ret0] at hs; simp at hs
      · simp at hx
  have hk2 : k < 2 := hk
  match k, hk2 with
  | 0, _ => exact ⟨fun _ => .zero (by decide), fun _ => rfl⟩
  | 1, _ => exact ⟨fun h => by simp at h, fun h => by have := hz 1 h; omega⟩
theorem places_of (l : List IN) (h : l.all (fun x => decide (-4611686018427387904 ≤ x.pl) && decide (x.pl ≤ 4611686018427387904)) = true) : Places l := fun x hx => by
  have := List.all_eq_true.1 h x hx
  simpa using this
/-- What the walk makes of Blocks' answer. -/
theorem pv_go {w : World} {ao : Option Addr} {cap : Nat} {bl : List (Nat × Nat)} {nu : List Int} (hb : Blk (leadZ lGo []) lGo.length 0 bl) (hn : Numb bl nu) (hk : bl = [] ∨ ∃ g cs, ao = some ⟨g, 0, none⟩ ∧ KL w g bl (fun x => (nextZ lGo ((x.2 : Int) - 1)).map (fun m => (nu[m.toNat]?).getD 0)) bl.length cs) :
    bl = [(0, 1), (1, 2)] ∧ PV w (.slice ao 2 cap) [(0, 1), (1, 2)] (fun x => if x.1 = 0 then [1] else [0]) := by
  have e := blk_go hb
  subst e
  refine ⟨rfl, ao, cap, rfl, by decide, fun j x hj => ?_⟩
  rcases hk with h | ⟨g, cs, rfl, hk⟩
  · cases h
  · obtain ⟨h1, h2, _⟩ := hk.fst j x hj
    obtain ⟨u, h3, h4⟩ := hk.lst j x hj (List.getElem?_eq_some_iff.1 hj).1
    refine ⟨g, 0, u, rfl, cell_row hk.row _ (by rw [Nat.zero_add]; exact h1), cell_row hk.row _ (by rw [Nat.zero_add]; exact h2), cell_row hk.row _ (by rw [Nat.zero_add]; exact h3), ?_⟩
    have hnx := nx_go hn
    match j, hj with
    | 0, hj => simp at hj; subst hj; have := h4.view; dsimp only at this; rw [hnx.1] at this; exact this
    | 1, hj => simp at hj; subst hj; have := h4.view; dsimp only at this; rw [hnx.2] at this; exact this
    | j + 2, hj => simp at hj
theorem NView.laid1 (w : World) (y : Int) : NView (w.alloc (.cells #[.int .i64 y] 3)) (.slice (some ⟨w.heap.size, 0, none⟩) 1 1) [y] := by
  refine ⟨_, _, rfl, Nat.le_refl _, by decide, .inr ⟨_, _, rfl, fun j x hj => ?_⟩⟩
  match j, hj with
  | 0, hj => simp at hj; subst hj; exact cell_row (heap_alloc_new w _) 0 rfl
  | j + 1, hj => simp at hj
theorem PV.below {w w' : World} {v : Value} {bl : List (Nat × Nat)} {nx : Nat × Nat → List Int} (h : PV w v bl nx) (hb : Below w.heap.size w w') : PV w' v bl nx := by
  obtain ⟨ao, cap, e, h1, h2⟩ := h
  refine ⟨ao, cap, e, h1, fun j x hj => ?_⟩
  obtain ⟨g, off, u, e, c0, c1, c2, n⟩ := h2 j x hj
  exact ⟨g, off, u, e, cell_later hb c0, cell_later hb c1, cell_later hb c2, n.below hb⟩
/-- The document's two blocks, as the statement lays them. -/
theorem pv_lit (w : World) : PV (((w.alloc (.cells #[.int .i64 1] 3)).alloc (.cells #[.int .i64 0] 3)).alloc (.cells #[.int .i64 0, .int .i64 1, .slice (some ⟨w.heap.size, 0, none⟩) 1 1, .int .i64 1, .int .i64 2, .slice (some ⟨w.heap.size + 1, 0, none⟩) 1 1] 68)) (.slice (some ⟨w.heap.size + 1 + 1, 0, none⟩) 2 2) [(0, 1), (1, 2)] (fun x => if x.1 = 0 then [1] else [0]) := by
  have hr := heap_alloc_new' (w := (w.alloc (.cells #[.int .i64 1] 3)).alloc (.cells #[.int .i64 0] 3)) (o := .cells #[.int .i64 0, .int .i64 1, .slice (some ⟨w.heap.size, 0, none⟩) 1 1, .int .i64 1, .int .i64 2, .slice (some ⟨w.heap.size + 1, 0, none⟩) 1 1] 68) (k := w.heap.size + 1 + 1) (by simp)
  have n1 := ((NView.laid1 w 1).below (below_alloc _ (.cells #[.int .i64 0] 3))).below (below_alloc _ (.cells #[.int .i64 0, .int .i64 1, .slice (some ⟨w.heap.size, 0, none⟩) 1 1, .int .i64 1, .int .i64 2, .slice (some ⟨w.heap.size + 1, 0, none⟩) 1 1] 68))
  have n2 := (NView.laid1 (w.alloc (.cells #[.int .i64 1] 3)) 0).below (below_alloc _ (.cells #[.int .i64 0, .int .i64 1, .slice (some ⟨w.heap.size, 0, none⟩) 1 1, .int .i64 1, .int .i64 2, .slice (some ⟨w.heap.size + 1, 0, none⟩) 1 1] 68))
  rw [show (w.alloc (.cells #[.int .i64 1] 3)).heap.size = w.heap.size + 1 by simp] at n2
  refine ⟨_, 2, rfl, by decide, fun j x hj => ⟨w.heap.size + 1 + 1, 0, ?_⟩⟩
  match j, hj with
  | 0, hj => simp at hj; subst hj; exact ⟨_, rfl, cell_row hr 0 rfl, cell_row hr 1 rfl, cell_row hr 2 rfl, n1⟩
  | 1, hj => simp at hj; subst hj; exact ⟨_, rfl, cell_row hr 3 rfl, cell_row hr 4 rfl, cell_row hr 5 rfl, n2⟩
  | j + 2, hj => simp at hj
theorem BView.laidN (w : World) (d : List Bool) (hm : d.length ≤ maxLen) : BView (w.alloc (.cells (bcellsB d) 4)) (.slice (some ⟨w.heap.size, 0, none⟩) d.length d.length) d :=
  ⟨_, _, rfl, Nat.le_refl _, hm, .inr ⟨_, _, rfl, fun j x hj => cell_row (heap_alloc_new w _) _ (by rw [Nat.zero_add]; simp [bcellsB, hj])⟩⟩
theorem BView.row_of {w : World} {g n : Nat} {d : List Bool} (h : w.heap[g]? = some (.cells (bcellsB d) 4 (0, 0))) (hn : d.length = n) (hm : d.length ≤ maxLen) : BView w (.slice (some ⟨g, 0, none⟩) n n) d := by
  subst hn
  exact ⟨_, _, rfl, Nat.le_refl _, hm, .inr ⟨_, _, rfl, fun j x hj => cell_row h _ (by rw [Nat.zero_add]; simp [bcellsB, hj])⟩⟩
end Go.Proofs.Ytjbkhaafaplceaa
