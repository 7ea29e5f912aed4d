/- The document's own Reader: refuse, Left, Fail, End, Bytes. -/
import Derived.Test.YtjnaiekdbigikaaDoorRdN
namespace Go.Proofs.YtjnaiekdbigikaaDoor
open Go.RowKit

/-- The document's reader at block pr over the bytes l: its place t, whether it refused, why, where. -/
structure IsB (pr : Nat) (w : World) (v : Value) (l : List Int) (t : Nat) (f : Bool) (y z : Int) : Prop where
  blk : w.heap[pr]? = some (.cells #[v, .int .i64 (t : Int), .bool f, .int .i64 y, .int .i64 z] 54 (0, 0))
  view : View w v l
  le : t ≤ l.length

theorem IsB.lt {pr : Nat} {w : World} {v : Value} {l : List Int} {t : Nat} {f : Bool} {y : Int} {z : Int} (h : IsB pr w v l t f y z) : pr < w.heap.size := (Array.getElem?_eq_some_iff.1 h.blk).1
theorem IsB.c0 {pr : Nat} {w : World} {v : Value} {l : List Int} {t : Nat} {f : Bool} {y : Int} {z : Int} (h : IsB pr w v l t f y z) : w.cell? ⟨pr, 0, none⟩ = some v := by rw [cell_of_row w pr 0 _ 54 (0, 0) h.blk]; rfl
theorem IsB.c1 {pr : Nat} {w : World} {v : Value} {l : List Int} {t : Nat} {f : Bool} {y : Int} {z : Int} (h : IsB pr w v l t f y z) : w.cell? ⟨pr, 1, none⟩ = some (.int .i64 (t : Int)) := by rw [cell_of_row w pr 1 _ 54 (0, 0) h.blk]; rfl
theorem IsB.c2 {pr : Nat} {w : World} {v : Value} {l : List Int} {t : Nat} {f : Bool} {y : Int} {z : Int} (h : IsB pr w v l t f y z) : w.cell? ⟨pr, 2, none⟩ = some (.bool f) := by rw [cell_of_row w pr 2 _ 54 (0, 0) h.blk]; rfl
theorem IsB.c3 {pr : Nat} {w : World} {v : Value} {l : List Int} {t : Nat} {f : Bool} {y : Int} {z : Int} (h : IsB pr w v l t f y z) : w.cell? ⟨pr, 3, none⟩ = some (.int .i64 y) := by rw [cell_of_row w pr 3 _ 54 (0, 0) h.blk]; rfl
theorem IsB.c4 {pr : Nat} {w : World} {v : Value} {l : List Int} {t : Nat} {f : Bool} {y : Int} {z : Int} (h : IsB pr w v l t f y z) : w.cell? ⟨pr, 4, none⟩ = some (.int .i64 z) := by rw [cell_of_row w pr 4 _ 54 (0, 0) h.blk]; rfl

/-- No bytes lie in the reader's own block. -/
theorem IsB.apart {pr : Nat} {w : World} {v : Value} {l : List Int} {t : Nat} {f : Bool} {y : Int} {z : Int} (h : IsB pr w v l t f y z) {m : List Int} {g off : Nat} (hl : Lies w g off m) (hne : m ≠ []) : g ≠ pr := by
  rintro rfl
  obtain ⟨x, r, rfl⟩ := List.exists_cons_of_ne_nil hne
  have := hl 0 x rfl
  rw [cell_of_row w g (off + 0) _ 54 (0, 0) h.blk] at this
  obtain ⟨ao, cap, rfl, _⟩ := h.view
  match off, this with
  | 0, this => simp at this
  | 1, this => simp at this
  | 2, this => simp at this
  | 3, this => simp at this
  | 4, this => simp at this
  | k + 5, this => simp at this
/-- Nor in the other reader's. -/
theorem IsR.apart2 {pr : Nat} {w : World} {v : Value} {l : List Int} {y : Int} {a : Nat} (h : IsR pr w v l a y) {m : List Int} {g off : Nat} (hl : Lies w g off m) (hne : m ≠ []) : g ≠ pr := by
  rintro rfl
  obtain ⟨x, r, rfl⟩ := List.exists_cons_of_ne_nil hne
  have := hl 0 x rfl
  rw [cell_of_row w g (off + 0) _ 90 (0, 0) h.blk] at this
  obtain ⟨ao, cap, rfl, _⟩ := h.view
  match off, this with
  | 0, this => simp at this
  | 1, this => simp at this
  | 2, this => simp at this
  | k + 3, this => simp at this

theorem IsB.move {pr : Nat} {w : World} {w' : World} {v : Value} {l : List Int} {t : Nat} {f : Bool} {y : Int} {z : Int} {t' : Nat} {f' : Bool} {y' z' : Int} (h : IsB pr w v l t f y z) (ho : Only pr w w') (hb : w'.heap[pr]? = some (.cells #[v, .int .i64 (t' : Int), .bool f', .int .i64 y', .int .i64 z'] 54 (0, 0))) (hle : t' ≤ l.length) : IsB pr w' v l t' f' y' z' :=
  ⟨hb, h.view.only ho (fun _ _ hl hne => h.apart hl hne), hle⟩
theorem IsB.below {pr : Nat} {w : World} {w' : World} {v : Value} {l : List Int} {t : Nat} {f : Bool} {y : Int} {z : Int} (h : IsB pr w v l t f y z) (hb : Below w.heap.size w w') : IsB pr w' v l t f y z :=
  ⟨(hb.block pr h.lt).trans h.blk, h.view.below hb, h.le⟩

theorem bset1 {pr : Nat} {w : World} {v : Value} {x : Value} {b : Value} {y : Value} {z : Value} {u : Value} (h : w.heap[pr]? = some (.cells #[v, x, b, y, z] 54 (0, 0))) : (w.setCell ⟨pr, 1, none⟩ u).heap[pr]? = some (.cells #[v, u, b, y, z] 54 (0, 0)) := by
  simp only [World.setCell, Array.getElem?_modify, if_pos, h, Option.map_some]
  simp
theorem bset2 {pr : Nat} {w : World} {v : Value} {x : Value} {b : Value} {y : Value} {z : Value} {u : Value} (h : w.heap[pr]? = some (.cells #[v, x, b, y, z] 54 (0, 0))) : (w.setCell ⟨pr, 2, none⟩ u).heap[pr]? = some (.cells #[v, x, u, y, z] 54 (0, 0)) := by
  simp only [World.setCell, Array.getElem?_modify, if_pos, h, Option.map_some]
  simp
theorem bset3 {pr : Nat} {w : World} {v : Value} {x : Value} {b : Value} {y : Value} {z : Value} {u : Value} (h : w.heap[pr]? = some (.cells #[v, x, b, y, z] 54 (0, 0))) : (w.setCell ⟨pr, 3, none⟩ u).heap[pr]? = some (.cells #[v, x, b, u, z] 54 (0, 0)) := by
  simp only [World.setCell, Array.getElem?_modify, if_pos, h, Option.map_some]
  simp
theorem bset4 {pr : Nat} {w : World} {v : Value} {x : Value} {b : Value} {y : Value} {z : Value} {u : Value} (h : w.heap[pr]? = some (.cells #[v, x, b, y, z] 54 (0, 0))) : (w.setCell ⟨pr, 4, none⟩ u).heap[pr]? = some (.cells #[v, x, b, y, u] 54 (0, 0)) := by
  simp only [World.setCell, Array.getElem?_modify, if_pos, h, Option.map_some]
  simp

set_option maxRecDepth 8000 in
set_option maxHeartbeats 800000 in
theorem refuse_yes (pr : Nat) (v : Value) (l : List Int) (t : Nat) (y z why at_ : Int) (w : World) (h : IsB pr w v l t false y z) :
    Calls Tryd.prog 70 #[.pointer (some ⟨pr, 0, none⟩), .int .i64 why, .int .i64 at_] w fun r w' => r = .returned (.tuple #[]) ∧ IsB pr w' v l t true why at_ ∧ Only pr w w' := by
  have c2 := h.c2
  have f2 := frozen_row h.blk 2
  have f3 := frozen_row h.blk 3
  have f4 := frozen_row h.blk 4
  have c3 := h.c3
  have c4 := h.c4
  have o1 : Only pr w (((w.setCell ⟨pr, 2, none⟩ (.bool true)).setCell ⟨pr, 3, none⟩ (.int .i64 why)).setCell ⟨pr, 4, none⟩ (.int .i64 at_)) :=
    ((Only.setCell _ _ _ _).trans (Only.setCell _ _ _ _)).trans (Only.setCell _ _ _ _)
  have HM := hidIt (h.move o1 (bset4 (bset3 (bset2 h.blk))) h.le)
  have HO := hidIt o1
  clear o1 h
  go_enter Tryd.func70, Tryd.ntmps70
  go_wp2
  go_end0
  exact ⟨rfl, HM.out, HO.out⟩

set_option maxRecDepth 8000 in
set_option maxHeartbeats 400000 in
theorem refuse_no (pr : Nat) (v : Value) (l : List Int) (t : Nat) (y z why at_ : Int) (w : World) (h : IsB pr w v l t true y z) :
    Calls Tryd.prog 70 #[.pointer (some ⟨pr, 0, none⟩), .int .i64 why, .int .i64 at_] w fun r w' => r = .returned (.tuple #[]) ∧ w' = w := by
  have c2 := h.c2
  go_enter Tryd.func70, Tryd.ntmps70
  go_wp2
  go_end0
  exact ⟨rfl, rfl⟩

/-- The document's reader at the place a with the refusal y (0: none), as the program's. -/
def IsS (pr : Nat) (w : World) (v : Value) (l : List Int) (a : Nat) (y : Int) : Prop :=
  (y = 0 ∧ IsB pr w v l a false 0 0) ∨ (y ≠ 0 ∧ ∃ t, IsB pr w v l t true y (a : Int))

theorem IsS.below {pr : Nat} {w w' : World} {v : Value} {l : List Int} {a : Nat} {y : Int} (h : IsS pr w v l a y) (hb : Below w.heap.size w w') : IsS pr w' v l a y := by
  rcases h with ⟨e, h⟩ | ⟨e, t, h⟩
  · exact .inl ⟨e, h.below hb⟩
  · exact .inr ⟨e, t, h.below hb⟩



set_option maxRecDepth 8000 in
set_option maxHeartbeats 800000 in
theorem reffail_any (pr : Nat) (v : Value) (l : List Int) (a : Nat) (y why : Int) (w : World) (h : IsS pr w v l a y) (hwhy : why ≠ 0) :
    Calls Tryd.prog 54 #[.pointer (some ⟨pr, 0, none⟩), .int .i64 why] w fun r w' => r = .returned (.tuple #[]) ∧ IsS pr w' v l a (if y = 0 then why else y) ∧ Only pr w w' := by
  have hw2 : (why != 0) = true := by simpa using hwhy
  rcases h with ⟨hy, h⟩ | ⟨hy, t, h⟩
  · rw [if_pos hy]
    have c1 := h.c1
    have HR := hidIt (refuse_yes pr v l a 0 0 why (a : Int) w h)
    go_enter Tryd.func54, Tryd.ntmps54
    go_wp2_with fail
    refine HR.out.mono ?_
    rintro e w1 ⟨rfl, h1, o1⟩
    go_wp2
    go_end0
    exact ⟨rfl, .inr ⟨hwhy, a, h1⟩, o1⟩
  · rw [if_neg hy]
    have c1 := h.c1
    have HR := hidIt (refuse_no pr v l t y a why (t : Int) w h)
    go_enter Tryd.func54, Tryd.ntmps54
    go_wp2_with fail
    refine HR.out.mono ?_
    rintro e w1 ⟨rfl, hww⟩; cases hww
    go_wp2
    go_end0
    exact ⟨rfl, .inr ⟨hy, t, h⟩, Only.refl _ _⟩

set_option maxRecDepth 8000 in
set_option maxHeartbeats 800000 in
theorem refend_any (pr : Nat) (v : Value) (l : List Int) (a : Nat) (y : Int) (w : World) (h : IsS pr w v l a y) :
    Calls Tryd.prog 29 #[.pointer (some ⟨pr, 0, none⟩)] w fun e w' => e = .returned (.tuple #[.int .i64 (endZ l a y).1, .int .i64 (endZ l a y).2]) ∧ ∃ q, w' = w.drewN q := by
  rcases h with ⟨hy, h⟩ | ⟨hy, t, h⟩
  · subst hy
    have c0 := h.c0
    have c1 := h.c1
    have c2 := h.c2
    have hle := h.le
    obtain ⟨ao, cap, rfl, hc, hm, _⟩ := id h.view
    unfold maxLen at hm
    by_cases hs : a < l.length
    · rw [show endZ l a 0 = (11, (a : Int)) by unfold endZ; rw [if_neg (by simp), if_pos hs]]
      have hs' : (a : Int) < (l.length : Int) := by omega
      go_enter Tryd.func29, Tryd.ntmps29
      go_wp2
      go_quiet (fail)
      go_wp2
      go_quiet (fail)
      go_wp2
      go_ret2
      refine ⟨rfl, ?_⟩
      rw [World.drewN_drewN]
      exact ⟨_, rfl⟩
    · rw [show endZ l a 0 = (0, 0) by unfold endZ; rw [if_neg (by simp), if_neg hs]]
      have hs' : ¬ (a : Int) < (l.length : Int) := by omega
      go_enter Tryd.func29, Tryd.ntmps29
      go_wp2
      go_quiet (fail)
      go_wp2
      go_ret2
      exact ⟨rfl, _, rfl⟩
  · rw [show endZ l a y = (y, (a : Int)) by unfold endZ; rw [if_pos hy]]
    have c2 := h.c2
    have c3 := h.c3
    have c4 := h.c4
    go_enter Tryd.func29, Tryd.ntmps29
    go_wp2
    go_quiet (fail)
    go_wp2
    go_ret2
    exact ⟨rfl, _, rfl⟩

/-- A piece of a view. -/
theorem view_sub {w : World} {ao : Option Addr} {l : List Int} {cap a m : Nat} (hv : View w (.slice ao l.length cap) l) (hal : a + m ≤ l.length) :
    ∃ p, (∀ wx, (Instr.slice 34 (.slice ao l.length cap) (some (.int .i64 (a : Int))) (some (.int .i64 ((a : Int) + m))) none).run Tryd.prog wx = .ok (.slice p m (cap - a)) wx) ∧ View w (.slice p m (cap - a)) ((l.drop a).take m) := by
  obtain ⟨ao', cap', e, hc, hm, hby, hl⟩ := hv
  simp only [Value.slice.injEq] at e
  obtain ⟨rfl, -, rfl⟩ := e
  have hlm : ((l.drop a).take m).length = m := by rw [List.length_take, List.length_drop]; omega
  refine ⟨if cap = a then ao else ao.map (·.add (a * 1)), fun wx => ?_, ?_⟩
  · rw [run_slice_lh wx 34 ao l.length cap (by kernel_rfl) .i64 .i64 (a : Int) ((a : Int) + m) (by omega) (by omega) (by omega)]
    rw [show Tryd.prog.elem 34 = 5 by kernel_rfl, Tryd.sizeOf5]
    simp only [Result.andThen, sliced]
    rw [show ((a : Int) + m).toNat = a + m by omega, show (a : Int).toNat = a by omega, show a + m - a = m by omega]
  · refine ⟨_, _, by rw [hlm], by rw [hlm]; omega, by omega, fun x hx => hby x (List.mem_of_mem_drop (List.mem_of_mem_take hx)), ?_⟩
    by_cases h0 : m = 0
    · left; subst h0; simp
    · right
      obtain ⟨g, off, rfl, hl2⟩ : ∃ g off, ao = some ⟨g, off, none⟩ ∧ Lies w g off l := by
        rcases hl with e | h
        · rw [e] at hal; simp at hal; omega
        · exact h
      refine ⟨g, off + a, ?_, fun j x hj => ?_⟩
      · rw [if_neg (by omega)]
        simp [Addr.add]
      · have hj2 : l[a + j]? = some x := by
          rw [List.getElem?_take] at hj
          split at hj
          · rwa [List.getElem?_drop] at hj
          · cases hj
        rw [Nat.add_assoc]
        exact hl2 _ _ hj2
end Go.Proofs.YtjnaiekdbigikaaDoor
