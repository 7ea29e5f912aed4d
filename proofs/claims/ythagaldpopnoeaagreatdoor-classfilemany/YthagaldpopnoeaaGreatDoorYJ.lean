import Derived.Test.YthagaldpopnoeaaGreatDoorPV

/- Small laws on rows and worlds, whatever the elements. -/
namespace Go.Proofs.YthagaldpopnoeaaGreatDoor
open Go.RowKit

/-- A row stands where nothing old turned. -/
theorem gown_below {w w' : World} {B e s n : Nat} {v : Value} {xs : List Value} (h : w.ownsRow B e s v n xs) (hb : Below w.heap.size w w') : w'.ownsRow B e s v n xs := by
  refine ⟨h.1, ?_⟩
  rcases h.2 with x | ⟨g, cap, cur, rfl, hB, hg2, r⟩
  · exact .inl x
  · exact .inr ⟨g, cap, cur, rfl, hB, (hb.block g (Array.getElem?_eq_some_iff.1 hg2).1).trans hg2, r⟩
theorem gdrewed {B : Nat} {a w : World} (h : Below B a w) : Below B a w.drew := ⟨h.os, h.tape, h.output, h.size, h.block⟩
theorem gown_lt {w : World} {B e s n k : Nat} {v : Value} {xs : List Value} (h : w.ownsRow B e s v n xs) (hk : v.ownBlock = some k) : k < w.heap.size := (h.lt k hk).2
theorem gview_take {w : World} {ao : Option Addr} {n cap : Nat} {l : List CD} (h : CView w (.slice ao l.length cap) l) (hn : n ≤ l.length) : CView w (.slice ao n cap) (l.take n) := by
  obtain ⟨ao', cap', e, hc, hm, hk, hl⟩ := h
  cases e
  refine ⟨ao, cap, by rw [List.length_take, Nat.min_eq_left hn], by rw [List.length_take]; omega, hm, fun c hc => hk c (List.mem_of_mem_take hc), ?_⟩
  rcases hl with rfl | ⟨g, off, e, hl⟩
  · exact .inl (by simp)
  · refine .inr ⟨g, off, e, fun i c hi => hl i c ?_⟩
    rw [List.getElem?_take] at hi
    split at hi
    · exact hi
    · cases hi
theorem gset_row {w : World} {g j : Nat} {cur : Array Value} {T : TypeId} {u : Value} (h : w.heap[g]? = some (.cells cur T (0, 0))) : (w.setCell ⟨g, j, none⟩ u).heap[g]? = some (.cells (cur.setIfInBounds j u) T (0, 0)) := by
  simp only [World.setCell, Array.getElem?_modify, if_pos, h, Option.map_some]
  try simp
end Go.Proofs.YthagaldpopnoeaaGreatDoor

/- append(v, b...) over constants, whatever they are. -/
namespace Go.Proofs.YthagaldpopnoeaaGreatDoor
open Go.RowKit

theorem crun_append_view (w : World) (ty : TypeId) (B : Nat) (v vb : Value) (n : Nat) (xs : List Value) (lb : List CD) (hown : w.ownsRow B 85 5 v n xs) (hv : CView w vb lb) (hlen : (n + lb.length) * 64 ≤ 140737488355328) (hB : B ≤ w.heap.size) :
    ∃ v' w', (Builtin.append_ #[29, 29] ty #[v, vb]).run Tryz.prog w = .ok v' w' ∧ w'.ownsRow B 85 5 v' (n + lb.length) (xs ++ ccells lb) ∧ w.grownBy w' v.ownBlock ∧ (v'.ownBlock = v.ownBlock ∨ v'.ownBlock = some w.heap.size) := by
  obtain ⟨i0, hi, hz0, hz1, hz2⟩ := info_parts Tryz.info85
  obtain ⟨ao, cap, rfl, hc, hm, _, hl⟩ := hv
  rcases hl with rfl | ⟨g, off, rfl, hl⟩
  · refine ⟨v, w, ?_, by simpa [ccells] using hown, ⟨rfl, rfl, rfl, Nat.le_refl _, fun _ _ _ => rfl⟩, .inl rfl⟩
    rcases hown.2 with ⟨rfl, rfl⟩ | ⟨g, cap, cur, rfl, hbg, hg, hnc, hcm, hcs, htake⟩
    · cases ao <;> simp [Builtin.append_, run_underlying Tryz.underlying29, sizeOf, typeInfo, hi, Builtin.lenOf, Builtin.firstCells, loadCells, loadCellsFrom]
    · cases ao <;> simp [Builtin.append_, run_underlying Tryz.underlying29, sizeOf, typeInfo, hi, Builtin.lenOf, Builtin.firstCells, loadCells, loadCellsFrom, hnc, storeCells]
  · obtain ⟨v', w', hr, ho, hg, _, hat⟩ := run_append_own_at (P := Tryz.prog) w B 29 ty 85 i0 zeroC.val 5 64 Tryz.underlying29 hi hz0 hz1 hz2 rfl (by decide) v n xs hown ⟨g, off, none⟩ lb.length cap (ccells lb) (ccells_len lb) hl.cells (ccells_one lb) (by unfold maxLen; omega) (by omega) hB
    exact ⟨v', w', hr, ho, hg, hat⟩

theorem wpList_cappend_view {w : World} {ops : Array Oper} {rest : List Oper} {o : Oper} {a : Act} {Q : Exit → Act → World → Prop} (hgd : o.guard = none) (s x : Operand)
    (ho : o.op = .call { callee := .builtin .append, args := #[s, x], argTypes := #[29, 29] })
    (B : Nat) (v vb : Value) (n : Nat) (xs : List Value) (lb : List CD) (hs : a.eval s = v) (hown : w.ownsRow B 85 5 v n xs) (hx : a.eval x = vb) (hv : CView w vb lb)
    (hlen : (n + lb.length) * 64 ≤ 140737488355328) (hB : B ≤ w.heap.size)
    (h : ∀ v' w', w'.ownsRow B 85 5 v' (n + lb.length) (xs ++ ccells lb) → w.grownBy w' v.ownBlock → (v'.ownBlock = v.ownBlock ∨ v'.ownBlock = some w.heap.size) → wpList Tryz.prog ops Q rest (a.put o.dst v') w') :
    wpList Tryz.prog ops Q (o :: rest) a w := by
  refine wpList_plain hgd fun K hK => ?_
  obtain ⟨v', w', hr, h2, h3, h4⟩ := crun_append_view w o.type B v vb n xs lb hown hv hlen hB
  unfold Oper.wp execOp
  simp only [ho, resolve, invoke, builtin, Sem.run_bind, Sem.run_pure, Result.andThen_ok, List.map_toArray, List.map_cons, List.map_nil, hs, hx, hr]
  exact hK _ _ (h v' w' h2 h3 h4)
end Go.Proofs.YthagaldpopnoeaaGreatDoor
