/- Rows of bytes above 2^47: they grow by a quarter there, so they still fit. -/
import Derived.Test.YtjnaiekdbigikaaDoorWrB
import Derived.Test.YtjnaiekdbigikaaDoorRd
namespace Go.Proofs.YtjnaiekdbigikaaDoor
open Go.RowKit

theorem nsc_fits {need old : Nat} (h : old < need) (hb : need ≤ 200000000000000) : Builtin.nextslicecap need old ≤ 281474976710656 := by
  unfold Builtin.nextslicecap
  split
  · omega
  · split
    · omega
    · rw [growBy_four]
      repeat' split
      all_goals omega

/-- The row that is left when a longer one was laid. -/
theorem own_laid (w : World) (B n k c : Nat) (xs ys : List Value) (hx : xs.length = n) (hy : ys.length = k) (hB : B ≤ w.heap.size) (hc : n + k ≤ c) (hm : c ≤ maxLen) :
    (w.drew.alloc (.cells (xs.toArray ++ ys.toArray ++ Builtin.zeroCells (Value.int .u8 0).cells (c - (n + k))) 5)).ownsRow B 5 1 (.slice (some ⟨w.heap.size, 0, none⟩) (n + k) c) (n + k) (xs ++ ys) := by
  refine ⟨by rw [List.length_append]; omega, .inr ⟨w.heap.size, c, _, rfl, hB, heap_alloc_new w.drew _, hc, hm, ?_, ?_⟩⟩
  · simp only [Array.size_append, List.size_toArray, size_zeroCells, hx, hy, Value.cells]
    simp
    omega
  · rw [Nat.mul_one]
    simp only [Array.toList_append, List.append_assoc]
    rw [← List.append_assoc, show n + k = (xs ++ ys).length by rw [List.length_append]; omega]
    exact List.take_left

theorem run_append_big (w : World) (ty : TypeId) (B : Nat) (v vb : Value) (n : Nat) (xs : List Value) (lb : List Int) (hown : w.ownsRow B 5 1 v n xs) (hv : View w vb lb) (hlen : n + lb.length ≤ 200000000000000) (hB : B ≤ w.heap.size) :
    ∃ v' w', (Builtin.append_ #[34, 34] ty #[v, vb]).run Tryd.prog w = .ok v' w' ∧ w'.ownsRow B 5 1 v' (n + lb.length) (xs ++ bcells lb) ∧ Step v w v' w' := by
  by_cases hle : n + lb.length ≤ 140737488355328
  · exact run_append_view w ty B v vb n xs lb hown hv hle hB
  obtain ⟨i0, hi, hz0, hz1, hz2⟩ := info_parts Tryd.info5
  obtain ⟨ao, cap, rfl, hc, hm, hy, hl⟩ := id hv
  rcases hl with rfl | ⟨g, off, rfl, hl⟩
  · refine ⟨v, w, ?_, by simpa [bcells] using hown, Step.refl _ _⟩
    rcases hown.2 with ⟨rfl, rfl⟩ | ⟨g, cap, cur, rfl, hbg, hg, hnc, hcm, hcs, htake⟩
    · cases ao <;> simp [Builtin.append_, run_underlying Tryd.underlying34, sizeOf, typeInfo, hi, Builtin.lenOf, Builtin.firstCells, loadCells, loadCellsFrom]
    · cases ao <;> simp [Builtin.append_, run_underlying Tryd.underlying34, sizeOf, typeInfo, hi, Builtin.lenOf, Builtin.firstCells, loadCells, loadCellsFrom, hnc, storeCells]
  · have hx : xs.length = n := by have := hown.1; omega
    have hbl : (bcells lb).length = lb.length := bcells_len lb
    have hM : ∀ old, grownCap w (n + lb.length) old 5 ≤ maxLen := fun old => grownCap_le_maxLen w _ old 5 (by unfold maxLen; omega)
    have hG : ∀ old, n + lb.length ≤ grownCap w (n + lb.length) old 5 := fun old => grownCap_ge w _ old 5
    have hgr : ∀ (o : Obj) row, w.grownBy (w.drew.alloc o) row := fun o row => ⟨rfl, rfl, rfl, by simp, fun k hk _ => heap_alloc_old w.drew _ hk⟩
    have hnews : ∀ j u, (bcells lb)[j]? = some u → w.cell? ((⟨g, off, none⟩ : Addr).add j) = some u := fun j u hj => bcells_cell hl j u hj
    rcases hown.2 with ⟨rfl, rfl⟩ | ⟨g2, cap2, cur, rfl, hbg, hg, hnc, hcm, hcs, htake⟩
    · obtain rfl : xs = [] := List.eq_nil_of_length_eq_zero hx
      have hr := run_append_nil (P := Tryd.prog) w 34 ty 5 i0 (.int .u8 0) Tryd.underlying34 hi hz0 ⟨g, off, none⟩ lb.length cap (bcells lb) (by rw [hz1]; omega) hnews (by omega) (by omega) (by rw [hz2]; omega)
      have ho := own_laid w B 0 lb.length (grownCap w lb.length 0 5) [] (bcells lb) rfl hbl hB (by have := hG 0; simp only [Nat.zero_add] at this ⊢; exact this) (by have := hM 0; simp only [Nat.zero_add] at this; exact this)
      simp only [Nat.zero_add, List.nil_append, Array.empty_append] at ho ⊢
      exact ⟨_, _, hr, ho, Step.of_at (hgr _ _) (.inr rfl)⟩
    · by_cases hroom : n + lb.length ≤ cap2
      · have hfit : n * i0.size + (bcells lb).length ≤ cur.size := by rw [hz1, hcs, hbl]; omega
        have hr := run_append_room (P := Tryd.prog) w 34 ty 5 i0 Tryd.underlying34 hi g2 n cap2 cur hg ⟨g, off, none⟩ lb.length cap (bcells lb) (by rw [hz1]; omega) hnews (bcells_one lb) hroom hfit
        refine ⟨_, _, hr, ⟨by rw [List.length_append]; omega, .inr ⟨g2, cap2, _, rfl, hbg, setRow_heap w g2 cur _ 5 _ hg, hroom, hcm, ?_, ?_⟩⟩, Step.of_at ⟨rfl, rfl, rfl, by simp, fun k _ hk => setRow_other w g2 k _ (fun e => hk (by simp [Value.ownBlock, e]))⟩ (.inl rfl)⟩
        · simp only [List.size_toArray, List.length_append, List.length_take, List.length_drop, Array.length_toList]
          omega
        · rw [hz1, htake, Nat.mul_one, show n + lb.length = (xs ++ bcells lb).length by rw [List.length_append]; omega]
          exact List.take_left
      · have holds : ∀ j u, xs[j]? = some u → w.cell? ((⟨g2, 0, none⟩ : Addr).add j) = some u := hown.cells (g := g2) rfl
        have hr := run_append_grow (P := Tryd.prog) w 34 ty 5 i0 (.int .u8 0) Tryd.underlying34 hi hz0 ⟨g2, 0, none⟩ n cap2 xs (by rw [hz1]; omega) holds ⟨g, off, none⟩ lb.length cap (bcells lb) (by rw [hz1]; omega) hnews (by omega) (by omega) (by rw [hz2, Nat.mul_one]; exact nsc_fits (by omega) hlen)
        exact ⟨_, _, hr, own_laid w B n lb.length _ xs (bcells lb) hx hbl hB (hG _) (hM _), Step.of_at (hgr _ _) (.inr rfl)⟩

theorem wpList_append_big {w : World} {ops : Array Oper} {rest : List Oper} {o : Oper} {a : Act} {Q : Exit → Act → World → Prop} (hgd : o.guard = none) (s x : Operand)
    (ho : o.op = .call { callee := .builtin .append, args := #[s, x], argTypes := #[34, 34] })
    (B : Nat) (v vb : Value) (n : Nat) (xs : List Value) (lb : List Int) (hs : a.eval s = v) (hown : w.ownsRow B 5 1 v n xs) (hx : a.eval x = vb) (hv : View w vb lb)
    (hlen : n + lb.length ≤ 200000000000000) (hB : B ≤ w.heap.size)
    (h : ∀ v' w', w'.ownsRow B 5 1 v' (n + lb.length) (xs ++ bcells lb) → Step v w v' w' → wpList Tryd.prog ops Q rest (a.put o.dst v') w') :
    wpList Tryd.prog ops Q (o :: rest) a w := by
  refine wpList_plain hgd fun K hK => ?_
  obtain ⟨v', w', hr, h2, h3⟩ := run_append_big w o.type B v vb n xs lb hown hv hlen hB
  unfold Oper.wp execOp
  simp only [ho, resolve, invoke, builtin, Sem.run_bind, Sem.run_pure, Result.andThen_ok, List.map_toArray, List.map_cons, List.map_nil, hs, hx, hr]
  exact hK _ _ (h v' w' h2 h3)

set_option maxRecDepth 8000 in
set_option maxHeartbeats 2000000 in
theorem wbytes_big (B pw : Nat) (v0 vb : Value) (l lb : List Int) (w : World) (h : IsW B pw w v0 l) (hv : View w vb lb) (hB : B ≤ w.heap.size) (hlen : l.length + lb.length ≤ 200000000000000) :
    Calls Tryd.prog 30 #[.pointer (some ⟨pw, 0, none⟩), vb] w fun e w' => e = .returned (.tuple #[]) ∧ ∃ v, IsW B pw w' v (l ++ lb) ∧ WStep pw v0 w v w' := by
  have hc := h.cell
  have hplt := h.lt
  have hpne := h.ne
  have hf := frozen_row h.at_ 0
  go_enter Tryd.func30, Tryd.ntmps30
  go_wp2_with (at_builtin; refine wpList_append_big rfl _ _ rfl B v0 vb _ _ lb rfl h.own rfl hv (by omega) hB ?_; intro v1 w1 ho1 hst1; obtain ⟨ao1, cap1, rfl⟩ := own_slice ho1; have hc1 := (World.cell?_of_block (a := ⟨pw, 0, none⟩) (hst1.grown.block pw hplt hpne)).trans hc; have hf1 := (World.frozen?_of_block (a := ⟨pw, 0, none⟩) (hst1.grown.block pw hplt hpne)).trans hf)
  go_end0
  have := h.put (l1 := l ++ lb) hst1 (by rw [List.length_append, bcells_append]; exact ho1)
  exact ⟨rfl, _, this.1, this.2⟩

set_option maxRecDepth 8000 in
set_option maxHeartbeats 800000 in
theorem clone_big (v : Value) (l : List Int) (w : World) (hv : View w v l) (hlen : l.length ≤ 200000000000000) :
    Calls Tryd.prog 39 #[v] w fun e w' => Below w.heap.size w w' ∧ ∃ v', e = .returned v' ∧ w'.ownsRow w.heap.size 5 1 v' l.length (bcells l) := by
  obtain ⟨ao, cap, rfl, hc, hm, hy, hl⟩ := id hv
  cases ao with
  | none =>
    obtain rfl : l = [] := by
      rcases hl with h | ⟨g, off, h, _⟩
      · exact h
      · cases h
    have hq := eql_nil w none 0 cap
    go_enter Tryd.func39, Tryd.ntmps39
    go_wp2
    go_ret
    exact ⟨Below.refl _ _, _, rfl, World.ownsRow_nil _ _ _ _⟩
  | some a =>
    have hq := eql_nil w (some a) l.length cap
    have hown0 : (w.alloc (.cells #[] 5)).ownsRow w.heap.size 5 1 (.slice (some ⟨w.heap.size, 0, none⟩) 0 0) 0 [] := World.ownsRow_made w #[] 0 (Nat.le_refl _) (by unfold maxLen; omega) rfl
    have hv1 := hv.below ((Below.refl w.heap.size w).alloc (Nat.le_refl _) (.cells #[] 5))
    go_enter Tryd.func39, Tryd.ntmps39
    go_wp2_with (at_builtin; refine wpList_append_big rfl _ _ rfl w.heap.size _ _ _ _ l rfl hown0 rfl hv1 (by omega) (by simp) ?_; intro v1 w1 ho1 hst1)
    go_wp2
    go_ret
    refine ⟨((Below.refl _ _).alloc (Nat.le_refl _) _).grown hst1.grown (by simp) (fun k h => (hown0.lt k h).1), _, rfl, ?_⟩
    simpa using ho1

set_option maxRecDepth 8000 in
set_option maxHeartbeats 2000000 in
theorem done_big (B pw : Nat) (v0 : Value) (l : List Int) (w : World) (h : IsW B pw w v0 l) (hb : AllBytes l) (hlen : l.length ≤ 200000000000000) :
    Calls Tryd.prog 14 #[.pointer (some ⟨pw, 0, none⟩)] w fun e w' => Below w.heap.size w w' ∧ ∃ v', e = .returned v' ∧ w'.ownsRow w.heap.size 5 1 v' l.length (bcells l) := by
  have hc := h.cell
  have hV := View.of_own h.own hb
  go_enter Tryd.func14, Tryd.ntmps14
  go_wp2_with (go_at_call 39; refine (clone_big _ l _ hV hlen).mono ?_; rintro e w1 ⟨b1, v1, rfl, o1⟩)
  go_ret
  exact ⟨b1, _, rfl, o1⟩

set_option maxRecDepth 8000 in
set_option maxHeartbeats 800000 in
theorem newR_big (v : Value) (l : List Int) (w : World) (hv : View w v l) (hlen : l.length ≤ 200000000000000) :
    Calls Tryd.prog 26 #[v] w fun e w' => Below w.heap.size w w' ∧ ∃ pr v', e = .returned (.pointer (some ⟨pr, 0, none⟩)) ∧ w.heap.size ≤ pr ∧ IsR pr w' v' l 0 0 ∧ (∀ k, v'.ownBlock = some k → w.heap.size ≤ k) := by
  have hby : AllBytes l := by obtain ⟨_, _, _, _, _, h, _⟩ := hv; exact h
  go_enter Tryd.func26, Tryd.ntmps26
  go_wp2_with (go_at_call 39; refine (clone_big _ l _ hv hlen).mono ?_; rintro e w1 ⟨b1, v1, rfl, o1⟩; obtain ⟨ao1, cap1, rfl⟩ := own_slice o1)
  go_ret
  have b2 : Below w1.heap.size w1 (w1.alloc (.cells #[.slice ao1 l.length cap1, .int .i64 0, .int .i64 0] 90)) := (Below.refl _ _).alloc (Nat.le_refl _) _
  exact ⟨b1.alloc b1.size _, w1.heap.size, _, rfl, b1.size, ⟨heap_alloc_new _ _, (View.of_own o1 hby).below b2, Nat.zero_le _⟩, fun k hk => (o1.lt k hk).1⟩
end Go.Proofs.YtjnaiekdbigikaaDoor
