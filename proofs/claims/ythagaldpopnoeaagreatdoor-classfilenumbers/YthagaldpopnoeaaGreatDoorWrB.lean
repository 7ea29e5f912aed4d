/- Writer.Bytes, Writer.Text, Writer.Done, NewWriter. -/
import Derived.Test.YthagaldpopnoeaaGreatDoorWrN
namespace Go.Proofs.YthagaldpopnoeaaGreatDoor
open Go.RowKit

/-- append(v, b...) onto a row that is owned, of whatever bytes. -/
theorem run_append_view (w : World) (ty : TypeId) (B : Nat) (v vb : Value) (n : Nat) (xs : List Value) (lb : List Int) (hown : w.ownsRow B 5 1 v n xs) (hv : View w vb lb) (hlen : n + lb.length ≤ 140737488355328) (hB : B ≤ w.heap.size) :
    ∃ v' w', (Builtin.append_ #[22, 22] ty #[v, vb]).run Tryz.prog w = .ok v' w' ∧ w'.ownsRow B 5 1 v' (n + lb.length) (xs ++ bcells lb) ∧ Step v w v' w' := by
  obtain ⟨i0, hi, hz0, hz1, hz2⟩ := info_parts Tryz.info5
  obtain ⟨ao, cap, rfl, hc, hm, hy, hl⟩ := hv
  rcases hl with rfl | ⟨g, off, rfl, hl⟩
  · refine ⟨v, w, ?_, by simpa [bcells] using hown, Step.refl _ _⟩
    rcases hown.2 with ⟨rfl, rfl⟩ | ⟨g, cap, cur, rfl, hbg, hg, hnc, hcm, hcs, htake⟩
    · cases ao <;> simp [Builtin.append_, run_underlying Tryz.underlying22, sizeOf, typeInfo, hi, Builtin.lenOf, Builtin.firstCells, loadCells, loadCellsFrom]
    · cases ao <;> simp [Builtin.append_, run_underlying Tryz.underlying22, sizeOf, typeInfo, hi, Builtin.lenOf, Builtin.firstCells, loadCells, loadCellsFrom, hnc, storeCells]
  · obtain ⟨v', w', hr, ho, hg, _, hat⟩ := run_append_own_at (P := Tryz.prog) w B 22 ty 5 i0 (.int .u8 0) 1 1 Tryz.underlying22 hi hz0 hz1 hz2 rfl (by decide) v n xs hown ⟨g, off, none⟩ lb.length cap (bcells lb) (by simp [bcells]) (fun j u hj => bcells_cell hl j u hj) (bcells_one lb) (by unfold maxLen; omega) (by omega) hB
    exact ⟨v', w', hr, ho, Step.of_at hg hat⟩

theorem wpList_append_view {w : World} {ops : Array Oper} {rest : List Oper} {o : Oper} {a : Act} {Q : Exit → Act → World → Prop} (hgd : o.guard = none) (s x : Operand)
    (ho : o.op = .call { callee := .builtin .append, args := #[s, x], argTypes := #[22, 22] })
    (B : Nat) (v vb : Value) (n : Nat) (xs : List Value) (lb : List Int) (hs : a.eval s = v) (hown : w.ownsRow B 5 1 v n xs) (hx : a.eval x = vb) (hv : View w vb lb)
    (hlen : n + lb.length ≤ 140737488355328) (hB : B ≤ w.heap.size)
    (h : ∀ v' w', w'.ownsRow B 5 1 v' (n + lb.length) (xs ++ bcells lb) → Step v w v' w' → wpList Tryz.prog ops Q rest (a.put o.dst v') w') :
    wpList Tryz.prog ops Q (o :: rest) a w := by
  refine wpList_plain hgd fun K hK => ?_
  obtain ⟨v', w', hr, h2, h3⟩ := run_append_view w o.type B v vb n xs lb hown hv hlen hB
  unfold Oper.wp execOp
  simp only [ho, resolve, invoke, builtin, Sem.run_bind, Sem.run_pure, Result.andThen_ok, List.map_toArray, List.map_cons, List.map_nil, hs, hx, hr]
  exact hK _ _ (h v' w' h2 h3)

theorem own_slice {w : World} {B n : Nat} {v : Value} {xs : List Value} (h : w.ownsRow B 5 1 v n xs) : ∃ ao cap, v = .slice ao n cap := by
  rcases h.2 with ⟨rfl, rfl⟩ | ⟨g, cap, cur, rfl, _⟩
  · exact ⟨_, _, rfl⟩
  · exact ⟨_, _, rfl⟩
theorem own_wstep {pw Bb n : Nat} {v v' u : Value} {w w' : World} {xs : List Value} (h : WStep pw v w v' w') (ho : w.ownsRow Bb 5 1 u n xs) (hp : u.ownBlock ≠ some pw) (hv : u.ownBlock = none ∨ u.ownBlock ≠ v.ownBlock) : w'.ownsRow Bb 5 1 u n xs := by
  refine ⟨ho.1, ?_⟩
  rcases ho.2 with h2 | ⟨g, cap, cur, rfl, hB, hg, r⟩
  · exact .inl h2
  · refine .inr ⟨g, cap, cur, rfl, hB, ?_, r⟩
    rw [h.block g (Array.getElem?_eq_some_iff.1 hg).1 (fun e => hp (by simp [Value.ownBlock, e])) ?_]
    · exact hg
    · rcases hv with hv | hv
      · simp [Value.ownBlock] at hv
      · exact hv

theorem be_bytes (n : Int) : ∀ k, AllBytes (be n k)
  | 0 => fun x hx => by simp [be] at hx
  | k + 1 => fun x hx => by
    rcases List.mem_cons.1 hx with rfl | h
    · omega
    · exact be_bytes n k x h
theorem mcode_bytes (r : Int) (h0 : 0 ≤ r) (h1 : r ≤ 1114111) : AllBytes (mcode r) := by
  intro x hx
  unfold mcode at hx
  split at hx
  · simp at hx; omega
  · split at hx
    · simp at hx; omega
    · split at hx
      · simp at hx; omega
      · simp at hx; omega
theorem AllBytes.append {a b : List Int} (ha : AllBytes a) (hb : AllBytes b) : AllBytes (a ++ b) := fun x hx => by
  rcases List.mem_append.1 hx with h | h
  · exact ha x h
  · exact hb x h
theorem AllBytes.nil : AllBytes [] := fun x hx => by simp at hx
theorem encFrom_bytes (s : ByteArray) : ∀ f pos, AllBytes (encFrom s f pos)
  | 0, _ => AllBytes.nil
  | f + 1, pos => by
    unfold encFrom
    split
    · exact (mcode_bytes _ (by omega) (by have := decode_rune s pos; omega)).append (encFrom_bytes s f _)
    · exact AllBytes.nil
theorem encZ_bytes (s : ByteArray) : AllBytes (encZ s) := encFrom_bytes s _ _

theorem newW_any (w : World) : Calls Tryz.prog 41 #[] w fun e w' => e = .returned (.pointer (some ⟨w.heap.size, 0, none⟩)) ∧ w' = w.alloc (.cells #[.slice none 0 0] 137) := by
  go_enter Tryz.func41, Tryz.ntmps41
  go_wp2
  go_ret
  exact ⟨rfl, rfl⟩
theorem newW_is (w : World) (B : Nat) : IsW B w.heap.size (w.alloc (.cells #[.slice none 0 0] 137)) (.slice none 0 0) [] :=
  ⟨heap_alloc_new w _, World.ownsRow_nil _ _ _ _⟩

set_option maxRecDepth 8000 in
set_option maxHeartbeats 2000000 in
theorem wbytes_any (B pw : Nat) (v0 vb : Value) (l lb : List Int) (w : World) (h : IsW B pw w v0 l) (hv : View w vb lb) (hB : B ≤ w.heap.size) (hlen : l.length + lb.length ≤ 140737488355328) :
    Calls Tryz.prog 88 #[.pointer (some ⟨pw, 0, none⟩), vb] w fun e w' => e = .returned (.tuple #[]) ∧ ∃ v, IsW B pw w' v (l ++ lb) ∧ WStep pw v0 w v w' := by
  have hc := h.cell
  have hplt := h.lt
  have hpne := h.ne
  have hf := frozen_row h.at_ 0
  go_enter Tryz.func88, Tryz.ntmps88
  go_wp2_with (at_builtin; refine wpList_append_view rfl _ _ rfl B v0 vb _ _ lb rfl h.own rfl hv (by omega) hB ?_; intro v1 w1 ho1 hst1; obtain ⟨ao1, cap1, rfl⟩ := own_slice ho1; have hc1 := (World.cell?_of_block (a := ⟨pw, 0, none⟩) (hst1.grown.block pw hplt hpne)).trans hc; have hf1 := (World.frozen?_of_block (a := ⟨pw, 0, none⟩) (hst1.grown.block pw hplt hpne)).trans hf)
  go_end0
  have := h.put (l1 := l ++ lb) hst1 (by rw [List.length_append, bcells_append]; exact ho1)
  exact ⟨rfl, _, this.1, this.2⟩

set_option maxRecDepth 8000 in
set_option maxHeartbeats 2000000 in
theorem done_any (B pw : Nat) (v0 : Value) (l : List Int) (w : World) (h : IsW B pw w v0 l) (hb : AllBytes l) (hlen : l.length ≤ 140737488355328) :
    Calls Tryz.prog 43 #[.pointer (some ⟨pw, 0, none⟩)] w fun e w' => Below w.heap.size w w' ∧ ∃ v', e = .returned v' ∧ w'.ownsRow w.heap.size 5 1 v' l.length (bcells l) := by
  have hc := h.cell
  have hV := View.of_own h.own hb
  go_enter Tryz.func43, Tryz.ntmps43
  go_wp2_with (go_at_call 64; refine (clone_any _ l _ hV hlen).mono ?_; rintro e w1 ⟨b1, v1, rfl, o1⟩)
  go_ret
  exact ⟨b1, _, rfl, o1⟩
end Go.Proofs.YthagaldpopnoeaaGreatDoor
