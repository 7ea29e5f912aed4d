/- Writer.Bytes, Writer.Text, Writer.Done, NewWriter. -/
import Derived.Test.YtknppdpcgdncdaaQWrN
namespace Go.Proofs.Ytknppdpcgdncdaa.Q
open Go.RowKit
/-- append(v, b...) onto a row that is owned, of whatever bytes. -/
theorem run_append_view (w : World) (ty : TypeId) (B : Nat) (v vb : Value) (n : Nat) (xs : List Value) (lb : List Int) (hown : w.ownsRow B 5 1 v n xs) (hv : View w vb lb) (hlen : n + lb.length ≤ 140737488355328) (hB : B ≤ w.heap.size) :
    ∃ v' w', (Builtin.append_ #[37, 37] ty #[v, vb]).run Try.prog w = .ok v' w' ∧ w'.ownsRow B 5 1 v' (n + lb.length) (xs ++ bcells lb) ∧ Step v w v' w' := by
  obtain ⟨i0, hi, hz0, hz1, hz2⟩ := info_parts Try.info5
  obtain ⟨ao, cap, rfl, hc, hm, hy, hl⟩ := hv
  rcases hl with rfl | ⟨g, off, rfl, hl⟩
  · refine ⟨v, w, ?_, by simpa [bcells] using hown, Step.refl _ _⟩
    rcases hown.2 with ⟨rfl, rfl⟩ | ⟨g, cap, cur, rfl, hbg, hg, hnc, hcm, hcs, htake⟩
    · cases ao <;> simp [Builtin.append_, run_underlying Try.underlying37, sizeOf, typeInfo, hi, Builtin.lenOf, Builtin.firstCells, loadCells, loadCellsFrom]
    · cases ao <;> simp [Builtin.append_, run_underlying Try.underlying37, sizeOf, typeInfo, hi, Builtin.lenOf, Builtin.firstCells, loadCells, loadCellsFrom, hnc, storeCells]
  · obtain ⟨v', w', hr, ho, hg, _, hat⟩ := run_append_own_at (P := Try.prog) w B 37 ty 5 i0 (.int .u8 0) 1 1 Try.underlying37 hi hz0 hz1 hz2 rfl (by decide) v n xs hown ⟨g, off, none⟩ lb.length cap (bcells lb) (by simp [bcells]) (fun j u hj => bcells_cell hl j u hj) (bcells_one lb) (by unfold maxLen; omega) (by omega) hB
    exact ⟨v', w', hr, ho, Step.of_at hg hat⟩

theorem wpList_append_view {w : World} {ops : Array Oper} {rest : List Oper} {o : Oper} {a : Act} {Q : Exit → Act → World → Prop} (hgd : o.guard = none) (s x : Operand)
    (ho : o.op = .call { callee := .builtin .append, args := #[s, x], argTypes := #[37, 37] })
    (B : Nat) (v vb : Value) (n : Nat) (xs : List Value) (lb : List Int) (hs : a.eval s = v) (hown : w.ownsRow B 5 1 v n xs) (hx : a.eval x = vb) (hv : View w vb lb)
    (hlen : n + lb.length ≤ 140737488355328) (hB : B ≤ w.heap.size)
    (h : ∀ v' w', w'.ownsRow B 5 1 v' (n + lb.length) (xs ++ bcells lb) → Step v w v' w' → wpList Try.prog ops Q rest (a.put o.dst v') w') :
    wpList Try.prog ops Q (o :: rest) a w := by
  refine wpList_plain hgd fun K hK => ?_
  obtain ⟨v', w', hr, h2, h3⟩ := run_append_view w o.type B v vb n xs lb hown hv hlen hB
  unfold Oper.wp execOp
  simp only [ho, resolve, invoke, builtin, Sem.run_bind, Sem.run_pure, Result.andThen_ok, List.map_toArray, List.map_cons, List.map_nil, hs, hx, hr]
  exact hK _ _ (h v' w' h2 h3)

theorem own_slice {w : World} {B n : Nat} {v : Value} {xs : List Value} (h : w.ownsRow B 5 1 v n xs) : ∃ ao cap, v = .slice ao n cap := by
  rcases h.2 with ⟨rfl, rfl⟩ | ⟨g, cap, cur, rfl, _⟩
  · exact ⟨_, _, rfl⟩
  · exact ⟨_, _, rfl⟩
theorem own_wstep {pw Bb n : Nat} {v v' u : Value} {w w' : World} {xs : List Value} (h : WStep pw v w v' w') (ho : w.ownsRow Bb 5 1 u n xs) (hp : u.ownBlock ≠ some pw) (hv : u.ownBlock = none ∨ u.ownBlock ≠ v.ownBlock) : w'.ownsRow Bb 5 1 u n xs := by
  refine ⟨ho.1, ?_⟩
  rcases ho.2 with h2 | ⟨g, cap, cur, rfl, hB, hg, r⟩
  · exact .inl h2
  · refine .inr ⟨g, cap, cur, rfl, hB, ?_, r⟩
    rw [h.block g (Array.getElem?_eq_some_iff.1 hg).1 (fun e => hp (by simp [Value.ownBlock, e])) ?_]
    · exact hg
    · rcases hv with hv | hv
      · simp [Value.ownBlock] at hv
      · exact hv

theorem be_bytes (n : Int) : ∀ k, AllBytes (be n k)
  | 0 => fun x hx => by simp [be] at hx
  | k + 1 => fun x hx => by
    rcases List.mem_cons.1 hx with rfl | h
    · omega
    · exact be_bytes n k x h
theorem mcode_bytes (r : Int) (h0 : 0 ≤ r) (h1 : r ≤ 1114111) : AllBytes (mcode r) := by
  intro x hx
  unfold mcode at hx
  split at hx
  · simp at hx; omega
  · split at hx
    · simp at hx; omega
    · split at hx
      · simp at hx; omega
      · simp at hx; omega
theorem AllBytes.append {a b : List Int} (ha : AllBytes a) (hb : AllBytes b) : AllBytes (a ++ b) := fun x hx => by
  rcases List.mem_append.1 hx with h | h
  · exact ha x h
  · exact hb x h
theorem AllBytes.nil : AllBytes [] := fun x hx => by simp at hx
theorem encFrom_bytes (s : ByteArray) : ∀ f pos, AllBytes (encFrom s f pos)
  | 0, _ => AllBytes.nil
  | f + 1, pos => by
    unfold encFrom
    split
    · exact (mcode_bytes _ (by omega) (by have := decode_rune s pos; omega)).append (encFrom_bytes s f _)
    · exact AllBytes.nil
theorem encZ_bytes (s : ByteArray) : AllBytes (encZ s) := encFrom_bytes s _ _

end Go.Proofs.Ytknppdpcgdncdaa.Q
