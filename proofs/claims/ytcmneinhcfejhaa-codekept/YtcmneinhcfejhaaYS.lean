/- Rows of slices that the book holds; the book itself. -/
import Derived.Test.YtcmneinhcfejhaaRm
import Derived.ArgAppend
namespace Go.Proofs.Ytcmneinhcfejhaa.KY
open Go.RowKit

theorem Try.info29 : (Try.prog.info? 29).map (fun i => (i.zero, i.size, i.bytes)) = some (some (.slice none 0 0), 1, 24) := by kernel_rfl

/-- v is a row of the values xs, in a block of its own from B on, perhaps not at the block's beginning. -/
def Slot (B : Nat) (w : World) (v : Value) (xs : List Value) : Prop :=
  (v = .slice none 0 0 ∧ xs = []) ∨
  ∃ g off cap cur, v = .slice (some ⟨g, off, none⟩) xs.length cap ∧ B ≤ g ∧ w.heap[g]? = some (.cells cur 29 (0, 0)) ∧ xs.length ≤ cap ∧ cap ≤ maxLen ∧ off + cap ≤ cur.size ∧ ∀ j u, xs[j]? = some u → cur[off + j]? = some u

theorem Slot.keep {B : Nat} {w w' : World} {v : Value} {xs : List Value} (h : Slot B w v xs) (hb : ∀ g, v.ownBlock = some g → g < w.heap.size → w'.heap[g]? = w.heap[g]?) : Slot B w' v xs := by
  rcases h with h | ⟨g, off, cap, cur, rfl, hB, hg, r⟩
  · exact .inl h
  · exact .inr ⟨g, off, cap, cur, rfl, hB, (hb g rfl (Array.getElem?_eq_some_iff.1 hg).1).trans hg, r⟩
theorem Slot.lt {B : Nat} {w : World} {v : Value} {xs : List Value} (h : Slot B w v xs) : ∀ g, v.ownBlock = some g → B ≤ g ∧ ∃ cur, w.heap[g]? = some (.cells cur 29 (0, 0)) := by
  rcases h with ⟨rfl, -⟩ | ⟨g, off, cap, cur, rfl, hB, hg, -⟩
  · intro g h; simp [Value.ownBlock] at h
  · intro k h
    simp only [Value.ownBlock, Option.some.injEq] at h
    subst h
    exact ⟨hB, cur, hg⟩
theorem Slot.form {B : Nat} {w : World} {v : Value} {xs : List Value} (h : Slot B w v xs) : ∃ ao cap, v = .slice ao xs.length cap ∧ xs.length ≤ cap ∧ cap ≤ maxLen := by
  rcases h with ⟨rfl, rfl⟩ | ⟨g, off, cap, cur, rfl, hB, hg, hc, hm, -⟩
  · exact ⟨none, 0, rfl, Nat.le_refl _, by unfold maxLen; omega⟩
  · exact ⟨_, cap, rfl, hc, hm⟩
theorem Slot.cell {B : Nat} {w : World} {ao : Option Addr} {n cap : Nat} {xs : List Value} (h : Slot B w (.slice ao n cap) xs) {j : Nat} {u : Value} (hj : xs[j]? = some u) : ∃ g off, ao = some ⟨g, off, none⟩ ∧ w.cell? ⟨g, off + j, none⟩ = some u := by
  rcases h with ⟨-, rfl⟩ | ⟨g, off, cap', cur, e, hB, hg, hc, hm, hs, hx⟩
  · simp at hj
  · simp only [Value.slice.injEq] at e
    refine ⟨g, off, e.1, ?_⟩
    rw [cell_of_row w g (off + j) cur 29 (0, 0) hg]
    exact hx j u hj

theorem Slot.of_own {B : Nat} {w : World} {v : Value} {n : Nat} {xs : List Value} (h : w.ownsRow B 29 1 v n xs) : Slot B w v xs := by
  obtain ⟨hl, h⟩ := h
  have hn : xs.length = n := by omega
  rcases h with ⟨rfl, rfl⟩ | ⟨g, cap, cur, rfl, hB, hg, hc, hm, hs, ht⟩
  · exact .inl ⟨rfl, List.eq_nil_of_length_eq_zero hn⟩
  · refine .inr ⟨g, 0, cap, cur, by rw [hn], hB, hg, by omega, hm, by omega, fun j u hj => ?_⟩
    rw [← ht, List.getElem?_take] at hj
    split at hj
    · rw [Nat.zero_add, ← Array.getElem?_toList]; exact hj
    · cases hj

theorem set_row {w : World} {g j : Nat} {cur : Array Value} {T : TypeId} {u : Value} (h : w.heap[g]? = some (.cells cur T (0, 0))) : (w.setCell ⟨g, j, none⟩ u).heap[g]? = some (.cells (cur.setIfInBounds j u) T (0, 0)) := by
  simp only [World.setCell, Array.getElem?_modify, if_pos, h, Option.map_some]
  try simp

theorem own_wk {w : World} {B B' n : Nat} {T : TypeId} {v : Value} {xs : List Value} (h : w.ownsRow B T 1 v n xs) (hB : B' ≤ B) : w.ownsRow B' T 1 v n xs := by
  refine ⟨h.1, ?_⟩
  rcases h.2 with x | ⟨g, cap, cur, e, hb, r⟩
  · exact .inl x
  · exact .inr ⟨g, cap, cur, e, by omega, r⟩

theorem run_append_slot (w : World) (ty : TypeId) (B : Nat) (v x : Value) (xs : List Value) (ad : Addr) (c : Nat) (h : Slot B w v xs) (hx : w.cell? ad = some x) (h1 : x.oneCell' = true) (hlen : xs.length ≤ 1000000) (hB : B ≤ w.heap.size) :
    ∃ v' w', (Builtin.append_ #[49, 49] ty #[v, .slice (some ad) 1 c]).run Try.prog w = .ok v' w' ∧ Slot B w' v' (xs ++ [x]) ∧ w.grownBy w' v.ownBlock ∧ (v'.ownBlock = v.ownBlock ∨ ∀ g, v'.ownBlock = some g → w.heap.size ≤ g) := by
  obtain ⟨i0, hi, hz0, hz1, hz2⟩ := info_parts Try.info29
  have hn1 : ∀ j u, [x][j]? = some u → w.cell? (ad.add j) = some u := by
    intro j u hj
    match j, hj with
    | 0, hj =>
      simp at hj
      subst hj
      have e : ad.add 0 = ad := by obtain ⟨b, o, s⟩ := ad; unfold Addr.add; simp
      rw [e]; exact hx
  have ho1 : ∀ u ∈ [x], u.oneCell' = true := by intro u hu; simp at hu; subst hu; exact h1
  rcases h with ⟨rfl, rfl⟩ | ⟨g, off, cap, cur, rfl, hBg, hg, hc, hm, hs, hxs⟩
  · obtain ⟨v', w', hr, ho, hgr, -, hat⟩ := run_append_own_at (P := Try.prog) w B 49 ty 29 i0 (.slice none 0 0) 1 24 Try.underlying49 hi hz0 hz1 hz2 rfl (by decide) _ 0 [] (World.ownsRow_nil w B 29 1) ad 1 c [x] rfl hn1 ho1 (by unfold maxLen; omega) (by omega) hB
    exact ⟨v', w', hr, Slot.of_own ho, hgr, hat.imp id (fun e g hg => by rw [e] at hg; cases hg; exact Nat.le_refl _)⟩
  · by_cases hroom : xs.length + 1 ≤ cap
    · have hcur : off + xs.length < cur.size := by omega
      have hr := run_append_room_cells (P := Try.prog) w 49 ty 29 i0 Try.underlying49 hi g off xs.length cap ad 1 c [x] (by rw [hz1]; rfl) hn1 ho1 hroom
        (fun j hj => by
          simp at hj; subst hj
          rw [hz1, cell_of_row w g _ cur 29 (0, 0) hg]
          simp [hcur]) (fun j hj => frozen_row hg _)
      rw [hz1, Nat.mul_one] at hr
      refine ⟨_, _, hr, .inr ⟨g, off, cap, _, by simp, hBg, set_row hg, by simpa using hroom, hm, by simpa using hs, fun j u hj => ?_⟩, ⟨rfl, rfl, rfl, by simp [World.setCells, World.setCell], fun k _ hk => ?_⟩, .inl rfl⟩
      · by_cases hj2 : j < xs.length
        · rw [List.getElem?_append_left hj2] at hj
          rw [Array.getElem?_setIfInBounds, if_neg (by omega)]
          exact hxs j u hj
        · rw [List.getElem?_append_right (by omega)] at hj
          have hj3 : j = xs.length := by have := (List.getElem?_eq_some_iff.1 hj).1; simp at this; omega
          subst hj3
          simp at hj
          subst hj
          rw [Array.getElem?_setIfInBounds, if_pos rfl, if_pos hcur]
      · exact Below.heap_setCell _ _ _ _ (fun e => hk (by simp [Value.ownBlock, e]))
    · obtain ⟨v', w', hr, ho, hgr⟩ := run_append_arg_grows (P := Try.prog) w 49 ty 29 i0 (.slice none 0 0) 1 24 Try.underlying49 hi hz0 hz1 hz2 rfl (by decide) ⟨g, off, none⟩ xs.length cap xs (by omega)
        (fun j u hj => by
          rw [Addr.add_lit, cell_of_row w g (off + j) cur 29 (0, 0) hg]
          exact hxs j u hj) ad 1 c [x] rfl hn1 (by omega) (by unfold maxLen; omega) (by omega)
      have hgr' : w.grownBy w' (Value.ownBlock (.slice (some ⟨g, off, none⟩) xs.length cap)) := ⟨hgr.os, hgr.tape, hgr.output, hgr.size, fun k hk _ => hgr.block k hk (by simp)⟩
      exact ⟨v', w', hr, Slot.of_own (own_wk ho hB), hgr', .inr fun g hg => (ho.lt g hg).1⟩

theorem wpList_append_slot {w : World} {ops : Array Oper} {rest : List Oper} {o : Oper} {a : Act} {Q : Exit → Act → World → Prop} (hgd : o.guard = none) (s x : Operand)
    (ho : o.op = .call { callee := .builtin .append, args := #[s, x], argTypes := #[49, 49] })
    (B : Nat) (v u : Value) (xs : List Value) (ad : Addr) (c : Nat) (hs : a.eval s = v) (hsl : Slot B w v xs) (hx : a.eval x = .slice (some ad) 1 c) (hu : w.cell? ad = some u) (h1 : u.oneCell' = true)
    (hlen : xs.length ≤ 1000000) (hB : B ≤ w.heap.size)
    (h : ∀ v' w', Slot B w' v' (xs ++ [u]) → w.grownBy w' v.ownBlock → (v'.ownBlock = v.ownBlock ∨ ∀ g, v'.ownBlock = some g → w.heap.size ≤ g) → wpList Try.prog ops Q rest (a.put o.dst v') w') :
    wpList Try.prog ops Q (o :: rest) a w := by
  refine wpList_plain hgd fun K hK => ?_
  obtain ⟨v', w', hr, h2, h3, h4⟩ := run_append_slot w o.type B v u xs ad c hsl hu h1 hlen hB
  unfold Oper.wp execOp
  simp only [ho, resolve, invoke, builtin, Sem.run_bind, Sem.run_pure, Result.andThen_ok, List.map_toArray, List.map_cons, List.map_nil, hs, hx, hr]
  exact hK _ _ (h v' w' h2 h3 h4)

/-- The row without its first value. -/
theorem Slot.tail {B : Nat} {w : World} {v x : Value} {xs : List Value} (h : Slot B w v (x :: xs)) (hne : xs ≠ []) :
    ∃ v', (∀ wx, (Instr.slice 49 v (some (.int .i64 1)) none none).run Try.prog wx = .ok v' wx) ∧ Slot B w v' xs ∧ v'.ownBlock = v.ownBlock := by
  rcases h with ⟨-, h⟩ | ⟨g, off, cap, cur, rfl, hB, hg, hc, hm, hs, hx⟩
  · cases h
  · have hl : 0 < xs.length := List.length_pos_iff.2 hne
    have hcl : xs.length + 1 ≤ cap := by simpa using hc
    refine ⟨.slice (some ⟨g, off + 1, none⟩) xs.length (cap - 1), fun wx => ?_, .inr ⟨g, off + 1, cap - 1, cur, rfl, hB, hg, by omega, by omega, by omega, fun j u hj => ?_⟩, rfl⟩
    · rw [run_slice_l wx 49 _ _ cap (by kernel_rfl) .i64 1 (by decide) (by simp only [List.length_cons]; omega)]
      rw [show Try.prog.elem 49 = 29 by kernel_rfl, Try.sizeOf29]
      simp only [Result.andThen, sliced]
      rw [if_neg (show ¬ cap = (1 : Int).toNat by simp; omega)]
      simp [Addr.add]
    · have := hx (j + 1) u (by simpa using hj)
      rwa [show off + (j + 1) = off + 1 + j by omega] at this
end Go.Proofs.Ytcmneinhcfejhaa.KY
