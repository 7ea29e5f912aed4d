/- Blocks of package flow: what they are, without Go; how they lie. -/
import Derived.Test.YtjbkhaafaplceaaFO
namespace Go.Proofs.Ytjbkhaafaplceaa
open Go.RowKit

/-- Blocks from 0 up to p: each from a beginning up to the next one. -/
inductive BlkP (d : List Bool) (n : Nat) : Nat → List (Nat × Nat) → Prop
  | nil : BlkP d n 0 []
  | snoc {p t : Nat} {bl : List (Nat × Nat)} : BlkP d n p bl → p < t → t ≤ n → (∀ q, p < q → q < t → d[q]? = some false) → (t = n ∨ d[t]? = some true) → BlkP d n t (bl ++ [(p, t)])
inductive Blk (d : List Bool) (n : Nat) : Nat → List (Nat × Nat) → Prop
  | nil : Blk d n n []
  | cons {p t : Nat} {r : List (Nat × Nat)} : p < t → t ≤ n → (∀ q, p < q → q < t → d[q]? = some false) → (t = n ∨ d[t]? = some true) → Blk d n t r → Blk d n p ((p, t) :: r)
theorem BlkP.join {d : List Bool} {n p : Nat} {bl r : List (Nat × Nat)} (h : BlkP d n p bl) (k : Blk d n p r) : Blk d n 0 (bl ++ r) := by
  induction h generalizing r with
  | nil => exact k
  | snoc _ h1 h2 h3 h4 ih =>
    rw [List.append_assoc]
    exact ih (.cons h1 h2 h3 h4 k)
theorem BlkP.all {d : List Bool} {n : Nat} {bl : List (Nat × Nat)} (h : BlkP d n n bl) : Blk d n 0 bl := by
  have := h.join .nil
  rwa [List.append_nil] at this
theorem Blk.unique {d : List Bool} {n p : Nat} {a b : List (Nat × Nat)} (ha : Blk d n p a) (hb : Blk d n p b) : a = b := by
  induction ha generalizing b with
  | nil =>
    cases hb with
    | nil => rfl
    | cons h1 h2 _ _ _ => omega
  | @cons p t r h1 h2 h3 h4 _ ih =>
    cases hb with
    | nil => omega
    | @cons _ t' r' g1 g2 g3 g4 k =>
      have e : t = t' := by
        rcases Nat.lt_trichotomy t t' with h | h | h
        · have := g3 t h1 h
          rcases h4 with h4 | h4
          · omega
          · rw [this] at h4; cases h4
        · exact h
        · have := h3 t' g1 h
          rcases g4 with g4 | g4
          · omega
          · rw [this] at g4; cases g4
      subst e
      rw [ih k]
theorem BlkP.lt {d : List Bool} {n p : Nat} {bl : List (Nat × Nat)} (h : BlkP d n p bl) : p ≤ n ∧ bl.length ≤ p ∧ ∀ x ∈ bl, x.1 < x.2 ∧ x.2 ≤ p := by
  induction h with
  | nil => exact ⟨Nat.zero_le _, Nat.le_refl _, fun x hx => by simp at hx⟩
  | @snoc p t bl _ h1 h2 _ _ ih =>
    obtain ⟨i1, i2, i3⟩ := ih
    refine ⟨h2, by simp; omega, fun x hx => ?_⟩
    rcases List.mem_append.1 hx with hx | hx
    · have := i3 x hx; omega
    · simp at hx; subst hx; exact ⟨h1, Nat.le_refl _⟩
/-- The number of the block that begins there. -/
def Numb (bl : List (Nat × Nat)) (nu : List Int) : Prop := ∀ (j : Nat) (x : Nat × Nat), bl[j]? = some x → nu[x.1]? = some (j : Int)
theorem Numb.snoc {d : List Bool} {n p t : Nat} {bl : List (Nat × Nat)} {nu : List Int} (hb : BlkP d n p bl) (h : Numb bl nu) (hp : p < nu.length) : Numb (bl ++ [(p, t)]) (nu.set p (bl.length : Int)) := by
  intro j x hj
  by_cases hlt : j < bl.length
  · rw [List.getElem?_append_left hlt] at hj
    have h1 := hb.lt.2.2 x (List.mem_of_getElem? hj)
    rw [List.getElem?_set_ne (by omega)]
    exact h j x hj
  · rw [List.getElem?_append_right (by omega)] at hj
    have e : j = bl.length := by
      rcases Nat.eq_zero_or_pos (j - bl.length) with h | h
      · omega
      · rw [List.getElem?_eq_none (by simp; omega)] at hj; cases hj
    subst e
    rw [Nat.sub_self] at hj
    simp at hj
    subst hj
    rw [List.getElem?_set_self hp]
/-- A block in the making: its row. -/
def brow (x : Nat × Nat) : List Value := [.int .i64 (x.1 : Int), .int .i64 (x.2 : Int), .slice none 0 0]
def brows (l : List (Nat × Nat)) : List Value := l.flatMap brow
theorem brows_append (a b : List (Nat × Nat)) : brows (a ++ b) = brows a ++ brows b := by simp [brows]
theorem Try.infoK : (Try.prog.info? 57).map (fun i => (i.zero, i.size, i.bytes)) = some (some (.agg #[.int .i64 0, .int .i64 0, .slice none 0 0]), 3, 40) := by kernel_rfl
theorem brow_one (x : Nat × Nat) : ∀ u ∈ brow x, u.oneCell' = true := by
  intro u hu
  simp [brow] at hu
  rcases hu with rfl | rfl | rfl <;> rfl
/-- append(blocks, Block{From, To}), the block just laid. -/
theorem wpList_kappend {w : World} {ops : Array Oper} {rest : List Oper} {o : Oper} {a : Act} {Q : Exit → Act → World → Prop} (hgd : o.guard = none) (s x : Operand)
    (ho : o.op = .call { callee := .builtin .append, args := #[s, x], argTypes := #[48, 48] })
    (B : Nat) (v : Value) (bl : List (Nat × Nat)) (f t : Nat) (hown : w.ownsRow B 57 3 v bl.length (brows bl)) (hs : a.eval s = v) (hx : a.eval x = .slice (some ⟨w.heap.size, 0, none⟩) 1 1)
    (hlen : bl.length ≤ 1000000000000) (hB : B ≤ w.heap.size)
    (h : ∀ ao' cap' w', w'.ownsRow B 57 3 (.slice ao' (bl.length + 1) cap') (bl ++ [(f, t)]).length (brows (bl ++ [(f, t)])) → Step v (w.alloc (.cells #[.int .i64 (f : Int), .int .i64 (t : Int), .slice none 0 0] 57)) (.slice ao' (bl.length + 1) cap') w' → wpList Try.prog ops Q rest (a.put o.dst (.slice ao' (bl.length + 1) cap')) w') :
    wpList Try.prog ops Q (o :: rest) a (w.alloc (.cells #[.int .i64 (f : Int), .int .i64 (t : Int), .slice none 0 0] 57)) := by
  obtain ⟨i0, hi, hz0, hz1, hz2⟩ := info_parts Try.infoK
  refine wpList_plain hgd fun K hK => ?_
  have hown' := own_below hown (below_alloc w (.cells #[.int .i64 (f : Int), .int .i64 (t : Int), .slice none 0 0] 57))
  obtain ⟨v', w', hr, h2, h3, _, h4⟩ := run_append_own_at (P := Try.prog) (w.alloc (.cells #[.int .i64 (f : Int), .int .i64 (t : Int), .slice none 0 0] 57)) B 48 o.type 57 i0 _ 3 40 Try.underlying48 hi hz0 hz1 hz2 rfl (by decide) v bl.length (brows bl) hown' ⟨w.heap.size, 0, none⟩ 1 1 (brow (f, t)) rfl
    (fun j u hj => by
      have e : (⟨w.heap.size, 0, none⟩ : Addr).add j = ⟨w.heap.size, j, none⟩ := by unfold Addr.add; split <;> simp_all
      rw [e]
      exact cell_row (heap_alloc_new w _) j (by simpa [brow] using hj)) (brow_one (f, t)) (by unfold maxLen; omega) (by omega) (by simp; omega)
  unfold Oper.wp execOp
  simp only [ho, resolve, invoke, builtin, Sem.run_bind, Sem.run_pure, Result.andThen_ok, List.map_toArray, List.map_cons, List.map_nil, hs, hx, hr]
  obtain ⟨ao', cap', rfl⟩ := own_slice h2
  refine hK _ _ (h ao' cap' w' ?_ (Step.of_at h3 h4))
  rw [brows_append, List.length_append]
  simpa [brows] using h2
theorem made_nums (n : Nat) : madeCells #[Value.int .i64 0] n = (ncells (List.replicate n 0)).toArray := by
  apply Array.toList_inj.1
  rw [toList_madeCells_one]
  simp [ncells]
end Go.Proofs.Ytjbkhaafaplceaa
