/- Next of package flow: walked. -/
import Derived.Test.YtjbkhaafaplceaaFC
import Derived.Deep.RegionHeld3
namespace Go.Proofs.Ytjbkhaafaplceaa
open Go.RowKit

/-- What may come behind the k-th, which is x. -/
def nextL (l : List IN) (k : Nat) (x : IN) : List Int :=
  if !endsB x.op && decide (k + 1 < l.length) then
    (if tgtZ l x < 0 then [(k : Int) + 1] else if tgtZ l x < (k : Int) + 1 then [tgtZ l x, (k : Int) + 1] else if tgtZ l x = (k : Int) + 1 then [(k : Int) + 1] else [(k : Int) + 1, tgtZ l x])
  else (if tgtZ l x < 0 then [] else [tgtZ l x])
def nextZ (l : List IN) (n : Int) : List Int := if n < 0 then [] else match l[n.toNat]? with
  | some x => nextL l n.toNat x
  | none => []
theorem nextZ_at {l : List IN} {k : Nat} {x : IN} (h : l[k]? = some x) : nextZ l (k : Int) = nextL l k x := by
  unfold nextZ
  rw [if_neg (by omega)]
  simp only [Int.toNat_natCast]
  rw [h]
theorem nextZ_out {l : List IN} {n : Int} (h : n < 0 ∨ (l.length : Int) ≤ n) : nextZ l n = [] := by
  unfold nextZ
  by_cases h0 : n < 0
  · rw [if_pos h0]
  · rw [if_neg h0, List.getElem?_eq_none (by omega)]
theorem tgtZ_lt (l : List IN) (x : IN) : -1 ≤ tgtZ l x ∧ tgtZ l x < l.length := by
  unfold tgtZ
  split
  · exact findZ_lt l x.a
  · omega
/-- A list of numbers of one's own. -/
def NOwn (w : World) (B : Nat) (v : Value) (l : List Int) : Prop := w.ownsRow B 3 1 v l.length (ncells l)
theorem Try.infoN : (Try.prog.info? 3).map (fun i => (i.zero, i.size, i.bytes)) = some (some (.int .i64 0), 1, 8) := by kernel_rfl
theorem ncells_one (l : List Int) : ∀ u ∈ ncells l, u.oneCell' = true := by
  intro u hu
  simp only [ncells, List.mem_map] at hu
  obtain ⟨x, _, rfl⟩ := hu
  rfl
/-- append(v, x) of one number that was just laid. -/
theorem wpList_nappend {w : World} {ops : Array Oper} {rest : List Oper} {o : Oper} {a : Act} {Q : Exit → Act → World → Prop} (hgd : o.guard = none) (s x : Operand)
    (ho : o.op = .call { callee := .builtin .append, args := #[s, x], argTypes := #[37, 37] })
    (B : Nat) (v : Value) (l : List Int) (y : Int) (hown : NOwn w B v l) (hs : a.eval s = v) (hx : a.eval x = .slice (some ⟨w.heap.size, 0, none⟩) 1 1)
    (hlen : l.length ≤ 10000000000000) (hB : B ≤ w.heap.size)
    (h : ∀ ao' cap' w', NOwn w' B (.slice ao' (l.length + 1) cap') (l ++ [y]) → Step v (w.alloc (.cells #[.int .i64 y] 3)) (.slice ao' (l.length + 1) cap') w' → wpList Try.prog ops Q rest (a.put o.dst (.slice ao' (l.length + 1) cap')) w') :
    wpList Try.prog ops Q (o :: rest) a (w.alloc (.cells #[.int .i64 y] 3)) := by
  obtain ⟨i0, hi, hz0, hz1, hz2⟩ := info_parts Try.infoN
  refine wpList_plain hgd fun K hK => ?_
  have hown' : (w.alloc (.cells #[.int .i64 y] 3)).ownsRow B 3 1 v l.length (ncells l) := own_below hown (below_alloc w _)
  obtain ⟨v', w', hr, h2, h3, _, h4⟩ := run_append_own_at (P := Try.prog) (w.alloc (.cells #[.int .i64 y] 3)) B 37 o.type 3 i0 (.int .i64 0) 1 8 Try.underlying37 hi hz0 hz1 hz2 rfl (by decide) v l.length (ncells l) hown' ⟨w.heap.size, 0, none⟩ 1 1 [.int .i64 y] rfl
    (fun j u hj => by
      have e : (⟨w.heap.size, 0, none⟩ : Addr).add j = ⟨w.heap.size, j, none⟩ := by unfold Addr.add; split <;> simp_all
      rw [e]
      exact cell_row (heap_alloc_new w _) j (by simpa using hj)) (ncells_one [y]) (by unfold maxLen; omega) (by omega) (by simp; omega)
  unfold Oper.wp execOp
  simp only [ho, resolve, invoke, builtin, Sem.run_bind, Sem.run_pure, Result.andThen_ok, List.map_toArray, List.map_cons, List.map_nil, hs, hx, hr]
  obtain ⟨ao', cap', rfl⟩ := own_slice h2
  refine hK _ _ (h ao' cap' w' ?_ (Step.of_at h3 h4))
  show w'.ownsRow B 3 1 _ (l ++ [y]).length (ncells (l ++ [y]))
  rw [ncells_append, List.length_append]
  exact h2
theorem NOwn.nil (w : World) (B : Nat) : NOwn w B (.slice none 0 0) [] := World.ownsRow_nil _ _ _ _
theorem NOwn.block {w : World} {B : Nat} {v : Value} {l : List Int} (h : NOwn w B v l) (hl : l ≠ []) : ∃ g cap cs, v = .slice (some ⟨g, 0, none⟩) l.length cap ∧ B ≤ g ∧ w.heap[g]? = some (.cells cs 3 (0, 0)) ∧ l.length ≤ cap ∧ cap ≤ maxLen ∧ cap ≤ cs.size ∧ ∀ (j : Nat) (x : Int), l[j]? = some x → cs[j]? = some (.int .i64 x) := by
  rcases h.2 with ⟨_, h0⟩ | ⟨g, cap, cur, rfl, hB, hg, h1, h2, h3, h4⟩
  · exact absurd (List.length_eq_zero_iff.1 h0) hl
  · refine ⟨g, cap, cur, rfl, hB, hg, h1, h2, by omega, fun j x hj => ?_⟩
    have hlt := (List.getElem?_eq_some_iff.1 hj).1
    have e : (ncells l)[j]? = some (.int .i64 x) := by simp [ncells, hj]
    rw [← h4, List.getElem?_take, if_pos (by omega), Array.getElem?_toList] at e
    exact e
def sortL : List Int → List Int
  | [x, y] => if y < x then [y, x] else [x, y]
  | l => l
def compL : List Int → List Int
  | [x, y] => if x = y then [x] else [x, y]
  | l => l
theorem NOwn.of_block {w : World} {B g cap n : Nat} {cs : Array Value} {l : List Int} (hB : B ≤ g) (hg : w.heap[g]? = some (.cells cs 3 (0, 0))) (hn : l.length = n) (h1 : n ≤ cap) (h2 : cap ≤ maxLen) (h3 : cs.size = cap) (h4 : ∀ (j : Nat) (x : Int), l[j]? = some x → cs[j]? = some (.int .i64 x)) : NOwn w B (.slice (some ⟨g, 0, none⟩) n cap) l := by
  subst hn
  refine ⟨by rw [ncells_len]; omega, .inr ⟨g, cap, cs, rfl, hB, hg, h1, h2, by omega, ?_⟩⟩
  apply List.ext_getElem?
  intro j
  rw [List.getElem?_take, Array.getElem?_toList]
  by_cases hj : j < l.length * 1
  · rw [if_pos hj]
    have e : l[j]? = some l[j] := List.getElem?_eq_getElem (by omega)
    rw [h4 j _ e]
    simp [ncells, e]
  · rw [if_neg hj, List.getElem?_eq_none (by rw [ncells_len]; omega)]
theorem sortN (B : Nat) (v : Value) (l : List Int) (w : World) (h : NOwn w B v l) (hl : l.length ≤ 2) :
    Calls Try.prog 31 #[v] w fun e w' => e = .returned (.tuple #[]) ∧ (NOwn w' B v (sortL l) ∧ Below B w w') := by
  match l, hl, h with
  | [], _, h =>
    obtain ⟨ao, cap, rfl⟩ := own_slice h
    exact sort_any ao 0 cap (by omega) w _ ((isort_few ao 0 cap (by omega) w).mono fun e w' ⟨he, hw⟩ => ⟨he, by cases hw; exact ⟨h, Below.refl _ _⟩⟩)
  | [x], _, h =>
    obtain ⟨ao, cap, rfl⟩ := own_slice h
    exact sort_any ao 1 cap (by omega) w _ ((isort_few ao 1 cap (by omega) w).mono fun e w' ⟨he, hw⟩ => ⟨he, by cases hw; exact ⟨h, Below.refl _ _⟩⟩)
  | [x, y], _, h =>
    obtain ⟨g, cap, cs, rfl, hB, hg, h1, h2, h3, h4⟩ := h.block (by simp)
    have e3 : cs.size = cap := by
      rcases h.2 with ⟨e, _⟩ | ⟨g', cap', cur, e, _, hg', _, _, h5, _⟩
      · cases e
      · cases e
        rw [hg] at hg'
        cases hg'
        omega
    have hh := isort_two g cap x y cs w hg (h4 0 x rfl) (h4 1 y rfl)
    refine sort_any (some ⟨g, 0, none⟩) 2 cap (by omega) w _ (hh.mono fun e w' ⟨he, ho, hc⟩ => ⟨he, ?_, ho.below hB⟩)
    show NOwn w' B (.slice (some ⟨g, 0, none⟩) 2 cap) (sortL [x, y])
    have h1' : 2 ≤ cap := h1
    rw [show sortL [x, y] = if y < x then [y, x] else [x, y] from rfl]
    unfold sort2 at hc
    by_cases hyx : y < x
    · rw [if_pos hyx] at hc ⊢
      refine NOwn.of_block hB hc rfl h1' h2 (by simpa using e3) fun j z hj => ?_
      match j, hj with
      | 0, hj => simp at hj; subst hj; rw [Array.getElem?_setIfInBounds_self_of_lt (by simp; omega)]
      | 1, hj => simp at hj; subst hj; rw [Array.getElem?_setIfInBounds_ne (by decide), Array.getElem?_setIfInBounds_self_of_lt (by omega)]
      | j + 2, hj => simp at hj
    · rw [if_neg hyx] at hc ⊢
      exact NOwn.of_block hB hc rfl h1' h2 e3 h4
  | _ :: _ :: _ :: _, hl, _ => simp at hl
theorem compactN (B : Nat) (v : Value) (l : List Int) (w : World) (h : NOwn w B v l) (hl : l.length ≤ 2) :
    Calls Try.prog 32 #[v] w fun e w' => ∃ v', e = .returned v' ∧ NOwn w' B v' (compL l) ∧ Below B w w' := by
  match l, hl, h with
  | [], _, h =>
    obtain ⟨ao, cap, rfl⟩ := own_slice h
    exact (compact_few ao 0 cap (by omega) w).mono fun e w' ⟨he, hw⟩ => ⟨_, he, by cases hw; exact ⟨h, Below.refl _ _⟩⟩
  | [x], _, h =>
    obtain ⟨ao, cap, rfl⟩ := own_slice h
    exact (compact_few ao 1 cap (by omega) w).mono fun e w' ⟨he, hw⟩ => ⟨_, he, by cases hw; exact ⟨h, Below.refl _ _⟩⟩
  | [x, y], _, h =>
    obtain ⟨g, cap, cs, rfl, hB, hg, h1, h2, h3, h4⟩ := h.block (by simp)
    have e3 : cs.size = cap := by
      rcases h.2 with ⟨e, _⟩ | ⟨g', cap', cur, e, _, hg', _, _, h5, _⟩
      · cases e
      · cases e
        rw [hg] at hg'
        cases hg'
        omega
    have h1' : 2 ≤ cap := h1
    rw [show compL [x, y] = if x = y then [x] else [x, y] from rfl]
    by_cases hxy : x = y
    · subst hxy
      rw [if_pos rfl]
      refine (compact_same g cap x cs h1' h2 w hg (h4 0 x rfl) (h4 1 x rfl)).mono fun e w' ⟨he, ho, u, hc⟩ => ⟨_, he, ?_, ho.below hB⟩
      refine NOwn.of_block hB hc rfl (by omega) h2 (by simpa using e3) fun j z hj => ?_
      match j, hj with
      | 0, hj => simp at hj; subst hj; simpa using h4 0 x rfl
      | j + 1, hj => simp at hj
    · rw [if_neg hxy]
      refine (compact_two g cap x y hxy w (cell_row hg 0 (h4 0 x rfl)) (cell_row hg 1 (h4 1 y rfl))).mono fun e w' ⟨he, q, hw⟩ => ⟨_, he, ?_⟩
      subst hw
      exact ⟨h, below_drewN (Below.refl _ _) q⟩
  | _ :: _ :: _ :: _, hl, _ => simp at hl
theorem nextL_sorted (l : List IN) (k : Nat) (x : IN) : nextL l k x = compL (sortL ((if !endsB x.op && decide (k + 1 < l.length) then [(k : Int) + 1] else []) ++ (if tgtZ l x < 0 then [] else [tgtZ l x]))) := by
  unfold nextL
  by_cases h1 : (!endsB x.op && decide (k + 1 < l.length)) = true
  · rw [if_pos h1, if_pos h1]
    by_cases h2 : tgtZ l x < 0
    · simp only [if_pos h2]; rfl
    · simp only [if_neg h2]
      simp only [List.cons_append, List.nil_append]
      rw [show sortL [(k : Int) + 1, tgtZ l x] = if tgtZ l x < (k : Int) + 1 then [tgtZ l x, (k : Int) + 1] else [(k : Int) + 1, tgtZ l x] from rfl]
      by_cases h3 : tgtZ l x < (k : Int) + 1
      · rw [if_pos h3, if_pos h3, show compL [tgtZ l x, (k : Int) + 1] = if tgtZ l x = (k : Int) + 1 then [tgtZ l x] else [tgtZ l x, (k : Int) + 1] from rfl, if_neg (by omega)]
      · rw [if_neg h3, if_neg h3, show compL [(k : Int) + 1, tgtZ l x] = if (k : Int) + 1 = tgtZ l x then [(k : Int) + 1] else [(k : Int) + 1, tgtZ l x] from rfl]
        by_cases h4 : tgtZ l x = (k : Int) + 1
        · rw [if_pos h4, if_pos h4.symm]
        · rw [if_neg h4, if_neg (fun h => h4 h.symm)]
  · rw [if_neg h1, if_neg h1]
    by_cases h2 : tgtZ l x < 0
    · simp only [if_pos h2]; rfl
    · simp only [if_neg h2]; rfl
theorem NOwn.step {w w' : World} {B : Nat} {v : Value} {l : List Int} (h : NOwn w B v l) (hb : Below w.heap.size w w') : NOwn w' B v l := own_below h hb
theorem NOwn.drewN {w : World} {B : Nat} {v : Value} {l : List Int} (h : NOwn w B v l) (q : Nat) : NOwn (w.drewN q) B v l := h
theorem sortL_len (l : List Int) : (sortL l).length = l.length := by
  unfold sortL
  split
  · split <;> rfl
  · rfl
end Go.Proofs.Ytjbkhaafaplceaa
