/- Words that are slid, without Go; rows of one's own that are cut, cleared and copied. -/
import Derived.Test.YtbdeflpjplhafaaJU
import Derived.Laws.CopyRow
namespace Go.Proofs.Ytbdeflpjplhafaa.J
open Go.RowKit Go.MapKept Go.ChangeMaps
set_option linter.unusedVariables false

def mvW (ws : List Int) (q p m : Nat) : List Int := ws.take q ++ (ws.drop p).take m ++ ws.drop (q + m)
theorem mvW_len {ws : List Int} {q p m : Nat} (hq : q + m ≤ ws.length) (hp : p + m ≤ ws.length) : (mvW ws q p m).length = ws.length := by
  simp only [mvW, List.length_append, List.length_take, List.length_drop]
  omega
theorem mvW_take {ws : List Int} {q p m : Nat} (hq : q + m ≤ ws.length) (hp : p + m ≤ ws.length) : (mvW ws q p m).take (q + m) = ws.take q ++ (ws.drop p).take m := by
  unfold mvW
  apply List.take_left'
  simp only [List.length_append, List.length_take, List.length_drop]
  omega
theorem mvW_at {ws : List Int} {q p m j : Nat} (hq : q + m ≤ ws.length) (hp : p + m ≤ ws.length) (hj : q + m ≤ j) : (mvW ws q p m)[j]? = ws[j]? := by
  unfold mvW
  have h1 : (ws.take q ++ (ws.drop p).take m).length = q + m := by simp only [List.length_append, List.length_take, List.length_drop]; omega
  rw [List.getElem?_append_right (by rw [h1]; exact hj), h1, List.getElem?_drop]
  congr 1
  omega
def obsM (ss : List (List Bool)) (K : List (Nat × Ob)) : List Ob := K.map fun x => mvO ss K x.2
theorem mvO_len (ss : List (List Bool)) (K : List (Nat × Ob)) (o : Ob) : (mvO ss K o).f.length = o.f.length := mvN_len ..
theorem usedN_map (g : Ob → Ob) (hg : ∀ o, (g o).f.length = o.f.length) : ∀ l : List Ob, usedN (l.map g) = usedN l
  | [] => rfl
  | o :: l => by simp only [List.map_cons, usedN, hg, usedN_map g hg l]
theorem obsM_eq (ss : List (List Bool)) (K : List (Nat × Ob)) : obsM ss K = (obsK K).map (mvO ss K) := by simp [obsM, obsK, Function.comp_def]
theorem usedN_obsM (ss : List (List Bool)) (K : List (Nat × Ob)) (i : Nat) : usedN ((obsM ss K).take i) = usedN ((obsK K).take i) := by
  rw [obsM_eq, ← List.map_take, usedN_map _ (mvO_len ss K)]
theorem begs_map (g : Ob → Ob) (hg : ∀ o, (g o).f.length = o.f.length) : ∀ (l : List Ob) (p : Nat), begs p (l.map g) = begs p l
  | [], p => rfl
  | o :: l, p => by simp only [List.map_cons, begs, hg, begs_map g hg l]
theorem begs_obsM (ss : List (List Bool)) (K : List (Nat × Ob)) : begs 0 (obsM ss K) = begs 0 (obsK K) := by rw [obsM_eq, begs_map _ (mvO_len ss K)]
theorem obsM_at {ss : List (List Bool)} {K : List (Nat × Ob)} {i p : Nat} {o : Ob} (h : K[i]? = some (p, o)) : (obsM ss K)[i]? = some (mvO ss K o) := by simp [obsM, h]
theorem obsM_len (ss : List (List Bool)) (K : List (Nat × Ob)) : (obsM ss K).length = K.length := by simp [obsM]
/-- How far what is kept was moved. -/
structure Mvd (ss : List (List Bool)) (K : List (Nat × Ob)) (ws0 ws : List Int) (k : Nat) : Prop where
  len : ws.length = ws0.length
  done : ws.take (usedN ((obsK K).take k)) = wsL ((obsM ss K).take k)
  rest : ∀ (p : Nat) (o : Ob), K[k]? = some (p, o) → ∀ j, p ≤ j → ws[j]? = ws0[j]?
theorem wsL_seg : ∀ (l : List Ob) (p : Nat) (o : Ob), atN l p = some o → ((wsL l).drop p).take (o.f.length + 3) = obW o := by
  intro l p o h
  apply List.ext_getElem?
  intro i
  rw [List.getElem?_take]
  by_cases hi : i < o.f.length + 3
  · rw [if_pos hi, List.getElem?_drop]
    obtain ⟨x, hx⟩ : ∃ x, (obW o)[i]? = some x := ⟨(obW o)[i]'(by rw [obW_len]; exact hi), List.getElem?_eq_getElem _⟩
    rw [wsL_at l p o h i x hx, hx]
  · rw [if_neg hi, List.getElem?_eq_none (by rw [obW_len]; omega)]
variable {ss : List (List Bool)} {K : List (Nat × Ob)} {l lc : List Ob} {ws ws0 : List Int} {k : Nat}
theorem Mvd.start : Mvd ss K ws0 ws0 0 := ⟨rfl, by simp [usedN, wsL], fun _ _ _ _ _ => rfl⟩
theorem Mvd.step (hK : KOk l K) (hf : Fol ss K l lc K.length 0) (h : Mvd ss K (wsL lc) ws k) {p : Nat} {o : Ob} (hi : K[k]? = some (p, o)) :
    Mvd ss K (wsL lc) (mvW ws (usedN ((obsK K).take k)) p (o.f.length + 3)) (k + 1) := by
  have hk := (List.getElem?_eq_some_iff.1 hi).1
  have hat := hf.before k p o hi hk
  have h1 := atN_lt lc p _ hat
  rw [mvO_len] at h1
  have hpl := hK.place k p o hi
  have hwl : ws.length = usedN lc := by rw [h.len, wsL_len]
  have hq : usedN ((obsK K).take k) + (o.f.length + 3) ≤ ws.length := by omega
  have hp : p + (o.f.length + 3) ≤ ws.length := by omega
  have hu := (usedN_take (obsK K) k o (obsK_at hi)).1
  refine ⟨by rw [mvW_len hq hp]; exact h.len, ?_, fun p' o' hi' j hj => ?_⟩
  · rw [hu, mvW_take hq hp, h.done, take_snoc (obsM_at hi), wsL_append]
    congr 1
    have := wsL_seg lc p _ hat
    rw [mvO_len] at this
    simp only [wsL, List.append_nil]
    rw [← this]
    apply List.ext_getElem?
    intro i
    rw [List.getElem?_take, List.getElem?_take, List.getElem?_drop, List.getElem?_drop, h.rest p o hi (p + i) (by omega)]
  · have h2 := hK.apart hi hi' (Nat.lt_succ_self k)
    rw [mvW_at hq hp (by omega)]
    exact h.rest p o hi j (by omega)
theorem Mvd.end_ (h : Mvd ss K ws0 ws K.length) : ws.take (usedN (obsK K)) = wsL (obsM ss K) := by
  have := h.done
  rwa [show (obsK K).take K.length = obsK K by rw [← obsK_len, List.take_length], show (obsM ss K).take K.length = obsM ss K by rw [← obsM_len ss K, List.take_length]] at this
theorem atN_nth : ∀ (l : List Ob) (p : Nat) (o : Ob), atN l p = some o → ∃ i, l[i]? = some o ∧ usedN (l.take i) = p
  | [], p, o, h => by simp [atN] at h
  | x :: l, p, o, h => by
    unfold atN at h
    split at h
    · cases h; exact ⟨0, rfl, by simp [usedN]; omega⟩
    · split at h
      · cases h
      · obtain ⟨i, h1, h2⟩ := atN_nth l _ o h
        exact ⟨i + 1, by simpa using h1, by simp only [List.take_succ_cons, usedN, h2]; omega⟩
/-- Which words begin an object, once the first were told. -/
structure Mkd (ob : List Ob) (bs : List Bool) (k : Nat) : Prop where
  len : bs.length = usedN ob
  at_ : ∀ p, p < usedN ob → bs[p]? = some (decide (∃ i, i < k ∧ usedN (ob.take i) = p))
theorem Mkd.start (ob : List Ob) : Mkd ob (List.replicate (usedN ob) false) 0 := ⟨by simp, fun p hp => by
  rw [List.getElem?_replicate, if_pos hp, decide_eq_false]
  rintro ⟨i, h, _⟩
  omega⟩
theorem Mkd.step {ob : List Ob} {bs : List Bool} (h : Mkd ob bs k) (hk : k < ob.length) : Mkd ob (bs.set (usedN (ob.take k)) true) (k + 1) := by
  refine ⟨by rw [List.length_set]; exact h.len, fun p hp => ?_⟩
  rw [List.getElem?_set, h.len]
  by_cases e : usedN (ob.take k) = p
  · rw [if_pos e, if_pos (by omega), decide_eq_true]
    exact ⟨k, Nat.lt_succ_self k, e⟩
  · rw [if_neg e, h.at_ p hp]
    congr 1
    apply decide_eq_decide.2
    constructor
    · rintro ⟨i, h1, h2⟩; exact ⟨i, by omega, h2⟩
    · rintro ⟨i, h1, h2⟩
      refine ⟨i, ?_, h2⟩
      rcases Nat.lt_or_ge i k with h3 | h3
      · exact h3
      · obtain rfl : i = k := by omega
        exact absurd h2 e
theorem Mkd.end_ {ob : List Ob} {bs : List Bool} (h : Mkd ob bs ob.length) : bs = bsL ob := by
  apply List.ext_getElem?
  intro p
  by_cases hp : p < usedN ob
  · rw [h.at_ p hp, bsL_at ob p hp]
    congr 1
    cases e : atN ob p with
    | none =>
      simp only [Option.isSome_none, decide_eq_false_iff_not]
      rintro ⟨i, h1, h2⟩
      have := atN_take ob i ob[i] (List.getElem?_eq_getElem h1)
      rw [h2, e] at this
      cases this
    | some o =>
      obtain ⟨i, h1, h2⟩ := atN_nth ob p o e
      simp only [Option.isSome_some, decide_eq_true_eq]
      exact ⟨i, (List.getElem?_eq_some_iff.1 h1).1, h2⟩
  · rw [List.getElem?_eq_none (by rw [h.len]; omega), List.getElem?_eq_none (by rw [bsL_len]; omega)]
end Go.Proofs.Ytbdeflpjplhafaa.J

