/- Graphs of stage 14's statements, without Go. -/
import Derived.Test.YtbdeflpjplhafaaJZ
namespace Go.Proofs.Ytbdeflpjplhafaa.J
set_option linter.unusedVariables false

structure Nd where
  sh : Int
  n : Int
  ts : List Int
def shp4 : List (List Bool) := [[], [true], [true, false], [false, true, true]]
def objN (x : Nd) : Nat := if x.sh < 0 then wiZ x.n 6 else ((shp4[x.sh.toNat % 4]?).getD []).length
def objS (x : Nd) : Int := if x.sh < 0 then arrS (x.sh == -2) else ((x.sh.toNat % 4 : Nat) : Int)
def nodeO (i : Nat) (x : Nd) : Ob := ⟨objS x, (i : Int) + 1, List.replicate (objN x) 0⟩
def nodeL (xs : List Nd) (k : Nat) : List Ob := (xs.take k).mapIdx nodeO
theorem nodeL_snoc {xs : List Nd} {k : Nat} {x : Nd} (hx : xs[k]? = some x) : nodeL xs (k + 1) = nodeL xs k ++ [nodeO k x] := by
  unfold nodeL
  rw [take_snoc hx, List.mapIdx_concat, List.length_take, Nat.min_eq_left (Nat.le_of_lt (List.getElem?_eq_some_iff.1 hx).1)]
theorem nodeL_len {xs : List Nd} {k : Nat} (hk : k ≤ xs.length) : (nodeL xs k).length = k := by
  simp [nodeL, Nat.min_eq_left hk]
theorem objN_le (x : Nd) : objN x ≤ 6 := by
  unfold objN
  split
  · exact wiZ_le _ _
  · have h : ∀ j, j < 4 → ((shp4[j]?).getD []).length ≤ 6 := by decide
    exact h _ (Nat.mod_lt _ (by decide))
theorem nodeL_used (xs : List Nd) : ∀ k, k ≤ xs.length → usedN (nodeL xs k) ≤ 9 * k
  | 0, _ => by simp [nodeL, usedN]
  | k + 1, h => by
    obtain ⟨x, hx⟩ : ∃ x, xs[k]? = some x := ⟨xs[k], List.getElem?_eq_getElem h⟩
    have h1 := nodeL_used xs k (by omega)
    have h2 := objN_le x
    rw [nodeL_snoc hx, usedN_append]
    simp only [usedN, nodeO, List.length_replicate]
    omega
theorem modN_end (g : Ob → Ob) (o : Ob) : ∀ l : List Ob, modN g (l ++ [o]) (usedN l) = l ++ [g o]
  | [] => rfl
  | x :: l => by
    simp only [List.cons_append, modN, usedN]
    rw [if_neg (by omega), if_neg (by omega), show x.f.length + 3 + usedN l - (x.f.length + 3) = usedN l by omega, modN_end g o l]
theorem setTag_snoc (l : List Ob) (o : Ob) (x : Int) : setTagL (l ++ [o]) ((usedN l : Int) + 1) x = l ++ [setT x o] := by
  unfold setTagL
  rw [show ((usedN l : Int) + 1 - 1).toNat = usedN l by omega, modN_end]
theorem objZ_end (l : List Ob) (o : Ob) : objZ (l ++ [o]) ((usedN l : Int) + 1) = some o := by
  unfold objZ
  rw [if_pos (by omega), show ((usedN l : Int) + 1 - 1).toNat = usedN l by omega, atN_snoc, if_neg (by omega), if_pos rfl]
theorem begs_snoc (l : List Ob) (o : Ob) : begs 0 (l ++ [o]) = begs 0 l ++ [(usedN l : Int) + 1] := by
  rw [begs_append]; simp [begs]

/-- Shape, tag and length of each. -/
def skel (l : List Ob) : List (Int × Int × Nat) := l.map fun o => (o.sh, o.tag, o.f.length)
theorem skel_mod (g : Ob → Ob) (hg : ∀ o, (g o).sh = o.sh ∧ (g o).tag = o.tag ∧ (g o).f.length = o.f.length) : ∀ (l : List Ob) (p : Nat), skel (modN g l p) = skel l
  | [], p => rfl
  | o :: l, p => by
    obtain ⟨h1, h2, h3⟩ := hg o
    unfold modN
    split
    · simp [skel, h1, h2, h3]
    · split
      · rfl
      · have := skel_mod g hg l (p - (o.f.length + 3))
        unfold skel at this ⊢
        simp [this]
theorem skel_set (l : List Ob) (v n x : Int) : skel (setL l v n x) = skel l := skel_mod (setF n.toNat x) (fun o => ⟨rfl, rfl, setF_len _ _ o⟩) _ _
theorem begs_skel : ∀ (a b : List Ob) (p : Nat), skel a = skel b → begs p a = begs p b
  | [], [], p, _ => rfl
  | [], _ :: _, p, h => by simp [skel] at h
  | _ :: _, [], p, h => by simp [skel] at h
  | x :: a, y :: b, p, h => by
    simp only [skel, List.map_cons, List.cons.injEq, Prod.mk.injEq] at h
    obtain ⟨⟨h1, h2, h3⟩, h4⟩ := h
    simp only [begs, h3]
    rw [begs_skel a b _ h4]
theorem skel_len {a b : List Ob} (h : skel a = skel b) : a.length = b.length := by
  have := congrArg List.length h
  simpa [skel] using this
/-- What is stored into a field. -/
def valV (refs : List Int) (l : List Ob) (r : Int) (k : Nat) (t : Int) : Int := if refZ shp4 l r (k : Int) then (if 0 ≤ t then (refs[t.toNat % refs.length]?).getD 0 else 0) else t
def rowK (refs : List Int) (r : Int) (ts : List Int) (l : List Ob) : Nat → List Ob
  | 0 => l
  | k + 1 => setL (rowK refs r ts l k) r (k : Int) (valV refs (rowK refs r ts l k) r k ((ts[k]?).getD 0))
def graphI (xs : List Nd) (refs : List Int) (l0 : List Ob) : Nat → List Ob
  | 0 => l0
  | i + 1 => rowK refs ((refs[i]?).getD 0) ((xs[i]?).map (·.ts) |>.getD []) (graphI xs refs l0 i) (min (lenZ l0 ((refs[i]?).getD 0)).toNat ((xs[i]?).map (·.ts) |>.getD []).length)
theorem skel_row (refs : List Int) (r : Int) (ts : List Int) (l : List Ob) : ∀ k, skel (rowK refs r ts l k) = skel l
  | 0 => rfl
  | k + 1 => by
    unfold rowK
    rw [skel_set, skel_row refs r ts l k]
theorem skel_graph (xs : List Nd) (refs : List Int) (l0 : List Ob) : ∀ i, skel (graphI xs refs l0 i) = skel l0
  | 0 => rfl
  | i + 1 => by
    unfold graphI
    rw [skel_row, skel_graph xs refs l0 i]
theorem atN_skel : ∀ (a b : List Ob) (p : Nat), skel a = skel b → (atN a p).map (fun o => (o.sh, o.tag, o.f.length)) = (atN b p).map (fun o => (o.sh, o.tag, o.f.length))
  | [], [], p, _ => rfl
  | [], _ :: _, p, h => by simp [skel] at h
  | _ :: _, [], p, h => by simp [skel] at h
  | x :: a, y :: b, p, h => by
    simp only [skel, List.map_cons, List.cons.injEq, Prod.mk.injEq] at h
    obtain ⟨⟨h1, h2, h3⟩, h4⟩ := h
    unfold atN
    rw [h3]
    split
    · simp [h1, h2, h3]
    · split
      · rfl
      · exact atN_skel a b _ h4
theorem lenZ_skel {a b : List Ob} (h : skel a = skel b) (v : Int) : lenZ a v = lenZ b v := by
  unfold lenZ objZ
  by_cases hv : 1 ≤ v
  · rw [if_pos hv, if_pos hv]
    have := atN_skel a b (v - 1).toNat h
    cases h1 : atN a (v - 1).toNat <;> cases h2 : atN b (v - 1).toNat <;> rw [h1, h2] at this <;> simp_all
  · rw [if_neg hv, if_neg hv]
/-- The graph of nodes. -/
def graphL (xs : List Nd) : List Ob := graphI xs (begs 0 (nodeL xs (min xs.length 30))) (nodeL xs (min xs.length 30)) (min xs.length 30)
theorem graphL_skel (xs : List Nd) : skel (graphL xs) = skel (nodeL xs (min xs.length 30)) := skel_graph _ _ _ _
theorem graphL_len (xs : List Nd) : (graphL xs).length = min xs.length 30 := by
  rw [skel_len (graphL_skel xs), nodeL_len (by omega)]
/-- What is stored fits. -/
theorem valV_fit {refs : List Int} {l : List Ob} (hb : begs 0 l = refs) (r : Int) (k : Nat) (t : Int) : fitZ shp4 l r (k : Int) (valV refs l r k t) = true := by
  unfold fitZ valV
  cases hr : refZ shp4 l r (k : Int) with
  | false => simp
  | true =>
    simp only [if_true]
    by_cases h0 : 0 ≤ t
    · rw [if_pos h0]
      by_cases hl : refs.length = 0
      · have : refs = [] := List.eq_nil_of_length_eq_zero hl
        subst this; simp
      · have hlt : t.toNat % refs.length < refs.length := Nat.mod_lt _ (by omega)
        have hlt2 : t.toNat % refs.length < l.length := by rw [← hb, begs_len] at hlt; rw [← hb, begs_len]; exact hlt
        have := begs_at l 0 _ hlt2
        rw [hb, Nat.zero_add] at this
        rw [this]
        simp only [Option.getD_some]
        rw [objZ_nth (List.getElem?_eq_getElem hlt2)]
        simp
    · rw [if_neg h0]; simp
end Go.Proofs.Ytbdeflpjplhafaa.J

