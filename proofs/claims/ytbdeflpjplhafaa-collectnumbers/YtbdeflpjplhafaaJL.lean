/- HeapPlaces: walked. -/
import Derived.Test.YtbdeflpjplhafaaJK
namespace Go.Proofs.Ytbdeflpjplhafaa.J
open Go.RowKit Go.MapKept Go.ChangeMaps
set_option linter.unusedVariables false

theorem modN_snoc (g : Ob → Ob) : ∀ (l : List Ob) (o : Ob), modN g (l ++ [o]) (usedN l) = l ++ [g o]
  | [], o => by simp [modN, usedN]
  | x :: l, o => by
    simp only [List.cons_append, modN, usedN]
    rw [if_neg (by omega), if_neg (by omega), show x.f.length + 3 + usedN l - (x.f.length + 3) = usedN l by omega, modN_snoc g l o]
theorem objZ_snoc (l : List Ob) (o : Ob) : objZ (l ++ [o]) ((usedN l : Int) + 1) = some o := by
  have := objZ_nth (l := l ++ [o]) (k := l.length) (o := o) (by simp)
  rwa [List.take_left] at this
theorem setL_snoc (l : List Ob) (o : Ob) (n x : Int) : setL (l ++ [o]) ((usedN l : Int) + 1) n x = l ++ [setF n.toNat x o] := by
  unfold setL
  rw [show ((usedN l : Int) + 1 - 1).toNat = usedN l by omega]
  exact modN_snoc _ l o
/-- What the statement puts into its arrays. -/
def PlL (l : List Ob) : Prop := ∀ (k : Nat) o, l[k]? = some o → o.sh = -1 ∧ ∀ (j : Nat) x, o.f[j]? = some x → x = 1000 * ((k : Int) + 1) + (j : Int)
theorem PlL.snoc {l : List Ob} (h : PlL l) {f : List Int} (hf : ∀ (j : Nat) x, f[j]? = some x → x = 1000 * ((l.length : Int) + 1) + (j : Int)) : PlL (l ++ [⟨-1, 0, f⟩]) := by
  intro k o hk
  rw [List.getElem?_append] at hk
  split at hk
  · exact h k o hk
  · have hk0 : k - l.length = 0 := by
      have := (List.getElem?_eq_some_iff.1 hk).1
      simp at this; omega
    rw [hk0] at hk
    obtain rfl : (⟨-1, 0, f⟩ : Ob) = o := by simpa using hk
    obtain rfl : k = l.length := by omega
    exact ⟨rfl, hf⟩
theorem hp_set_snoc {n0 : Nat} {w : World} {p most : Nat} {l : List Ob} {f : List Int} {c : Int} {j : Nat} (hj : j < f.length) (h : Hp n0 w p most (l ++ [⟨-1, 0, f⟩]) []) (hf : ∀ (i : Nat) x, f[i]? = some x → i < j → x = c + (i : Int)) :
    Calls Try.prog 29 #[.pointer (some ⟨p, 0, none⟩), .int .i64 ((usedN l : Int) + 1), .int .i64 (j : Int), .int .i64 (c + (j : Int))] w fun e w' => e = .returned (.int .i64 0) ∧ (∃ f', f'.length = f.length ∧ Hp n0 w' p most (l ++ [⟨-1, 0, f'⟩]) [] ∧ ∀ (i : Nat) x, f'[i]? = some x → i < j + 1 → x = c + (i : Int)) ∧ HpS n0 w w' := by
  have ho := objZ_snoc l ⟨-1, 0, f⟩
  have hh : hasZ (l ++ [⟨-1, 0, f⟩]) ((usedN l : Int) + 1) (j : Int) = true := hasZ_of ho (by omega) (by simpa using hj)
  have hr : refZ [] (l ++ [⟨-1, 0, f⟩]) ((usedN l : Int) + 1) (j : Int) = false := by
    unfold refZ shpZ
    rw [ho, hh]
    rfl
  refine (hp_set h _ _ (c + (j : Int)) hh (by unfold fitZ; rw [hr]; rfl)).mono fun e w' ⟨e1, e2, e3⟩ => ⟨e1, ⟨f.set j (c + (j : Int)), by simp, ?_, ?_⟩, e3⟩
  · rw [setL_snoc] at e2
    simpa [setF] using e2
  · intro i x hx hi
    rw [List.getElem?_set] at hx
    split at hx
    · rename_i e
      subst e
      simpa using hx.symm
    · exact hf i x hx (by omega)
end Go.Proofs.Ytbdeflpjplhafaa.J

