/- has of the document's own heap: walked. -/
import Derived.Test.YtepegebkjegjiaaUK
namespace Go.Proofs.Ytepegebkjegjiaa.J
open Go.RowKit Go.MapKept Go.ChangeMaps
set_option linter.unusedVariables false

/-- Where a number stands first; -1 of none. -/
def hasI : List Int → Int → Int
  | [], _ => -1
  | x :: xs, n => if x = n then 0 else if hasI xs n < 0 then -1 else hasI xs n + 1
theorem hasI_some : ∀ {xs : List Int} {n : Int} {i : Nat}, xs[i]? = some n → (∀ j : Nat, j < i → xs[j]? ≠ some n) → hasI xs n = (i : Int)
  | [], n, i, h, _ => by simp at h
  | x :: xs, n, 0, h, _ => by
    unfold hasI
    rw [if_pos (by simpa using h)]
    rfl
  | x :: xs, n, i + 1, h, h2 => by
    unfold hasI
    have h3 := hasI_some (xs := xs) (n := n) (i := i) (by simpa using h) (fun j hj e => h2 (j + 1) (by omega) (by simpa using e))
    rw [if_neg (fun e => h2 0 (by omega) (by rw [e]; rfl)), h3, if_neg (by omega)]
    omega
theorem hasI_none : ∀ {xs : List Int} {n : Int}, (∀ j : Nat, xs[j]? ≠ some n) → hasI xs n = -1
  | [], n, _ => rfl
  | x :: xs, n, h => by
    unfold hasI
    rw [if_neg (fun e => h 0 (by rw [e]; rfl)), hasI_none (xs := xs) (n := n) (fun j e => h (j + 1) (by simpa using e))]
    rfl
theorem hasI_ge {xs : List Int} {n : Int} : 0 ≤ hasI xs n ↔ n ∈ xs := by
  constructor
  · intro h
    apply Classical.byContradiction
    intro hn
    rw [hasI_none (fun j e => hn (List.mem_of_getElem? e))] at h
    omega
  · intro h
    induction xs with
    | nil => simp at h
    | cons x xs ih =>
      unfold hasI
      split
      · omega
      · rename_i hx
        rcases List.mem_cons.1 h with e | e
        · exact absurd e.symm hx
        · have := ih e
          rw [if_neg (by omega)]
          omega
set_option maxRecDepth 8000 in
theorem uhas_any (v : Value) (xs : List Int) (n : Int) (w : World) (hv : NView w v xs) :
    Calls Try.prog 48 #[v, .int .i64 n] w fun e w' => e = .returned (.int .i64 (hasI xs n)) ∧ w' = w := by
  have HV := hidIt hv
  obtain ⟨ao, cap, rfl, hc, hm, _⟩ := hv
  unfold maxLen at hm
  have FS : Hid (∀ i : Nat, xs[i]? = some n → (∀ j : Nat, j < i → xs[j]? ≠ some n) → hasI xs n = (i : Int)) := hidIt (fun i => hasI_some)
  have FN : Hid ((∀ j : Nat, xs[j]? ≠ some n) → hasI xs n = -1) := hidIt hasI_none
  generalize hasI xs n = A at *
  go_enter Try.func48, Try.ntmps48
  go_wp2
  go_loopw [5] (fun i wr => ∃ k : Nat, i = .int .i64 (k : Int) ∧ k ≤ xs.length ∧ (∀ j : Nat, j < k → xs[j]? ≠ some n) ∧ wr = w) (fun i _ => xs.length - (intOf i).toNat)
  case atStart => exact ⟨0, rfl, Nat.zero_le _, fun j h => absurd h (by omega), rfl⟩
  case round =>
    obtain ⟨k, rfl, hk, hj, rfl⟩ := hrel
    have HJ := hidIt hj
    clear hj
    by_cases hlt : k < xs.length
    · have hlt' : (k : Int) < (xs.length : Int) := by omega
      obtain ⟨x, hx⟩ : ∃ x, xs[k]? = some x := ⟨xs[k], List.getElem?_eq_getElem hlt⟩
      obtain ⟨g, off, rfl, c0⟩ := HV.out.row hx
      by_cases e : x = n
      · have F := FS.out k (by rw [hx, e]) HJ.out
        have e' : (x == n) = true := by simpa using e
        clear hx e
        go_wp2
        go_ret
        exact ⟨by first | rfl | (rw [F]; rfl), by trivial⟩
      · have e' : (x == n) = false := by simpa using e
        have NX : Hid (∀ j : Nat, j < k + 1 → xs[j]? ≠ some n) := hidIt (fun j hj => by
          by_cases e2 : j = k
          · subst e2; rw [hx]; intro h; cases h; exact e rfl
          · exact HJ.out j (by omega))
        clear hx e
        go_wp2
        exact ⟨⟨k + 1, by go_num, by omega, NX.out, by trivial⟩, by simp [intOf]; omega⟩
    · have hlt' : ¬ (k : Int) < (xs.length : Int) := by omega
      have F := FN.out (fun j e => HJ.out j (by have := (List.getElem?_eq_some_iff.1 e).1; omega) e)
      go_wp2
      go_ret
      exact ⟨by first | rfl | (rw [F]; rfl), by trivial⟩
end Go.Proofs.Ytepegebkjegjiaa.J

