/- Rows of cells in memory of one's own: a list lies there; Within. -/
import Derived.Test.YthagaldpopnoeaaGreatDoorCP
namespace Go.Proofs.YthagaldpopnoeaaGreatDoor
open Go.RowKit D

theorem flatR_get {α : Type} (row : α → List Value) (k : Nat) (hk : ∀ x, (row x).length = k) : ∀ (l : List α) (j : Nat) (x : α) (i : Nat), l[j]? = some x → i < k → (l.flatMap row)[j * k + i]? = (row x)[i]? := by
  intro l
  induction l with
  | nil => intro j x i h; simp at h
  | cons y l ih =>
    intro j x i h hi
    rw [List.flatMap_cons]
    cases j with
    | zero =>
      simp at h; subst h
      rw [Nat.zero_mul, Nat.zero_add, List.getElem?_append_left (by rw [hk]; exact hi)]
    | succ j =>
      simp at h
      rw [List.getElem?_append_right (by rw [hk, Nat.succ_mul]; omega), hk, show (j + 1) * k + i - k = j * k + i by rw [Nat.succ_mul]; omega]
      exact ih j x i h hi
theorem flatR_len {α : Type} (row : α → List Value) (k : Nat) (hk : ∀ x, (row x).length = k) (l : List α) : (l.flatMap row).length = l.length * k := by
  induction l with
  | nil => simp
  | cons y l ih => rw [List.flatMap_cons, List.length_append, hk, ih, List.length_cons, Nat.succ_mul]; omega

/-- A list lies in a block whose cells begin with its rows. -/
theorem LAt.of_block {α : Type} {k : Nat} {R : World → List Value → α → Prop} {row : α → List Value} (hk : ∀ x, (row x).length = k) {w : World} {g : Nat} {cur : Array Value} {T : TypeId} {cap : Nat} {l : List α}
    (hg : w.heap[g]? = some (.cells cur T (0, 0))) (ht : cur.toList.take (l.length * k) = l.flatMap row) (hc : l.length ≤ cap) (hm : cap ≤ maxLen) (hR : ∀ x ∈ l, R w (row x) x) : LAt k R w (some ⟨g, 0, none⟩) cap l := by
  refine ⟨hc, hm, fun j => match l[j]? with | some x => row x | none => [], fun _ => ⟨g, 0, rfl, (Array.getElem?_eq_some_iff.1 hg).1, fun j hj i v hv => ?_⟩, fun i x hx => ?_⟩
  · obtain ⟨x, hx⟩ : ∃ x, l[j]? = some x := ⟨l[j], List.getElem?_eq_getElem hj⟩
    simp only [hx] at hv
    have hi : i < k := by rw [← hk x]; exact (List.getElem?_eq_some_iff.1 hv).1
    have h1 := flatR_get row k hk l j x i hx hi
    rw [← ht, List.getElem?_take] at h1
    have hlt : j * k + i < l.length * k := by
      have : (j + 1) * k ≤ l.length * k := Nat.mul_le_mul_right k hj
      rw [Nat.succ_mul] at this; omega
    rw [if_pos hlt, hv] at h1
    rw [Nat.zero_add]
    exact cell_row hg (j * k + i) (by simpa using h1)
  · simp only [hx]
    exact hR x (List.mem_of_getElem? hx)
theorem LAt.of_own {α : Type} {k : Nat} {R : World → List Value → α → Prop} {row : α → List Value} (hk : ∀ x, (row x).length = k) {w : World} {B : Nat} {T : TypeId} {v : Value} {l : List α}
    (h : w.ownsRow B T k v l.length (l.flatMap row)) (hR : ∀ x ∈ l, R w (row x) x) : ∃ ao cap, v = .slice ao l.length cap ∧ LAt k R w ao cap l := by
  rcases h.2 with ⟨rfl, h0⟩ | ⟨g, cap, cur, rfl, hB, hg, hc, hm, hs, ht⟩
  · have hl : l = [] := List.length_eq_zero_iff.1 h0
    subst hl
    exact ⟨none, 0, rfl, LAt.nil _ _ _ _ _ (Nat.zero_le _)⟩
  · exact ⟨_, cap, rfl, LAt.of_block hk hg ht hc hm hR⟩
/-- One cell of the last row is set. -/
theorem take_set_last {α : Type} {k : Nat} {row : α → List Value} (hk : ∀ x, (row x).length = k) {cur : Array Value} {l : List α} {x y : α} {i : Nat} {u : Value} (ht : cur.toList.take ((l ++ [x]).length * k) = (l ++ [x]).flatMap row) (hy : row y = (row x).set i u) :
    (cur.setIfInBounds (l.length * k + i) u).toList.take ((l ++ [y]).length * k) = (l ++ [y]).flatMap row := by
  have hl : (l ++ [y]).length = (l ++ [x]).length := by simp
  rw [Array.toList_setIfInBounds, List.take_set, hl, ht, List.flatMap_append, List.flatMap_append]
  rw [List.set_append, if_neg (by rw [flatR_len row k hk]; omega), flatR_len row k hk, show l.length * k + i - l.length * k = i by omega]
  simp [hy]

def frow (f : FD) : List Value := [.string f.nm, .string f.ds, .bool f.st]
def mrow0 (m : MD) : List Value := [.string m.nm, .string m.ds, .bool m.st, .bool m.nat, .int .i64 m.stk, .int .i64 m.loc, .slice none 0 0, .slice none 0 0, .slice none 0 0]
theorem frow_len (f : FD) : (frow f).length = 3 := rfl
theorem mrow0_len (m : MD) : (mrow0 m).length = 9 := rfl
theorem frow_R {w : World} {f : FD} (h1 : f.nm.size ≤ 9223372036854775807) (h2 : f.ds.size ≤ 9223372036854775807) : FieldR w (frow f) f := ⟨rfl, h1, h2⟩
theorem mrow0_R {w : World} {m : MD} (h1 : m.nm.size ≤ 9223372036854775807) (h2 : m.ds.size ≤ 9223372036854775807) (hc : m.code = []) (hh : m.hs = []) (hr : m.rs = []) : MethR w (mrow0 m) m := by
  refine ⟨none, 0, none, 0, none, 0, ?_, h1, h2, ?_, ?_, ?_⟩
  · rw [hc, hh, hr]; rfl
  · rw [hc]; exact View.empty w
  · rw [hh]; exact LAt.nil _ _ _ _ _ (Nat.zero_le _)
  · rw [hr]; exact LAt.nil _ _ _ _ _ (Nat.zero_le _)

theorem tmod_pos (n m : Int) (h : 0 < m) : -m < n.tmod m ∧ n.tmod m < m := by
  have h1 := Int.tmod_lt_of_pos n h
  have h2 := Int.lt_tmod_of_pos n h
  omega
set_option maxRecDepth 8000 in
set_option maxHeartbeats 1000000 in
theorem within_any (n : Int) (hi : Nat) (hm : hi ≤ 1099511627776) (w : World) :
    Calls Tryz.prog 18 #[.int .i64 n, .int .i64 0, .int .i64 (hi : Int)] w fun e w' => (∃ k : Nat, k ≤ hi ∧ e = .returned (.int .i64 (k : Int))) ∧ w' = w := by
  have hf := tmod_pos n ((hi : Int) + 1) (by omega)
  obtain ⟨h1, h2⟩ := hf
  have e2 : ¬ (hi : Int) + 1 = 0 := by omega
  by_cases hc : n.tmod ((hi : Int) + 1) < 0
  · go_enter Tryz.func18, Tryz.ntmps18
    go_wp2
    go_ret
    refine ⟨⟨(n.tmod ((hi : Int) + 1) + hi + 1).toNat, by omega, ?_⟩, rfl⟩
    refine D.ret_int ?_
    omega
  · go_enter Tryz.func18, Tryz.ntmps18
    go_wp2
    go_ret
    refine ⟨⟨(n.tmod ((hi : Int) + 1)).toNat, by omega, ?_⟩, rfl⟩
    refine D.ret_int ?_
    omega
set_option maxRecDepth 8000 in
set_option maxHeartbeats 1000000 in
theorem few_any (n : Nat) (w : World) : Calls Tryz.prog 26 #[.int .i64 (n : Int)] w fun e w' => e = .returned (.int .i64 (if 16 < n then 4 else 0)) ∧ w' = w := by
  by_cases h : 16 < n
  · have h' : (16 : Int) < (n : Int) := by omega
    rw [if_pos h]
    go_enter Tryz.func26, Tryz.ntmps26
    go_wp2
    go_ret
    exact ⟨rfl, rfl⟩
  · have h' : ¬ (16 : Int) < (n : Int) := by omega
    rw [if_neg h]
    go_enter Tryz.func26, Tryz.ntmps26
    go_wp2
    go_ret
    exact ⟨rfl, rfl⟩
end Go.Proofs.YthagaldpopnoeaaGreatDoor
