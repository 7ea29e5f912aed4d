/- slices.Clone over rows of cells, at six types. -/
import Derived.Test.YtknppdpcgdncdaaKA
import Derived.Maps.AppendAt
namespace Go.Proofs.Ytknppdpcgdncdaa.K
open Go.RowKit Q Q.D

def flatR (rows : Nat → List Value) (n : Nat) : List Value := (List.range n).flatMap rows
theorem flatR_succ (rows : Nat → List Value) (n : Nat) : flatR rows (n + 1) = flatR rows n ++ rows n := by simp [flatR, List.range_succ]
theorem flatR_len {rows : Nat → List Value} {k : Nat} : ∀ {n : Nat}, (∀ j, j < n → (rows j).length = k) → (flatR rows n).length = n * k
  | 0, _ => by simp [flatR]
  | n + 1, h => by
    rw [flatR_succ, List.length_append, flatR_len (fun j hj => h j (by omega)), h n (by omega), Nat.add_mul, Nat.one_mul]
theorem flatR_at {rows : Nat → List Value} {k : Nat} : ∀ {n : Nat}, (∀ j, j < n → (rows j).length = k) → ∀ j, j < n → ∀ i, i < k → (flatR rows n)[j * k + i]? = (rows j)[i]?
  | 0, _, j, hj, _, _ => by omega
  | n + 1, h, j, hj, i, hi => by
    have hl := flatR_len (rows := rows) (k := k) (n := n) (fun j hj => h j (by omega))
    rw [flatR_succ]
    by_cases e : j = n
    · subst e
      rw [List.getElem?_append_right (by rw [hl]; omega), hl]
      congr 1; omega
    · have : j * k + i < n * k := by
        have h1 : (j + 1) * k ≤ n * k := Nat.mul_le_mul_right k (by omega)
        rw [Nat.add_mul] at h1; omega
      rw [List.getElem?_append_left (by rw [hl]; exact this)]
      exact flatR_at (fun j hj => h j (by omega)) j (by omega) i hi
theorem flatR_inv {rows : Nat → List Value} {k n : Nat} (h : ∀ j, j < n → (rows j).length = k) {x : Nat} {u : Value} (hx : (flatR rows n)[x]? = some u) : x / k < n ∧ (rows (x / k))[x % k]? = some u := by
  have hlt : x < n * k := by have := (List.getElem?_eq_some_iff.1 hx).1; rwa [flatR_len h] at this
  have hk : 0 < k := Nat.pos_of_ne_zero (fun e => by subst e; simp at hlt)
  have hq : x / k < n := (Nat.div_lt_iff_lt_mul hk).2 hlt
  refine ⟨hq, ?_⟩
  rw [← flatR_at h (x / k) hq (x % k) (Nat.mod_lt _ hk)]
  have : x / k * k + x % k = x := by rw [Nat.mul_comm]; exact Nat.div_add_mod x k
  rw [this]; exact hx
theorem flatR_mem {rows : Nat → List Value} {n : Nat} {p : Value → Prop} (h : ∀ j, j < n → ∀ u ∈ rows j, p u) : ∀ u ∈ flatR rows n, p u := by
  intro u hu
  simp only [flatR, List.mem_flatMap, List.mem_range] at hu
  obtain ⟨j, hj, hu⟩ := hu
  exact h j hj u hu
theorem RowsAt.flat {k n : Nat} {w : World} {a : Addr} {rows : Nat → List Value} (h : RowsAt k w (some a) n rows) (hk : ∀ j, j < n → (rows j).length = k) (x : Nat) (u : Value) (hx : (flatR rows n)[x]? = some u) : w.cell? (a.add x) = some u := by
  obtain ⟨hq, hr⟩ := flatR_inv hk hx
  obtain ⟨b, off, e, _, hc⟩ := h (Nat.lt_of_le_of_lt (Nat.zero_le _) hq)
  cases e
  rw [Addr.add_lit]
  have hk0 : 0 < k := by have := (List.getElem?_eq_some_iff.1 hr).1; rw [hk _ hq] at this; omega
  have := hc (x / k) hq (x % k) u hr
  rwa [show off + x / k * k + x % k = off + x by rw [Nat.add_assoc, Nat.mul_comm, Nat.div_add_mod]] at this
/-- Blocks from B on. -/
def newB (B : Nat) (b : Nat) : Bool := decide (B ≤ b)
/-- A list in a row of its own, as seen in blocks from B on. -/
theorem own_rows {B : Nat} {e : TypeId} {k : Nat} {w : World} {v : Value} {n : Nat} {rows : Nat → List Value} (h : w.ownsRow B e k v n (flatR rows n)) (hk : ∀ j, j < n → (rows j).length = k) :
    ∃ ao c, v = .slice ao n c ∧ n ≤ c ∧ c ≤ maxLen ∧ RowsAt k (seen (newB B) w) ao n rows := by
  rcases h.2 with ⟨rfl, rfl⟩ | ⟨g, cap, cur, rfl, hB, hg, h1, h2, _⟩
  · exact ⟨none, 0, rfl, Nat.le_refl _, by unfold maxLen; omega, fun hn => absurd hn (by omega)⟩
  · refine ⟨some ⟨g, 0, none⟩, cap, rfl, h1, h2, fun _ => ⟨g, 0, rfl, by rw [seen_size]; exact (Array.getElem?_eq_some_iff.1 hg).1, fun j hj i u hu => ?_⟩⟩
    have hi : i < k := by have := (List.getElem?_eq_some_iff.1 hu).1; rwa [hk j hj] at this
    have := h.cells (g := g) rfl (j * k + i) u (by rw [flatR_at hk j hj i hi]; exact hu)
    rw [Addr.add_lit] at this
    refine seen_cell.2 ⟨by simp [newB]; exact hB, ?_⟩
    rwa [show 0 + j * k + i = 0 + (j * k + i) by omega]

theorem nilS (w : World) (a : Option Addr) (l c : Nat) : (binOp .eql 49 (.slice a l c) (.slice none 0 0)).run Try.prog w = .ok (.bool a.isNone) w := by
  simp [binOp, run_equal_slice_nil w 49 9 a l c Try.underlying49]
theorem infoS : (Try.prog.info? 9).map (fun i => (i.zero, i.size, i.bytes)) = some (some (.string ⟨#[]⟩), 1, 16) := by kernel_rfl
set_option maxRecDepth 8000 in
set_option maxHeartbeats 1000000 in
theorem cloneS (w : World) (ao : Option Addr) (n c : Nat) (rows : Nat → List Value) (h : RowsAt 1 w ao n rows) (hk : ∀ j, j < n → (rows j).length = 1) (h1 : ∀ j, j < n → ∀ u ∈ rows j, u.oneCell' = true) (hlen : n ≤ 100000) :
    Calls Try.prog 38 #[.slice ao n c] w fun e w' => Below w.heap.size w w' ∧ ∃ v', e = .returned v' ∧ w'.ownsRow w.heap.size 9 1 v' n (flatR rows n) := by
  obtain ⟨i0, hi, hz0, hz1, hz2⟩ := info_parts infoS
  cases ao with
  | none =>
    obtain rfl : n = 0 := by
      rcases Nat.eq_zero_or_pos n with e | e
      · exact e
      · obtain ⟨_, _, e, _⟩ := h e; cases e
    have hq := nilS w none 0 c
    go_enter Try.func38, Try.ntmps38
    go_wp2
    go_ret
    exact ⟨Below.refl _ _, _, rfl, World.ownsRow_nil _ _ _ _⟩
  | some a =>
    have hq := nilS w (some a) n c
    have hown0 : (w.alloc (.cells #[] 9)).ownsRow w.heap.size 9 1 (.slice (some ⟨w.heap.size, 0, none⟩) 0 0) 0 [] := World.ownsRow_made w #[] 0 (Nat.le_refl _) (by unfold maxLen; omega) rfl
    have hcells : ∀ j u, (flatR rows n)[j]? = some u → (w.alloc (.cells #[] 9)).cell? (a.add j) = some u := fun j u hj => cell_later ((Below.refl _ w).alloc (Nat.le_refl _) _) (RowsAt.flat h hk j u hj)
    have hlen2 := flatR_len hk
    have hone := flatR_mem h1
    clear h hk h1
    generalize flatR rows n = fl at *
    go_enter Try.func38, Try.ntmps38
    go_wp2_with (at_builtin; refine wpList_append_own_at _ rfl _ _ 49 rfl w.heap.size 9 i0 (.string ⟨#[]⟩) 1 16 Try.underlying49 hi hz0 hz1 hz2 rfl (by decide) _ _ _ rfl hown0 _ _ _ fl rfl hlen2 hcells hone (by unfold maxLen; omega) (by omega) (by simp) ?_; intro v1 w1 ho1 hg1 _ hat1)
    go_wp2
    go_ret
    refine ⟨((Below.refl _ _).alloc (Nat.le_refl _) _).grown hg1 (by simp) (fun k h => (hown0.lt k h).1), _, rfl, ?_⟩
    simpa using ho1

theorem nilC (w : World) (a : Option Addr) (l c : Nat) : (binOp .eql 30 (.slice a l c) (.slice none 0 0)).run Try.prog w = .ok (.bool a.isNone) w := by
  simp [binOp, run_equal_slice_nil w 30 83 a l c Try.underlying30]
theorem infoC : (Try.prog.info? 83).map (fun i => (i.zero, i.size, i.bytes)) = some (some (.agg #[.int .i64 0, .int .i32 0, .string ⟨#[]⟩, .string ⟨#[]⟩, .string ⟨#[]⟩]), 5, 64) := by kernel_rfl
set_option maxRecDepth 8000 in
set_option maxHeartbeats 1000000 in
theorem cloneC (w : World) (ao : Option Addr) (n c : Nat) (rows : Nat → List Value) (h : RowsAt 5 w ao n rows) (hk : ∀ j, j < n → (rows j).length = 5) (h1 : ∀ j, j < n → ∀ u ∈ rows j, u.oneCell' = true) (hlen : n ≤ 100000) :
    Calls Try.prog 50 #[.slice ao n c] w fun e w' => Below w.heap.size w w' ∧ ∃ v', e = .returned v' ∧ w'.ownsRow w.heap.size 83 5 v' n (flatR rows n) := by
  obtain ⟨i0, hi, hz0, hz1, hz2⟩ := info_parts infoC
  cases ao with
  | none =>
    obtain rfl : n = 0 := by
      rcases Nat.eq_zero_or_pos n with e | e
      · exact e
      · obtain ⟨_, _, e, _⟩ := h e; cases e
    have hq := nilC w none 0 c
    go_enter Try.func50, Try.ntmps50
    go_wp2
    go_ret
    exact ⟨Below.refl _ _, _, rfl, World.ownsRow_nil _ _ _ _⟩
  | some a =>
    have hq := nilC w (some a) n c
    have hown0 : (w.alloc (.cells #[] 83)).ownsRow w.heap.size 83 5 (.slice (some ⟨w.heap.size, 0, none⟩) 0 0) 0 [] := World.ownsRow_made w #[] 0 (Nat.le_refl _) (by unfold maxLen; omega) rfl
    have hcells : ∀ j u, (flatR rows n)[j]? = some u → (w.alloc (.cells #[] 83)).cell? (a.add j) = some u := fun j u hj => cell_later ((Below.refl _ w).alloc (Nat.le_refl _) _) (RowsAt.flat h hk j u hj)
    have hlen2 := flatR_len hk
    have hone := flatR_mem h1
    clear h hk h1
    generalize flatR rows n = fl at *
    go_enter Try.func50, Try.ntmps50
    go_wp2_with (at_builtin; refine wpList_append_own_at _ rfl _ _ 30 rfl w.heap.size 83 i0 (.agg #[.int .i64 0, .int .i32 0, .string ⟨#[]⟩, .string ⟨#[]⟩, .string ⟨#[]⟩]) 5 64 Try.underlying30 hi hz0 hz1 hz2 rfl (by decide) _ _ _ rfl hown0 _ _ _ fl rfl hlen2 hcells hone (by unfold maxLen; omega) (by omega) (by simp) ?_; intro v1 w1 ho1 hg1 _ hat1)
    go_wp2
    go_ret
    refine ⟨((Below.refl _ _).alloc (Nat.le_refl _) _).grown hg1 (by simp) (fun k h => (hown0.lt k h).1), _, rfl, ?_⟩
    simpa using ho1

theorem nilF (w : World) (a : Option Addr) (l c : Nat) : (binOp .eql 31 (.slice a l c) (.slice none 0 0)).run Try.prog w = .ok (.bool a.isNone) w := by
  simp [binOp, run_equal_slice_nil w 31 36 a l c Try.underlying31]
theorem infoF : (Try.prog.info? 36).map (fun i => (i.zero, i.size, i.bytes)) = some (some (.agg #[.string ⟨#[]⟩, .string ⟨#[]⟩, .bool false]), 3, 40) := by kernel_rfl
set_option maxRecDepth 8000 in
set_option maxHeartbeats 1000000 in
theorem cloneF (w : World) (ao : Option Addr) (n c : Nat) (rows : Nat → List Value) (h : RowsAt 3 w ao n rows) (hk : ∀ j, j < n → (rows j).length = 3) (h1 : ∀ j, j < n → ∀ u ∈ rows j, u.oneCell' = true) (hlen : n ≤ 100000) :
    Calls Try.prog 51 #[.slice ao n c] w fun e w' => Below w.heap.size w w' ∧ ∃ v', e = .returned v' ∧ w'.ownsRow w.heap.size 36 3 v' n (flatR rows n) := by
  obtain ⟨i0, hi, hz0, hz1, hz2⟩ := info_parts infoF
  cases ao with
  | none =>
    obtain rfl : n = 0 := by
      rcases Nat.eq_zero_or_pos n with e | e
      · exact e
      · obtain ⟨_, _, e, _⟩ := h e; cases e
    have hq := nilF w none 0 c
    go_enter Try.func51, Try.ntmps51
    go_wp2
    go_ret
    exact ⟨Below.refl _ _, _, rfl, World.ownsRow_nil _ _ _ _⟩
  | some a =>
    have hq := nilF w (some a) n c
    have hown0 : (w.alloc (.cells #[] 36)).ownsRow w.heap.size 36 3 (.slice (some ⟨w.heap.size, 0, none⟩) 0 0) 0 [] := World.ownsRow_made w #[] 0 (Nat.le_refl _) (by unfold maxLen; omega) rfl
    have hcells : ∀ j u, (flatR rows n)[j]? = some u → (w.alloc (.cells #[] 36)).cell? (a.add j) = some u := fun j u hj => cell_later ((Below.refl _ w).alloc (Nat.le_refl _) _) (RowsAt.flat h hk j u hj)
    have hlen2 := flatR_len hk
    have hone := flatR_mem h1
    clear h hk h1
    generalize flatR rows n = fl at *
    go_enter Try.func51, Try.ntmps51
    go_wp2_with (at_builtin; refine wpList_append_own_at _ rfl _ _ 31 rfl w.heap.size 36 i0 (.agg #[.string ⟨#[]⟩, .string ⟨#[]⟩, .bool false]) 3 40 Try.underlying31 hi hz0 hz1 hz2 rfl (by decide) _ _ _ rfl hown0 _ _ _ fl rfl hlen2 hcells hone (by unfold maxLen; omega) (by omega) (by simp) ?_; intro v1 w1 ho1 hg1 _ hat1)
    go_wp2
    go_ret
    refine ⟨((Below.refl _ _).alloc (Nat.le_refl _) _).grown hg1 (by simp) (fun k h => (hown0.lt k h).1), _, rfl, ?_⟩
    simpa using ho1

theorem nilM (w : World) (a : Option Addr) (l c : Nat) : (binOp .eql 32 (.slice a l c) (.slice none 0 0)).run Try.prog w = .ok (.bool a.isNone) w := by
  simp [binOp, run_equal_slice_nil w 32 41 a l c Try.underlying32]
theorem infoM : (Try.prog.info? 41).map (fun i => (i.zero, i.size, i.bytes)) = some (some (.agg #[.string ⟨#[]⟩, .string ⟨#[]⟩, .bool false, .bool false, .int .i64 0, .int .i64 0, .slice none 0 0, .slice none 0 0, .slice none 0 0]), 9, 128) := by kernel_rfl
set_option maxRecDepth 8000 in
set_option maxHeartbeats 1000000 in
theorem cloneM (w : World) (ao : Option Addr) (n c : Nat) (rows : Nat → List Value) (h : RowsAt 9 w ao n rows) (hk : ∀ j, j < n → (rows j).length = 9) (h1 : ∀ j, j < n → ∀ u ∈ rows j, u.oneCell' = true) (hlen : n ≤ 100000) :
    Calls Try.prog 52 #[.slice ao n c] w fun e w' => Below w.heap.size w w' ∧ ∃ v', e = .returned v' ∧ w'.ownsRow w.heap.size 41 9 v' n (flatR rows n) := by
  obtain ⟨i0, hi, hz0, hz1, hz2⟩ := info_parts infoM
  cases ao with
  | none =>
    obtain rfl : n = 0 := by
      rcases Nat.eq_zero_or_pos n with e | e
      · exact e
      · obtain ⟨_, _, e, _⟩ := h e; cases e
    have hq := nilM w none 0 c
    go_enter Try.func52, Try.ntmps52
    go_wp2
    go_ret
    exact ⟨Below.refl _ _, _, rfl, World.ownsRow_nil _ _ _ _⟩
  | some a =>
    have hq := nilM w (some a) n c
    have hown0 : (w.alloc (.cells #[] 41)).ownsRow w.heap.size 41 9 (.slice (some ⟨w.heap.size, 0, none⟩) 0 0) 0 [] := World.ownsRow_made w #[] 0 (Nat.le_refl _) (by unfold maxLen; omega) rfl
    have hcells : ∀ j u, (flatR rows n)[j]? = some u → (w.alloc (.cells #[] 41)).cell? (a.add j) = some u := fun j u hj => cell_later ((Below.refl _ w).alloc (Nat.le_refl _) _) (RowsAt.flat h hk j u hj)
    have hlen2 := flatR_len hk
    have hone := flatR_mem h1
    clear h hk h1
    generalize flatR rows n = fl at *
    go_enter Try.func52, Try.ntmps52
    go_wp2_with (at_builtin; refine wpList_append_own_at _ rfl _ _ 32 rfl w.heap.size 41 i0 (.agg #[.string ⟨#[]⟩, .string ⟨#[]⟩, .bool false, .bool false, .int .i64 0, .int .i64 0, .slice none 0 0, .slice none 0 0, .slice none 0 0]) 9 128 Try.underlying32 hi hz0 hz1 hz2 rfl (by decide) _ _ _ rfl hown0 _ _ _ fl rfl hlen2 hcells hone (by unfold maxLen; omega) (by omega) (by simp) ?_; intro v1 w1 ho1 hg1 _ hat1)
    go_wp2
    go_ret
    refine ⟨((Below.refl _ _).alloc (Nat.le_refl _) _).grown hg1 (by simp) (fun k h => (hown0.lt k h).1), _, rfl, ?_⟩
    simpa using ho1

theorem nilH (w : World) (a : Option Addr) (l c : Nat) : (binOp .eql 38 (.slice a l c) (.slice none 0 0)).run Try.prog w = .ok (.bool a.isNone) w := by
  simp [binOp, run_equal_slice_nil w 38 92 a l c Try.underlying38]
theorem infoH : (Try.prog.info? 92).map (fun i => (i.zero, i.size, i.bytes)) = some (some (.agg #[.int .i64 0, .int .i64 0, .int .i64 0, .string ⟨#[]⟩]), 4, 40) := by kernel_rfl
set_option maxRecDepth 8000 in
set_option maxHeartbeats 1000000 in
theorem cloneH (w : World) (ao : Option Addr) (n c : Nat) (rows : Nat → List Value) (h : RowsAt 4 w ao n rows) (hk : ∀ j, j < n → (rows j).length = 4) (h1 : ∀ j, j < n → ∀ u ∈ rows j, u.oneCell' = true) (hlen : n ≤ 100000) :
    Calls Try.prog 58 #[.slice ao n c] w fun e w' => Below w.heap.size w w' ∧ ∃ v', e = .returned v' ∧ w'.ownsRow w.heap.size 92 4 v' n (flatR rows n) := by
  obtain ⟨i0, hi, hz0, hz1, hz2⟩ := info_parts infoH
  cases ao with
  | none =>
    obtain rfl : n = 0 := by
      rcases Nat.eq_zero_or_pos n with e | e
      · exact e
      · obtain ⟨_, _, e, _⟩ := h e; cases e
    have hq := nilH w none 0 c
    go_enter Try.func58, Try.ntmps58
    go_wp2
    go_ret
    exact ⟨Below.refl _ _, _, rfl, World.ownsRow_nil _ _ _ _⟩
  | some a =>
    have hq := nilH w (some a) n c
    have hown0 : (w.alloc (.cells #[] 92)).ownsRow w.heap.size 92 4 (.slice (some ⟨w.heap.size, 0, none⟩) 0 0) 0 [] := World.ownsRow_made w #[] 0 (Nat.le_refl _) (by unfold maxLen; omega) rfl
    have hcells : ∀ j u, (flatR rows n)[j]? = some u → (w.alloc (.cells #[] 92)).cell? (a.add j) = some u := fun j u hj => cell_later ((Below.refl _ w).alloc (Nat.le_refl _) _) (RowsAt.flat h hk j u hj)
    have hlen2 := flatR_len hk
    have hone := flatR_mem h1
    clear h hk h1
    generalize flatR rows n = fl at *
    go_enter Try.func58, Try.ntmps58
    go_wp2_with (at_builtin; refine wpList_append_own_at _ rfl _ _ 38 rfl w.heap.size 92 i0 (.agg #[.int .i64 0, .int .i64 0, .int .i64 0, .string ⟨#[]⟩]) 4 40 Try.underlying38 hi hz0 hz1 hz2 rfl (by decide) _ _ _ rfl hown0 _ _ _ fl rfl hlen2 hcells hone (by unfold maxLen; omega) (by omega) (by simp) ?_; intro v1 w1 ho1 hg1 _ hat1)
    go_wp2
    go_ret
    refine ⟨((Below.refl _ _).alloc (Nat.le_refl _) _).grown hg1 (by simp) (fun k h => (hown0.lt k h).1), _, rfl, ?_⟩
    simpa using ho1

theorem nilR (w : World) (a : Option Addr) (l c : Nat) : (binOp .eql 39 (.slice a l c) (.slice none 0 0)).run Try.prog w = .ok (.bool a.isNone) w := by
  simp [binOp, run_equal_slice_nil w 39 95 a l c Try.underlying39]
theorem infoR : (Try.prog.info? 95).map (fun i => (i.zero, i.size, i.bytes)) = some (some (.agg #[.int .i64 0, .slice none 0 0, .slice none 0 0]), 3, 56) := by kernel_rfl
set_option maxRecDepth 8000 in
set_option maxHeartbeats 1000000 in
theorem cloneR (w : World) (ao : Option Addr) (n c : Nat) (rows : Nat → List Value) (h : RowsAt 3 w ao n rows) (hk : ∀ j, j < n → (rows j).length = 3) (h1 : ∀ j, j < n → ∀ u ∈ rows j, u.oneCell' = true) (hlen : n ≤ 100000) :
    Calls Try.prog 59 #[.slice ao n c] w fun e w' => Below w.heap.size w w' ∧ ∃ v', e = .returned v' ∧ w'.ownsRow w.heap.size 95 3 v' n (flatR rows n) := by
  obtain ⟨i0, hi, hz0, hz1, hz2⟩ := info_parts infoR
  cases ao with
  | none =>
    obtain rfl : n = 0 := by
      rcases Nat.eq_zero_or_pos n with e | e
      · exact e
      · obtain ⟨_, _, e, _⟩ := h e; cases e
    have hq := nilR w none 0 c
    go_enter Try.func59, Try.ntmps59
    go_wp2
    go_ret
    exact ⟨Below.refl _ _, _, rfl, World.ownsRow_nil _ _ _ _⟩
  | some a =>
    have hq := nilR w (some a) n c
    have hown0 : (w.alloc (.cells #[] 95)).ownsRow w.heap.size 95 3 (.slice (some ⟨w.heap.size, 0, none⟩) 0 0) 0 [] := World.ownsRow_made w #[] 0 (Nat.le_refl _) (by unfold maxLen; omega) rfl
    have hcells : ∀ j u, (flatR rows n)[j]? = some u → (w.alloc (.cells #[] 95)).cell? (a.add j) = some u := fun j u hj => cell_later ((Below.refl _ w).alloc (Nat.le_refl _) _) (RowsAt.flat h hk j u hj)
    have hlen2 := flatR_len hk
    have hone := flatR_mem h1
    clear h hk h1
    generalize flatR rows n = fl at *
    go_enter Try.func59, Try.ntmps59
    go_wp2_with (at_builtin; refine wpList_append_own_at _ rfl _ _ 39 rfl w.heap.size 95 i0 (.agg #[.int .i64 0, .slice none 0 0, .slice none 0 0]) 3 56 Try.underlying39 hi hz0 hz1 hz2 rfl (by decide) _ _ _ rfl hown0 _ _ _ fl rfl hlen2 hcells hone (by unfold maxLen; omega) (by omega) (by simp) ?_; intro v1 w1 ho1 hg1 _ hat1)
    go_wp2
    go_ret
    refine ⟨((Below.refl _ _).alloc (Nat.le_refl _) _).grown hg1 (by simp) (fun k h => (hown0.lt k h).1), _, rfl, ?_⟩
    simpa using ho1
end Go.Proofs.Ytknppdpcgdncdaa.K
