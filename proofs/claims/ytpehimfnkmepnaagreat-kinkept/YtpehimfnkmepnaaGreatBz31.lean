import Derived.Test.YtpehimfnkmepnaaGreatBz30
import Derived.Test.YtpehimfnkmepnaaGreatBz24
set_option maxRecDepth 8000
set_option maxHeartbeats 40000000
namespace Go.Proofs.YtpehimfnkmepnaaGreat.K
open Go.RowKit Q Q.D
def zAw (rows : Nat → List Value) (n : Nat) : List Value := (List.range n).flatMap rows
theorem zD1 (rows : Nat → List Value) (n : Nat) : zAw rows (n + 1) = zAw rows n ++ rows n := by simp [zAw, List.range_succ]
theorem zB4 {rows : Nat → List Value} {k : Nat} : ∀ {n : Nat}, (∀ j, j < n → (rows j).length = k) → (zAw rows n).length = n * k
 | 0, _ => by simp [zAw]
 | n + 1, h => by
   rw [zD1, List.length_append, zB4 (fun j hj => h j (by omega)), h n (by omega), Nat.add_mul, Nat.one_mul]
theorem zA7 {rows : Nat → List Value} {k : Nat} : ∀ {n : Nat}, (∀ j, j < n → (rows j).length = k) → ∀ j, j < n → ∀ i, i < k → (zAw rows n)[j * k + i]? = (rows j)[i]?
 | 0, _, j, hj, _, _ => by omega
 | n + 1, h, j, hj, i, hi => by
   have hl := zB4 (rows := rows) (k := k) (n := n) (fun j hj => h j (by omega))
   rw [zD1]
   by_cases e : j = n
   · subst e
     rw [List.getElem?_append_right (by rw [hl]; omega), hl]
     congr 1; omega
   · have : j * k + i < n * k := by
      have h1 : (j + 1) * k ≤ n * k := Nat.mul_le_mul_right k (by omega)
      rw [Nat.add_mul] at h1; omega
     rw [List.getElem?_append_left (by rw [hl]; exact this)]
     exact zA7 (fun j hj => h j (by omega)) j (by omega) i hi
theorem zNn {rows : Nat → List Value} {k n : Nat} (h : ∀ j, j < n → (rows j).length = k) {x : Nat} {u : Value} (hx : (zAw rows n)[x]? = some u) : x / k < n ∧ (rows (x / k))[x % k]? = some u := by
 have hlt : x < n * k := by have := (List.getElem?_eq_some_iff.1 hx).1; rwa [zB4 h] at this
 have hk : 0 < k := Nat.pos_of_ne_zero (fun e => by subst e; simp at hlt)
 have hq : x / k < n := (Nat.div_lt_iff_lt_mul hk).2 hlt
 refine ⟨hq, ?_⟩
 rw [← zA7 h (x / k) hq (x % k) (Nat.mod_lt _ hk)]
 have : x / k * k + x % k = x := by rw [Nat.mul_comm]; exact Nat.div_add_mod x k
 rw [this]; exact hx
theorem zD3 {rows : Nat → List Value} {n : Nat} {p : Value → Prop} (h : ∀ j, j < n → ∀ u ∈ rows j, p u) : ∀ u ∈ zAw rows n, p u := by
 intro u hu
 simp only [zAw, List.mem_flatMap, List.mem_range] at hu
 obtain ⟨j, hj, hu⟩ := hu
 exact h j hj u hu
theorem zAk.flat {k n : Nat} {w : World} {a : Addr} {rows : Nat → List Value} (h : zAk k w (some a) n rows) (hk : ∀ j, j < n → (rows j).length = k) (x : Nat) (u : Value) (hx : (zAw rows n)[x]? = some u) : w.cell? (a.add x) = some u := by
 obtain ⟨hq, hr⟩ := zNn hk hx
 obtain ⟨b, off, e, _, hc⟩ := h (Nat.lt_of_le_of_lt (Nat.zero_le _) hq)
 cases e
 rw [Addr.add_lit]
 have hk0 : 0 < k := by have := (List.getElem?_eq_some_iff.1 hr).1; rw [hk _ hq] at this; omega
 have := hc (x / k) hq (x % k) u hr
 rwa [show off + x / k * k + x % k = off + x by rw [Nat.add_assoc, Nat.mul_comm, Nat.div_add_mod]] at this
def newB (B : Nat) (b : Nat) : Bool := decide (B ≤ b)
theorem zB6 {B : Nat} {e : TypeId} {k : Nat} {w : World} {v : Value} {n : Nat} {rows : Nat → List Value} (h : w.ownsRow B e k v n (zAw rows n)) (hk : ∀ j, j < n → (rows j).length = k) :
 ∃ ao c, v = .slice ao n c ∧ n ≤ c ∧ c ≤ maxLen ∧ zAk k (seen (newB B) w) ao n rows := by
 rcases h.2 with ⟨rfl, rfl⟩ | ⟨g, cap, cur, rfl, hB, hg, h1, h2, _⟩
 · exact ⟨none, 0, rfl, Nat.le_refl _, by unfold maxLen; omega, fun hn => absurd hn (by omega)⟩
 · refine ⟨some ⟨g, 0, none⟩, cap, rfl, h1, h2, fun _ => ⟨g, 0, rfl, by rw [zDq]; exact (Array.getElem?_eq_some_iff.1 hg).1, fun j hj i u hu => ?_⟩⟩
   have hi : i < k := by have := (List.getElem?_eq_some_iff.1 hu).1; rwa [hk j hj] at this
   have := h.cells (g := g) rfl (j * k + i) u (by rw [zA7 hk j hj i hi]; exact hu)
   rw [Addr.add_lit] at this
   refine zBe.2 ⟨by simp [newB]; exact hB, ?_, zGx hg⟩
   rwa [show 0 + j * k + i = 0 + (j * k + i) by omega]
theorem nilS (w : World) (a : Option Addr) (l c : Nat) : (binOp .eql 47 (.slice a l c) (.slice none 0 0)).run Tryz.prog w = .ok (.bool a.isNone) w := by
 simp [binOp, run_equal_slice_nil w 47 9 a l c Tryz.underlying47]
theorem zSd : (Tryz.prog.info? 9).map (fun i => (i.zero, i.size, i.bytes)) = some (some (.string ⟨#[]⟩), 1, 16) := by kernel_rfl
theorem zM7 (w : World) (ao : Option Addr) (n c : Nat) (rows : Nat → List Value) (h : zAk 1 w ao n rows) (hk : ∀ j, j < n → (rows j).length = 1) (h1 : ∀ j, j < n → ∀ u ∈ rows j, u.oneCell' = true) (hlen : n ≤ 100000) :
 Calls Tryz.prog 62 #[.slice ao n c] w fun e w' => Below w.heap.size w w' ∧ ∃ v', e = .returned v' ∧ w'.ownsRow w.heap.size 9 1 v' n (zAw rows n) := by
 obtain ⟨i0, hi, hz0, hz1, hz2⟩ := info_parts zSd
 cases ao with
 | none =>
   obtain rfl : n = 0 := by
    rcases Nat.eq_zero_or_pos n with e | e
    · exact e
    · obtain ⟨_, _, e, _⟩ := h e; cases e
   have hq := nilS w none 0 c
   go_enter Tryz.func62, Tryz.ntmps62
   go_wp2
   go_ret
   exact ⟨Below.refl _ _, _, rfl, World.ownsRow_nil _ _ _ _⟩
 | some a =>
   have hq := nilS w (some a) n c
   have hown0 : (w.alloc (.cells #[] 9)).ownsRow w.heap.size 9 1 (.slice (some ⟨w.heap.size, 0, none⟩) 0 0) 0 [] := World.ownsRow_made w #[] 0 (Nat.le_refl _) (by unfold maxLen; omega) rfl
   have zBs : ∀ j u, (zAw rows n)[j]? = some u → (w.alloc (.cells #[] 9)).cell? (a.add j) = some u := fun j u hj => cell_later ((Below.refl _ w).alloc (Nat.le_refl _) _) (zAk.flat h hk j u hj)
   have hlen2 := zB4 hk
   have hone := zD3 h1
   clear h hk h1
   generalize zAw rows n = fl at *
   go_enter Tryz.func62, Tryz.ntmps62
   go_wp2_with (at_builtin; refine wpList_append_own_at _ rfl _ _ 47 rfl w.heap.size 9 i0 (.string ⟨#[]⟩) 1 16 Tryz.underlying47 hi hz0 hz1 hz2 rfl (by decide) _ _ _ rfl hown0 _ _ _ fl rfl hlen2 zBs hone (by unfold maxLen; omega) (by omega) (by simp) ?_; intro v1 w1 ho1 hg1 _ hat1)
   go_wp2
   go_ret
   refine ⟨((Below.refl _ _).alloc (Nat.le_refl _) _).grown hg1 (by simp) (fun k h => (hown0.lt k h).1), _, rfl, ?_⟩
   simpa using ho1
theorem nilC (w : World) (a : Option Addr) (l c : Nat) : (binOp .eql 27 (.slice a l c) (.slice none 0 0)).run Tryz.prog w = .ok (.bool a.isNone) w := by
 simp [binOp, run_equal_slice_nil w 27 112 a l c Tryz.underlying27]
theorem infoC : (Tryz.prog.info? 112).map (fun i => (i.zero, i.size, i.bytes)) = some (some (.agg #[.int .i64 0, .int .i32 0, .string ⟨#[]⟩, .string ⟨#[]⟩, .string ⟨#[]⟩]), 5, 64) := by kernel_rfl
theorem cloneC (w : World) (ao : Option Addr) (n c : Nat) (rows : Nat → List Value) (h : zAk 5 w ao n rows) (hk : ∀ j, j < n → (rows j).length = 5) (h1 : ∀ j, j < n → ∀ u ∈ rows j, u.oneCell' = true) (hlen : n ≤ 100000) :
 Calls Tryz.prog 107 #[.slice ao n c] w fun e w' => Below w.heap.size w w' ∧ ∃ v', e = .returned v' ∧ w'.ownsRow w.heap.size 112 5 v' n (zAw rows n) := by
 obtain ⟨i0, hi, hz0, hz1, hz2⟩ := info_parts infoC
 cases ao with
 | none =>
   obtain rfl : n = 0 := by
    rcases Nat.eq_zero_or_pos n with e | e
    · exact e
    · obtain ⟨_, _, e, _⟩ := h e; cases e
   have hq := nilC w none 0 c
   go_enter Tryz.func107, Tryz.ntmps107
   go_wp2
   go_ret
   exact ⟨Below.refl _ _, _, rfl, World.ownsRow_nil _ _ _ _⟩
 | some a =>
   have hq := nilC w (some a) n c
   have hown0 : (w.alloc (.cells #[] 112)).ownsRow w.heap.size 112 5 (.slice (some ⟨w.heap.size, 0, none⟩) 0 0) 0 [] := World.ownsRow_made w #[] 0 (Nat.le_refl _) (by unfold maxLen; omega) rfl
   have zBs : ∀ j u, (zAw rows n)[j]? = some u → (w.alloc (.cells #[] 112)).cell? (a.add j) = some u := fun j u hj => cell_later ((Below.refl _ w).alloc (Nat.le_refl _) _) (zAk.flat h hk j u hj)
   have hlen2 := zB4 hk
   have hone := zD3 h1
   clear h hk h1
   generalize zAw rows n = fl at *
   go_enter Tryz.func107, Tryz.ntmps107
   go_wp2_with (at_builtin; refine wpList_append_own_at _ rfl _ _ 27 rfl w.heap.size 112 i0 (.agg #[.int .i64 0, .int .i32 0, .string ⟨#[]⟩, .string ⟨#[]⟩, .string ⟨#[]⟩]) 5 64 Tryz.underlying27 hi hz0 hz1 hz2 rfl (by decide) _ _ _ rfl hown0 _ _ _ fl rfl hlen2 zBs hone (by unfold maxLen; omega) (by omega) (by simp) ?_; intro v1 w1 ho1 hg1 _ hat1)
   go_wp2
   go_ret
   refine ⟨((Below.refl _ _).alloc (Nat.le_refl _) _).grown hg1 (by simp) (fun k h => (hown0.lt k h).1), _, rfl, ?_⟩
   simpa using ho1
theorem nilF (w : World) (a : Option Addr) (l c : Nat) : (binOp .eql 28 (.slice a l c) (.slice none 0 0)).run Tryz.prog w = .ok (.bool a.isNone) w := by
 simp [binOp, run_equal_slice_nil w 28 44 a l c Tryz.underlying28]
theorem infoF : (Tryz.prog.info? 44).map (fun i => (i.zero, i.size, i.bytes)) = some (some (.agg #[.string ⟨#[]⟩, .string ⟨#[]⟩, .bool false]), 3, 40) := by kernel_rfl
theorem cloneF (w : World) (ao : Option Addr) (n c : Nat) (rows : Nat → List Value) (h : zAk 3 w ao n rows) (hk : ∀ j, j < n → (rows j).length = 3) (h1 : ∀ j, j < n → ∀ u ∈ rows j, u.oneCell' = true) (hlen : n ≤ 100000) :
 Calls Tryz.prog 108 #[.slice ao n c] w fun e w' => Below w.heap.size w w' ∧ ∃ v', e = .returned v' ∧ w'.ownsRow w.heap.size 44 3 v' n (zAw rows n) := by
 obtain ⟨i0, hi, hz0, hz1, hz2⟩ := info_parts infoF
 cases ao with
 | none =>
   obtain rfl : n = 0 := by
    rcases Nat.eq_zero_or_pos n with e | e
    · exact e
    · obtain ⟨_, _, e, _⟩ := h e; cases e
   have hq := nilF w none 0 c
   go_enter Tryz.func108, Tryz.ntmps108
   go_wp2
   go_ret
   exact ⟨Below.refl _ _, _, rfl, World.ownsRow_nil _ _ _ _⟩
 | some a =>
   have hq := nilF w (some a) n c
   have hown0 : (w.alloc (.cells #[] 44)).ownsRow w.heap.size 44 3 (.slice (some ⟨w.heap.size, 0, none⟩) 0 0) 0 [] := World.ownsRow_made w #[] 0 (Nat.le_refl _) (by unfold maxLen; omega) rfl
   have zBs : ∀ j u, (zAw rows n)[j]? = some u → (w.alloc (.cells #[] 44)).cell? (a.add j) = some u := fun j u hj => cell_later ((Below.refl _ w).alloc (Nat.le_refl _) _) (zAk.flat h hk j u hj)
   have hlen2 := zB4 hk
   have hone := zD3 h1
   clear h hk h1
   generalize zAw rows n = fl at *
   go_enter Tryz.func108, Tryz.ntmps108
   go_wp2_with (at_builtin; refine wpList_append_own_at _ rfl _ _ 28 rfl w.heap.size 44 i0 (.agg #[.string ⟨#[]⟩, .string ⟨#[]⟩, .bool false]) 3 40 Tryz.underlying28 hi hz0 hz1 hz2 rfl (by decide) _ _ _ rfl hown0 _ _ _ fl rfl hlen2 zBs hone (by unfold maxLen; omega) (by omega) (by simp) ?_; intro v1 w1 ho1 hg1 _ hat1)
   go_wp2
   go_ret
   refine ⟨((Below.refl _ _).alloc (Nat.le_refl _) _).grown hg1 (by simp) (fun k h => (hown0.lt k h).1), _, rfl, ?_⟩
   simpa using ho1
theorem nilM (w : World) (a : Option Addr) (l c : Nat) : (binOp .eql 29 (.slice a l c) (.slice none 0 0)).run Tryz.prog w = .ok (.bool a.isNone) w := by
 simp [binOp, run_equal_slice_nil w 29 39 a l c Tryz.underlying29]
theorem infoM : (Tryz.prog.info? 39).map (fun i => (i.zero, i.size, i.bytes)) = some (some (.agg #[.string ⟨#[]⟩, .string ⟨#[]⟩, .bool false, .bool false, .int .i64 0, .int .i64 0, .slice none 0 0, .slice none 0 0, .slice none 0 0]), 9, 128) := by kernel_rfl
theorem cloneM (w : World) (ao : Option Addr) (n c : Nat) (rows : Nat → List Value) (h : zAk 9 w ao n rows) (hk : ∀ j, j < n → (rows j).length = 9) (h1 : ∀ j, j < n → ∀ u ∈ rows j, u.oneCell' = true) (hlen : n ≤ 100000) :
 Calls Tryz.prog 109 #[.slice ao n c] w fun e w' => Below w.heap.size w w' ∧ ∃ v', e = .returned v' ∧ w'.ownsRow w.heap.size 39 9 v' n (zAw rows n) := by
 obtain ⟨i0, hi, hz0, hz1, hz2⟩ := info_parts infoM
 cases ao with
 | none =>
   obtain rfl : n = 0 := by
    rcases Nat.eq_zero_or_pos n with e | e
    · exact e
    · obtain ⟨_, _, e, _⟩ := h e; cases e
   have hq := nilM w none 0 c
   go_enter Tryz.func109, Tryz.ntmps109
   go_wp2
   go_ret
   exact ⟨Below.refl _ _, _, rfl, World.ownsRow_nil _ _ _ _⟩
 | some a =>
   have hq := nilM w (some a) n c
   have hown0 : (w.alloc (.cells #[] 39)).ownsRow w.heap.size 39 9 (.slice (some ⟨w.heap.size, 0, none⟩) 0 0) 0 [] := World.ownsRow_made w #[] 0 (Nat.le_refl _) (by unfold maxLen; omega) rfl
   have zBs : ∀ j u, (zAw rows n)[j]? = some u → (w.alloc (.cells #[] 39)).cell? (a.add j) = some u := fun j u hj => cell_later ((Below.refl _ w).alloc (Nat.le_refl _) _) (zAk.flat h hk j u hj)
   have hlen2 := zB4 hk
   have hone := zD3 h1
   clear h hk h1
   generalize zAw rows n = fl at *
   go_enter Tryz.func109, Tryz.ntmps109
   go_wp2_with (at_builtin; refine wpList_append_own_at _ rfl _ _ 29 rfl w.heap.size 39 i0 (.agg #[.string ⟨#[]⟩, .string ⟨#[]⟩, .bool false, .bool false, .int .i64 0, .int .i64 0, .slice none 0 0, .slice none 0 0, .slice none 0 0]) 9 128 Tryz.underlying29 hi hz0 hz1 hz2 rfl (by decide) _ _ _ rfl hown0 _ _ _ fl rfl hlen2 zBs hone (by unfold maxLen; omega) (by omega) (by simp) ?_; intro v1 w1 ho1 hg1 _ hat1)
   go_wp2
   go_ret
   refine ⟨((Below.refl _ _).alloc (Nat.le_refl _) _).grown hg1 (by simp) (fun k h => (hown0.lt k h).1), _, rfl, ?_⟩
   simpa using ho1
theorem nilH (w : World) (a : Option Addr) (l c : Nat) : (binOp .eql 36 (.slice a l c) (.slice none 0 0)).run Tryz.prog w = .ok (.bool a.isNone) w := by
 simp [binOp, run_equal_slice_nil w 36 154 a l c Tryz.underlying36]
theorem infoH : (Tryz.prog.info? 154).map (fun i => (i.zero, i.size, i.bytes)) = some (some (.agg #[.int .i64 0, .int .i64 0, .int .i64 0, .string ⟨#[]⟩]), 4, 40) := by kernel_rfl
theorem cloneH (w : World) (ao : Option Addr) (n c : Nat) (rows : Nat → List Value) (h : zAk 4 w ao n rows) (hk : ∀ j, j < n → (rows j).length = 4) (h1 : ∀ j, j < n → ∀ u ∈ rows j, u.oneCell' = true) (hlen : n ≤ 100000) :
 Calls Tryz.prog 114 #[.slice ao n c] w fun e w' => Below w.heap.size w w' ∧ ∃ v', e = .returned v' ∧ w'.ownsRow w.heap.size 154 4 v' n (zAw rows n) := by
 obtain ⟨i0, hi, hz0, hz1, hz2⟩ := info_parts infoH
 cases ao with
 | none =>
   obtain rfl : n = 0 := by
    rcases Nat.eq_zero_or_pos n with e | e
    · exact e
    · obtain ⟨_, _, e, _⟩ := h e; cases e
   have hq := nilH w none 0 c
   go_enter Tryz.func114, Tryz.ntmps114
   go_wp2
   go_ret
   exact ⟨Below.refl _ _, _, rfl, World.ownsRow_nil _ _ _ _⟩
 | some a =>
   have hq := nilH w (some a) n c
   have hown0 : (w.alloc (.cells #[] 154)).ownsRow w.heap.size 154 4 (.slice (some ⟨w.heap.size, 0, none⟩) 0 0) 0 [] := World.ownsRow_made w #[] 0 (Nat.le_refl _) (by unfold maxLen; omega) rfl
   have zBs : ∀ j u, (zAw rows n)[j]? = some u → (w.alloc (.cells #[] 154)).cell? (a.add j) = some u := fun j u hj => cell_later ((Below.refl _ w).alloc (Nat.le_refl _) _) (zAk.flat h hk j u hj)
   have hlen2 := zB4 hk
   have hone := zD3 h1
   clear h hk h1
   generalize zAw rows n = fl at *
   go_enter Tryz.func114, Tryz.ntmps114
   go_wp2_with (at_builtin; refine wpList_append_own_at _ rfl _ _ 36 rfl w.heap.size 154 i0 (.agg #[.int .i64 0, .int .i64 0, .int .i64 0, .string ⟨#[]⟩]) 4 40 Tryz.underlying36 hi hz0 hz1 hz2 rfl (by decide) _ _ _ rfl hown0 _ _ _ fl rfl hlen2 zBs hone (by unfold maxLen; omega) (by omega) (by simp) ?_; intro v1 w1 ho1 hg1 _ hat1)
   go_wp2
   go_ret
   refine ⟨((Below.refl _ _).alloc (Nat.le_refl _) _).grown hg1 (by simp) (fun k h => (hown0.lt k h).1), _, rfl, ?_⟩
   simpa using ho1
theorem nilR (w : World) (a : Option Addr) (l c : Nat) : (binOp .eql 37 (.slice a l c) (.slice none 0 0)).run Tryz.prog w = .ok (.bool a.isNone) w := by
 simp [binOp, run_equal_slice_nil w 37 67 a l c Tryz.underlying37]
theorem infoR : (Tryz.prog.info? 67).map (fun i => (i.zero, i.size, i.bytes)) = some (some (.agg #[.int .i64 0, .slice none 0 0, .slice none 0 0]), 3, 56) := by kernel_rfl
theorem cloneR (w : World) (ao : Option Addr) (n c : Nat) (rows : Nat → List Value) (h : zAk 3 w ao n rows) (hk : ∀ j, j < n → (rows j).length = 3) (h1 : ∀ j, j < n → ∀ u ∈ rows j, u.oneCell' = true) (hlen : n ≤ 100000) :
 Calls Tryz.prog 115 #[.slice ao n c] w fun e w' => Below w.heap.size w w' ∧ ∃ v', e = .returned v' ∧ w'.ownsRow w.heap.size 67 3 v' n (zAw rows n) := by
 obtain ⟨i0, hi, hz0, hz1, hz2⟩ := info_parts infoR
 cases ao with
 | none =>
   obtain rfl : n = 0 := by
    rcases Nat.eq_zero_or_pos n with e | e
    · exact e
    · obtain ⟨_, _, e, _⟩ := h e; cases e
   have hq := nilR w none 0 c
   go_enter Tryz.func115, Tryz.ntmps115
   go_wp2
   go_ret
   exact ⟨Below.refl _ _, _, rfl, World.ownsRow_nil _ _ _ _⟩
 | some a =>
   have hq := nilR w (some a) n c
   have hown0 : (w.alloc (.cells #[] 67)).ownsRow w.heap.size 67 3 (.slice (some ⟨w.heap.size, 0, none⟩) 0 0) 0 [] := World.ownsRow_made w #[] 0 (Nat.le_refl _) (by unfold maxLen; omega) rfl
   have zBs : ∀ j u, (zAw rows n)[j]? = some u → (w.alloc (.cells #[] 67)).cell? (a.add j) = some u := fun j u hj => cell_later ((Below.refl _ w).alloc (Nat.le_refl _) _) (zAk.flat h hk j u hj)
   have hlen2 := zB4 hk
   have hone := zD3 h1
   clear h hk h1
   generalize zAw rows n = fl at *
   go_enter Tryz.func115, Tryz.ntmps115
   go_wp2_with (at_builtin; refine wpList_append_own_at _ rfl _ _ 37 rfl w.heap.size 67 i0 (.agg #[.int .i64 0, .slice none 0 0, .slice none 0 0]) 3 56 Tryz.underlying37 hi hz0 hz1 hz2 rfl (by decide) _ _ _ rfl hown0 _ _ _ fl rfl hlen2 zBs hone (by unfold maxLen; omega) (by omega) (by simp) ?_; intro v1 w1 ho1 hg1 _ hat1)
   go_wp2
   go_ret
   refine ⟨((Below.refl _ _).alloc (Nat.le_refl _) _).grown hg1 (by simp) (fun k h => (hown0.lt k h).1), _, rfl, ?_⟩
   simpa using ho1
end Go.Proofs.YtpehimfnkmepnaaGreat.K
namespace Go.Proofs.YtpehimfnkmepnaaGreat.M
open Go.RowKit
def qc (c : CD) : Q.CD := ⟨c.kind, c.n, c.cls, c.nm, c.dsc⟩
theorem qc_ok {c : CD} (h : P3.CD.Ok c) : (qc c).Ok := ⟨⟨h.c3, h.c4, h.c5⟩, h.nlo, h.nhi⟩
theorem zJe {α : Type} (f : α → List Value) (k : Nat) : ∀ (l : List α) (_ : ∀ x ∈ l, (f x).length = k) (j : Nat) (x : α) (i : Nat), l[j]? = some x → i < k → (l.flatMap f)[j * k + i]? = (f x)[i]?
 | [], _, _, _, _, h, _ => by simp at h
 | y :: l, hk, 0, x, i, h, hi => by simp at h; subst h; rw [List.flatMap_cons, Nat.zero_mul, Nat.zero_add, List.getElem?_append_left (by rw [hk y (by simp)]; exact hi)]
 | y :: l, hk, j + 1, x, i, h, hi => by
   have := zJe f k l (fun z hz => hk z (by simp [hz])) j x i (by simpa using h) hi
   have e : (j + 1) * k = j * k + k := Nat.succ_mul j k
   have hy := hk y (by simp)
   rw [List.flatMap_cons, List.getElem?_append_right (by rw [hy]; omega), show (j + 1) * k + i - (f y).length = j * k + i by rw [hy]; omega]
   exact this
theorem zFq {w : World} {B T k n g cap : Nat} {xs : List Value} (h : w.ownsRow B T k (.slice (some ⟨g, 0, none⟩) n cap) n xs) {j : Nat} {u : Value} (hj : xs[j]? = some u) : w.cell? ⟨g, j, none⟩ = some u := by
 have := h.cells (g := g) rfl j u hj
 have e : (⟨g, 0, none⟩ : Addr).add j = ⟨g, j, none⟩ := by unfold Addr.add; split <;> simp_all
 rw [e] at this
 exact this
theorem zJ6 {α β : Type} {w : World} {B T k : Nat} {v : Value} (f : α → List Value) (l : List α) (hk : ∀ x ∈ l, (f x).length = k) (m : List β) (R : World → List Value → β → Prop) (h : w.ownsRow B T k v l.length (l.flatMap f)) (hml : m.length = l.length) (hR : ∀ (j : Nat) x y, l[j]? = some x → m[j]? = some y → R w (f x) y) :
 ∃ ao c, v = .slice ao m.length c ∧ Q.LAt k R w ao c m := by
 have hrow : ∀ i y, m[i]? = some y → R w ((l[i]?).elim [] f) y := fun i y hy => by
  have hi := (List.getElem?_eq_some_iff.1 hy).1
  obtain ⟨x, hx⟩ : ∃ x, l[i]? = some x := ⟨_, List.getElem?_eq_getElem (by omega)⟩
  rw [hx]
  exact hR i x y hx hy
 rcases h.2 with ⟨rfl, h0⟩ | ⟨g, cap, cur, rfl, hB, hg, h1, h2, _⟩
 · refine ⟨none, 0, by rw [hml, h0], by rw [hml, h0]; exact Nat.le_refl _, by unfold maxLen; omega, fun i => (l[i]?).elim [] f, fun hn => absurd hn (by omega), hrow⟩
 · refine ⟨_, cap, by rw [hml], by rw [hml]; exact h1, h2, fun i => (l[i]?).elim [] f, fun hn => ⟨g, 0, rfl, (Array.getElem?_eq_some_iff.1 hg).1, fun j hj i u hu => ?_⟩, hrow⟩
   obtain ⟨x, hx⟩ : ∃ x, l[j]? = some x := ⟨_, List.getElem?_eq_getElem (by omega)⟩
   have hu' : (f x)[i]? = some u := by simpa [hx] using hu
   have hi : i < k := by have := (List.getElem?_eq_some_iff.1 hu').1; rwa [hk x (List.mem_of_getElem? hx)] at this
   rw [show 0 + j * k + i = j * k + i by omega]
   exact zFq h (by rw [zJe f k l hk j x i hx hi]; exact hu')
theorem zJx {w : World} {g T : Nat} (l : List ByteArray) (h : w.heap[g]? = some (.cells (l.map Value.string).toArray T (0, 0))) (hs : ∀ s ∈ l, s.size ≤ 1000) (hl : l.length ≤ 1000) : Q.LAt 1 Q.zDm w (some ⟨g, 0, none⟩) l.length l := by
 refine ⟨Nat.le_refl _, by unfold maxLen; omega, fun i => [.string (l.getD i ⟨#[]⟩)], fun _ => ⟨g, 0, rfl, (Array.getElem?_eq_some_iff.1 h).1, fun j hj i u hu => ?_⟩, fun i x hx => ⟨by simp [hx], by have := hs x (List.mem_of_getElem? hx); omega⟩⟩
 obtain rfl : i = 0 := by have := (List.getElem?_eq_some_iff.1 hu).1; simp at this; omega
 simp at hu
 subst hu
 refine zA1 h _ ?_
 simp [hj]
def zHr : Bool → List ByteArray
 | true => [⟨#[73]⟩, ⟨#[73]⟩, ⟨#[73]⟩, ⟨#[73]⟩]
 | false => [⟨#[73]⟩, ⟨#[73]⟩, ⟨#[73]⟩, ⟨#[73]⟩, ⟨#[76, 65, 59]⟩, ⟨#[76, 65, 59]⟩, ⟨#[91, 73]⟩, ⟨#[76, 84, 104, 114, 111, 119, 97, 98, 108, 101, 59]⟩, ⟨#[76, 84, 59]⟩, ⟨#[91, 76, 65, 59]⟩]
theorem zKy (pl : Bool) : zB5 pl = (zHr pl).map Value.string := by cases pl <;> rfl
theorem zK3 (pl : Bool) : ∀ s ∈ zHr pl, s.size ≤ 1000 := by cases pl <;> decide
def thrT : ByteArray := ⟨#[76, 84, 104, 114, 111, 119, 97, 98, 108, 101, 59]⟩
def rdOf (pl : Bool) (z : Int × Bool) : Q.RD := ⟨z.1, zHr pl, if z.2 then [thrT] else []⟩
def hdOf (h : HN) : Q.HD := ⟨h.f, h.t, h.a, h.ty⟩
def mdOf (k : BK) (σ : SG) : Q.MD := ⟨k.nm, k.ds, k.st, false, 16, ((zB5 k.pl).length : Nat), (encL (zBw σ) []).1, (zDf σ).map hdOf, (zDi σ).map (rdOf k.pl)⟩
theorem fr_row {pl : Bool} {w : World} {y : FM} {z : Int × Bool} (h : FR1 pl w y z) : Q.zAx w (frow y) (rdOf pl z) := by
 obtain ⟨z1, z2⟩ := z
 obtain ⟨h1, ⟨g, h2, h3⟩, h4⟩ := h
 have hl : Q.LAt 1 Q.zDm w (some ⟨g, 0, none⟩) (zHr pl).length (zHr pl) := zJx _ (by rw [← zKy]; exact h3) (zK3 pl) (by cases pl <;> decide)
 cases z2
 · refine ⟨_, _, none, 0, ?_, hl, Q.LAt.nil _ _ _ _ _ (by unfold maxLen; omega)⟩
   have h4' : y.st = .slice none 0 0 := h4
   have h1' : y.at_ = z1 := h1
   unfold frow
   rw [h1', h2, h4', zKy, List.length_map]
   rfl
 · obtain ⟨g2, h5, h6⟩ := h4
   have hl2 : Q.LAt 1 Q.zDm w (some ⟨g2, 0, none⟩) [thrT].length [thrT] := zJx [thrT] (T := 9) h6 (by decide) (by decide)
   refine ⟨_, _, _, _, ?_, hl, hl2⟩
   have h1' : y.at_ = z1 := h1
   unfold frow
   rw [h1', h2, h5, zKy, List.length_map]
   rfl
theorem zNv {w : World} {b : Nat} {k : BK} {σ : SG} {row : Array Value} (h : zGe w b k σ row) : Q.zB1 w row.toList (mdOf k σ) := by
 obtain ⟨vc, vh, vf, fs, rfl, h1, h2, h3, h4⟩ := h
 obtain ⟨o2, c2, rfl, l2⟩ := zJ6 (k := 4) hrow (zDf σ) (fun _ _ => rfl) ((zDf σ).map hdOf) Q.zHl h2 (by simp) (fun j x y hx hy => by
  rw [List.getElem?_map, hx] at hy
  cases hy
  refine ⟨rfl, ?_⟩
  have : x ∈ zDf σ := List.mem_of_getElem? hx
  unfold zDf at this
  obtain ⟨t, _, rfl⟩ := List.mem_map.1 this
  show (⟨#[84, 104, 114, 111, 119, 97, 98, 108, 101]⟩ : ByteArray).size ≤ 9223372036854775807
  decide)
 obtain ⟨o3, c3, rfl, l3⟩ := zJ6 (k := 3) frow fs (fun _ _ => rfl) ((zDi σ).map (rdOf k.pl)) Q.zAx h3 (by rw [List.length_map, h4.1]) (fun j x y hx hy => by
  rw [List.getElem?_map] at hy
  obtain ⟨z, hz, rfl⟩ := Option.map_eq_some_iff.1 hy
  exact fr_row (h4.2 j x z hx hz))
 have hv : Q.View w vc (encL (zBw σ) []).1 := by
  have hb := zK1 (zBw σ) [] (fun x hx => by simp at hx)
  rcases h1.2 with ⟨rfl, h0⟩ | ⟨g, cap, cur, rfl, hB, hg, k1, k2, _⟩
  · exact ⟨none, 0, by rw [h0], by rw [h0]; exact Nat.le_refl _, by unfold maxLen; omega, hb, .inl (List.length_eq_zero_iff.1 h0)⟩
  · refine ⟨_, cap, rfl, k1, k2, hb, .inr ⟨g, 0, rfl, fun j x hj => ?_⟩⟩
    rw [Nat.zero_add]
    exact zFq h1 (by unfold zAj; rw [List.getElem?_map, hj]; rfl)
 obtain ⟨o1, c1, rfl⟩ : ∃ o c, vc = .slice o (encL (zBw σ) []).1.length c := by obtain ⟨o, c, e, _⟩ := hv; exact ⟨o, c, e⟩
 refine ⟨o1, c1, o2, c2, o3, c3, rfl, ?_, ?_, hv, l2, l3⟩
 · show k.nm.size ≤ 9223372036854775807
   cases k <;> decide
 · show k.ds.size ≤ 9223372036854775807
   cases k <;> decide
def fdOf (f : ByteArray × ByteArray × Bool) : Q.FD := ⟨f.1, f.2.1, f.2.2⟩
def kdOf (nm sup : ByteArray) (fs : List (ByteArray × ByteArray × Bool)) (pool : List CD) (ms : List (BK × SG)) : Q.KD := ⟨nm, sup, pool.map qc, fs.map fdOf, ms.map (fun m => mdOf m.1 m.2)⟩
theorem zN2 {w : World} {b : Nat} {c : Array Value} {nm sup : ByteArray} {fs : List (ByteArray × ByteArray × Bool)} {pool : List CD} {ms : List (BK × SG)} (h : zC7 w b c nm sup fs pool ms) (h1 : nm.size ≤ 1000) (h2 : sup.size ≤ 1000) (h3 : ∀ f ∈ fs, f.1.size ≤ 1000 ∧ f.2.1.size ≤ 1000) (h4 : fs.length ≤ 1000) : Q.zAp w (.agg c) (kdOf nm sup fs pool ms) := by
 obtain ⟨vp, vf, vm, rfl, ⟨k1, k2⟩, k3, rows, k4, k5, k6⟩ := h
 obtain ⟨o1, c1, rfl, l1⟩ := zJ6 (k := 5) P3.CD.cells pool (fun _ _ => rfl) (pool.map qc) Q.zHe k1 (by simp) (fun j x y hx hy => by
  rw [List.getElem?_map, hx] at hy
  cases hy
  exact ⟨rfl, qc_ok (k2 x (List.mem_of_getElem? hx))⟩)
 rw [← k4] at k5
 obtain ⟨o3, c3, rfl, l3⟩ := zJ6 (k := 9) Array.toList rows (fun r hr => by
  obtain ⟨j, hj⟩ := List.getElem?_of_mem hr
  have hlt := (List.getElem?_eq_some_iff.1 hj).1
  obtain ⟨m, hm⟩ : ∃ m, ms[j]? = some m := ⟨_, List.getElem?_eq_getElem (by omega)⟩
  obtain ⟨_, _, _, _, rfl, _⟩ := k6 j m r hm hj
  rfl) (ms.map (fun m => mdOf m.1 m.2)) Q.zB1 k5 (by simp [k4]) (fun j x y hx hy => by
  rw [List.getElem?_map] at hy
  obtain ⟨m, hm, rfl⟩ := Option.map_eq_some_iff.1 hy
  exact zNv (k6 j m _ hm hx))
 obtain ⟨o2, c2, rfl, l2⟩ : ∃ o c, vf = .slice o (fs.map fdOf).length c ∧ Q.LAt 3 Q.zFd w o c (fs.map fdOf) := by
  rcases k3 with ⟨rfl, rfl⟩ | ⟨g, rfl, hg⟩
  · exact ⟨none, 0, rfl, Q.LAt.nil _ _ _ _ _ (by unfold maxLen; omega)⟩
  · refine ⟨some ⟨g, 0, none⟩, fs.length, by rw [List.length_map], by simp, by unfold maxLen; omega, fun i => (fs[i]?).elim [] zOz, fun _ => ⟨g, 0, rfl, (Array.getElem?_eq_some_iff.1 hg).1, fun j hj i u hu => ?_⟩, fun i y hy => ?_⟩
    · rw [List.length_map] at hj
      obtain ⟨x, hx⟩ : ∃ x, fs[j]? = some x := ⟨_, List.getElem?_eq_getElem hj⟩
      have hu' : (zOz x)[i]? = some u := by simpa [hx] using hu
      have hi : i < 3 := (List.getElem?_eq_some_iff.1 hu').1
      refine zA1 hg _ ?_
      rw [show 0 + j * 3 + i = j * 3 + i by omega, List.getElem?_toArray, zJe zOz 3 fs (fun _ _ => rfl) j x i hx hi]
      exact hu'
    · rw [List.getElem?_map] at hy
      obtain ⟨x, hx, rfl⟩ := Option.map_eq_some_iff.1 hy
      show Q.zFd w ((fs[i]?).elim [] zOz) (fdOf x)
      rw [hx]
      have := h3 x (List.mem_of_getElem? hx)
      exact ⟨rfl, by show x.1.size ≤ _; omega, by show x.2.1.size ≤ _; omega⟩
 exact ⟨o1, c1, o2, c2, o3, c3, rfl, by show nm.size ≤ _; omega, by show sup.size ≤ _; omega, l1, l2, l3⟩
end Go.Proofs.YtpehimfnkmepnaaGreat.M
