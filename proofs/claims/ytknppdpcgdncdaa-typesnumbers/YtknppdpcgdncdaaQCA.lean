/- all, over constants, handlers, frames and texts, whatever is asked of each. -/
import Derived.Test.YtknppdpcgdncdaaQCL
import Derived.Test.YtknppdpcgdncdaaQPV
namespace Go.Proofs.Ytknppdpcgdncdaa.Q
open Go.RowKit
theorem balloc (w : World) (o : Obj) : Below w.heap.size w (w.alloc o) := (Below.refl _ _).alloc (Nat.le_refl _) o
theorem next {w w1 w2 : World} (h : Below w.heap.size w w1) (k : Below w1.heap.size w1 w2) : Below w.heap.size w w2 := h.trans (k.mono h.size)
/-- Rows of k cells each, one behind the other, as a slice sees them. -/
def RowsAt (k : Nat) (w : World) (ao : Option Addr) (n : Nat) (rows : Nat → List Value) : Prop :=
  0 < n → ∃ b off, ao = some ⟨b, off, none⟩ ∧ b < w.heap.size ∧ ∀ j, j < n → ∀ i v, (rows j)[i]? = some v → w.cell? ⟨b, off + j * k + i, none⟩ = some v
theorem RowsAt.below {k n : Nat} {w w' : World} {ao : Option Addr} {rows : Nat → List Value} (h : RowsAt k w ao n rows) (hb : Below w.heap.size w w') : RowsAt k w' ao n rows := by
  intro hn
  obtain ⟨b, off, e, hlt, hc⟩ := h hn
  exact ⟨b, off, e, Nat.lt_of_lt_of_le hlt hb.size, fun j hj i v hv => by rw [hb.cell (p := ⟨b, off + j * k + i, none⟩) hlt]; exact hc j hj i v hv⟩
theorem RowsAt.take {k n m : Nat} {w : World} {ao : Option Addr} {rows : Nat → List Value} (h : RowsAt k w ao n rows) (hm : m ≤ n) : RowsAt k w ao m rows := by
  intro hn
  obtain ⟨b, off, e, hlt, hc⟩ := h (by omega)
  exact ⟨b, off, e, hlt, fun j hj => hc j (by omega)⟩

/-- What is asked of one: it answers, and turns nothing old. -/
def Asks (g : Nat) (v : Value) (b : Bool) (w : World) : Prop :=
  ∀ W : World, Below w.heap.size w W → Calls Try.prog g #[v] W fun e w' => e = .returned (.bool b) ∧ Below W.heap.size W w'
theorem Asks.below {g : Nat} {v : Value} {b : Bool} {w w' : World} (h : Asks g v b w) (hb : Below w.heap.size w w') : Asks g v b w' :=
  fun W hW => h W (next hb hW)
def allN (n : Nat) (q : Nat → Bool) : Bool := !(anyN n fun j => !(q j))
theorem allN_list {α : Type} (l : List α) (q : Nat → Bool) (f : α → Bool) (h : ∀ i x, l[i]? = some x → q i = f x) : allN l.length q = l.all f := by
  unfold allN
  rw [anyN_list l _ (fun x => !(f x)) (fun i x hx => by rw [h i x hx]), List.all_eq_not_any_not]
def fnv (g : Nat) : Value := .func (.func g) #[] #[]

/-- The shape of a row. -/
def ShapeC (r : List Value) : Prop := ∃ (a b : Int) (s t u : ByteArray) , r = [.int .i64 a, .int .i32 b, .string s, .string t, .string u]
set_option maxRecDepth 8000 in
set_option maxHeartbeats 1000000 in
theorem cloC (g : Nat) (eg : ∀ args w, (callFunc g args).run Try.prog w = .ok (.enter g args) w) (r : List Value) (sh : ShapeC r) (b : Bool) (B : Nat) (w : World) (hc : w.cell? ⟨B, 0, none⟩ = some (fnv g)) (h : Asks g (.agg r.toArray) b w) :
    Calls Try.prog 68 #[.agg r.toArray, .pointer (some ⟨B, 0, none⟩)] w fun e w' => e = .returned (.bool (!b)) ∧ Below w.heap.size w w' := by
  obtain ⟨a, b, s, t, u, rfl⟩ := sh
  have hB : B < w.heap.size := World.block_lt_of_cell? _ _ hc
  have hca := fun o => cell_later (balloc w o) hc
  have hcall := fun o => h (w.alloc o) (balloc w o)
  unfold fnv at hca
  simp only [List.toArray] at hcall ⊢
  go_enter Try.func68, Try.ntmps68
  go_wp2_with (go_at_fn g; refine (hcall _).mono ?_; rintro e w' ⟨rfl, hb'⟩)
  go_ret
  exact ⟨rfl, next (balloc w _) hb'⟩
set_option maxRecDepth 8000 in
set_option maxHeartbeats 1000000 in
theorem allC (g : Nat) (eg : ∀ args w, (callFunc g args).run Try.prog w = .ok (.enter g args) w) (rows : Nat → List Value) (q : Nat → Bool) (ao : Option Addr) (n c : Nat) (w : World) (sh : ∀ j, j < n → ShapeC (rows j)) (hbig : n ≤ 9223372036854775807)
    (hr : RowsAt 5 w ao n rows) (hq : ∀ j, j < n → Asks g (.agg (rows j).toArray) (q j) w) :
    Calls Try.prog 62 #[.slice ao n c, fnv g] w fun e w' => e = .returned (.bool (allN n q)) ∧ Below w.heap.size w w' := by
  have hH : ∀ o, (w.alloc o).cell? ⟨w.heap.size, 0, none⟩ = some (fnv g) → Calls Try.prog 67 #[.slice ao n c, .func (.func 68) #[] #[.pointer (some ⟨w.heap.size, 0, none⟩)]] (w.alloc o) fun e w' => e = .returned (.bool (anyN n fun j => !(q j))) ∧ Below (w.alloc o).heap.size (w.alloc o) w' := by
    intro o ho
    refine hasQ Try.hasC 5 Try.isAgg83 Try.sizeOf83 rows n (fun j hj => by obtain ⟨_, _, _, _, _, e⟩ := sh j hj; rw [e]; rfl) _ 68 #[.pointer (some ⟨w.heap.size, 0, none⟩)] (enters_of Try.func68 (by kernel_rfl) rfl) ao c _ (fun W j hj hW => ?_) hbig (hr.below (balloc w o))
    refine (cloC g eg (rows j) (sh j hj) (q j) w.heap.size W (cell_later hW ho) ((hq j hj).below (next (balloc w o) hW))).mono ?_
    rintro e w' ⟨rfl, hb⟩
    exact ⟨rfl, next hW hb⟩
  unfold allN
  generalize (anyN n fun j => !(q j)) = X at hH ⊢
  unfold fnv at hH ⊢
  go_enter Try.func62, Try.ntmps62
  go_wp2_with (go_at_call 67; refine (hH _ (by simp)).mono ?_; rintro e w' ⟨rfl, hb'⟩)
  go_ret
  exact ⟨rfl, next (balloc w _) hb'⟩

/-- The shape of a row. -/
def ShapeH (r : List Value) : Prop := ∃ (a b c : Int) (s : ByteArray) , r = [.int .i64 a, .int .i64 b, .int .i64 c, .string s]
set_option maxRecDepth 8000 in
set_option maxHeartbeats 1000000 in
theorem cloH (g : Nat) (eg : ∀ args w, (callFunc g args).run Try.prog w = .ok (.enter g args) w) (r : List Value) (sh : ShapeH r) (b : Bool) (B : Nat) (w : World) (hc : w.cell? ⟨B, 0, none⟩ = some (fnv g)) (h : Asks g (.agg r.toArray) b w) :
    Calls Try.prog 90 #[.agg r.toArray, .pointer (some ⟨B, 0, none⟩)] w fun e w' => e = .returned (.bool (!b)) ∧ Below w.heap.size w w' := by
  obtain ⟨a, b, c, s, rfl⟩ := sh
  have hB : B < w.heap.size := World.block_lt_of_cell? _ _ hc
  have hca := fun o => cell_later (balloc w o) hc
  have hcall := fun o => h (w.alloc o) (balloc w o)
  unfold fnv at hca
  simp only [List.toArray] at hcall ⊢
  go_enter Try.func90, Try.ntmps90
  go_wp2_with (go_at_fn g; refine (hcall _).mono ?_; rintro e w' ⟨rfl, hb'⟩)
  go_ret
  exact ⟨rfl, next (balloc w _) hb'⟩
set_option maxRecDepth 8000 in
set_option maxHeartbeats 1000000 in
theorem allH (g : Nat) (eg : ∀ args w, (callFunc g args).run Try.prog w = .ok (.enter g args) w) (rows : Nat → List Value) (q : Nat → Bool) (ao : Option Addr) (n c : Nat) (w : World) (sh : ∀ j, j < n → ShapeH (rows j)) (hbig : n ≤ 9223372036854775807)
    (hr : RowsAt 4 w ao n rows) (hq : ∀ j, j < n → Asks g (.agg (rows j).toArray) (q j) w) :
    Calls Try.prog 81 #[.slice ao n c, fnv g] w fun e w' => e = .returned (.bool (allN n q)) ∧ Below w.heap.size w w' := by
  have hH : ∀ o, (w.alloc o).cell? ⟨w.heap.size, 0, none⟩ = some (fnv g) → Calls Try.prog 89 #[.slice ao n c, .func (.func 90) #[] #[.pointer (some ⟨w.heap.size, 0, none⟩)]] (w.alloc o) fun e w' => e = .returned (.bool (anyN n fun j => !(q j))) ∧ Below (w.alloc o).heap.size (w.alloc o) w' := by
    intro o ho
    refine hasQ Try.hasH 4 Try.isAgg92 Try.sizeOf92 rows n (fun j hj => by obtain ⟨_, _, _, _, e⟩ := sh j hj; rw [e]; rfl) _ 90 #[.pointer (some ⟨w.heap.size, 0, none⟩)] (enters_of Try.func90 (by kernel_rfl) rfl) ao c _ (fun W j hj hW => ?_) hbig (hr.below (balloc w o))
    refine (cloH g eg (rows j) (sh j hj) (q j) w.heap.size W (cell_later hW ho) ((hq j hj).below (next (balloc w o) hW))).mono ?_
    rintro e w' ⟨rfl, hb⟩
    exact ⟨rfl, next hW hb⟩
  unfold allN
  generalize (anyN n fun j => !(q j)) = X at hH ⊢
  unfold fnv at hH ⊢
  go_enter Try.func81, Try.ntmps81
  go_wp2_with (go_at_call 89; refine (hH _ (by simp)).mono ?_; rintro e w' ⟨rfl, hb'⟩)
  go_ret
  exact ⟨rfl, next (balloc w _) hb'⟩

/-- The shape of a row. -/
def ShapeR (r : List Value) : Prop := ∃ (a : Int) (o1 : Option Addr) (n1 c1 : Nat) (o2 : Option Addr) (n2 c2 : Nat) , r = [.int .i64 a, .slice o1 n1 c1, .slice o2 n2 c2]
set_option maxRecDepth 8000 in
set_option maxHeartbeats 1000000 in
theorem cloR (g : Nat) (eg : ∀ args w, (callFunc g args).run Try.prog w = .ok (.enter g args) w) (r : List Value) (sh : ShapeR r) (b : Bool) (B : Nat) (w : World) (hc : w.cell? ⟨B, 0, none⟩ = some (fnv g)) (h : Asks g (.agg r.toArray) b w) :
    Calls Try.prog 92 #[.agg r.toArray, .pointer (some ⟨B, 0, none⟩)] w fun e w' => e = .returned (.bool (!b)) ∧ Below w.heap.size w w' := by
  obtain ⟨a, o1, n1, c1, o2, n2, c2, rfl⟩ := sh
  have hB : B < w.heap.size := World.block_lt_of_cell? _ _ hc
  have hca := fun o => cell_later (balloc w o) hc
  have hcall := fun o => h (w.alloc o) (balloc w o)
  unfold fnv at hca
  simp only [List.toArray] at hcall ⊢
  go_enter Try.func92, Try.ntmps92
  go_wp2_with (go_at_fn g; refine (hcall _).mono ?_; rintro e w' ⟨rfl, hb'⟩)
  go_ret
  exact ⟨rfl, next (balloc w _) hb'⟩
set_option maxRecDepth 8000 in
set_option maxHeartbeats 1000000 in
theorem allR (g : Nat) (eg : ∀ args w, (callFunc g args).run Try.prog w = .ok (.enter g args) w) (rows : Nat → List Value) (q : Nat → Bool) (ao : Option Addr) (n c : Nat) (w : World) (sh : ∀ j, j < n → ShapeR (rows j)) (hbig : n ≤ 9223372036854775807)
    (hr : RowsAt 3 w ao n rows) (hq : ∀ j, j < n → Asks g (.agg (rows j).toArray) (q j) w) :
    Calls Try.prog 83 #[.slice ao n c, fnv g] w fun e w' => e = .returned (.bool (allN n q)) ∧ Below w.heap.size w w' := by
  have hH : ∀ o, (w.alloc o).cell? ⟨w.heap.size, 0, none⟩ = some (fnv g) → Calls Try.prog 91 #[.slice ao n c, .func (.func 92) #[] #[.pointer (some ⟨w.heap.size, 0, none⟩)]] (w.alloc o) fun e w' => e = .returned (.bool (anyN n fun j => !(q j))) ∧ Below (w.alloc o).heap.size (w.alloc o) w' := by
    intro o ho
    refine hasQ Try.hasR 3 Try.isAgg95 Try.sizeOf95 rows n (fun j hj => by obtain ⟨_, _, _, _, _, _, _, e⟩ := sh j hj; rw [e]; rfl) _ 92 #[.pointer (some ⟨w.heap.size, 0, none⟩)] (enters_of Try.func92 (by kernel_rfl) rfl) ao c _ (fun W j hj hW => ?_) hbig (hr.below (balloc w o))
    refine (cloR g eg (rows j) (sh j hj) (q j) w.heap.size W (cell_later hW ho) ((hq j hj).below (next (balloc w o) hW))).mono ?_
    rintro e w' ⟨rfl, hb⟩
    exact ⟨rfl, next hW hb⟩
  unfold allN
  generalize (anyN n fun j => !(q j)) = X at hH ⊢
  unfold fnv at hH ⊢
  go_enter Try.func83, Try.ntmps83
  go_wp2_with (go_at_call 91; refine (hH _ (by simp)).mono ?_; rintro e w' ⟨rfl, hb'⟩)
  go_ret
  exact ⟨rfl, next (balloc w _) hb'⟩

set_option maxRecDepth 8000 in
set_option maxHeartbeats 1000000 in
theorem cloS (g : Nat) (eg : ∀ args w, (callFunc g args).run Try.prog w = .ok (.enter g args) w) (s : ByteArray) (b : Bool) (B : Nat) (w : World) (hc : w.cell? ⟨B, 0, none⟩ = some (fnv g)) (h : Asks g (.string s) b w) :
    Calls Try.prog 98 #[.string s, .pointer (some ⟨B, 0, none⟩)] w fun e w' => e = .returned (.bool (!b)) ∧ Below w.heap.size w w' := by
  have hcall := h w (Below.refl _ _)
  unfold fnv at hc
  go_enter Try.func98, Try.ntmps98
  go_wp2_with (go_at_fn g; refine hcall.mono ?_; rintro e w' ⟨rfl, hb'⟩)
  go_ret
  exact ⟨rfl, hb'⟩
set_option maxRecDepth 8000 in
set_option maxHeartbeats 1000000 in
theorem allS (g : Nat) (eg : ∀ args w, (callFunc g args).run Try.prog w = .ok (.enter g args) w) (tx : Nat → ByteArray) (q : Nat → Bool) (ao : Option Addr) (n c : Nat) (w : World) (hbig : n ≤ 9223372036854775807)
    (hr : RowsAt 1 w ao n (fun j => [.string (tx j)])) (hq : ∀ j, j < n → Asks g (.string (tx j)) (q j) w) :
    Calls Try.prog 93 #[.slice ao n c, fnv g] w fun e w' => e = .returned (.bool (allN n q)) ∧ Below w.heap.size w w' := by
  have hH : ∀ o, (w.alloc o).cell? ⟨w.heap.size, 0, none⟩ = some (fnv g) → Calls Try.prog 97 #[.slice ao n c, .func (.func 98) #[] #[.pointer (some ⟨w.heap.size, 0, none⟩)]] (w.alloc o) fun e w' => e = .returned (.bool (anyN n fun j => !(q j))) ∧ Below (w.alloc o).heap.size (w.alloc o) w' := by
    intro o ho
    refine hasE Try.hasS (fun j => .string (tx j)) _ 98 #[.pointer (some ⟨w.heap.size, 0, none⟩)] (enters_of Try.func98 (by kernel_rfl) rfl) ao n c _ (fun W j hj hW => ?_) hbig ?_
    · refine (cloS g eg (tx j) (q j) w.heap.size W (cell_later hW ho) ((hq j hj).below (next (balloc w o) hW))).mono ?_
      rintro e w' ⟨rfl, hb⟩
      exact ⟨rfl, next hW hb⟩
    · intro hn
      obtain ⟨b, off, e, hb, hc⟩ := (hr.below (balloc w o)) hn
      exact ⟨b, off, e, hb, fun j hj => by have := hc j hj 0 _ rfl; simpa using this⟩
  unfold allN
  generalize (anyN n fun j => !(q j)) = X at hH ⊢
  unfold fnv at hH ⊢
  go_enter Try.func93, Try.ntmps93
  go_wp2_with (go_at_call 97; refine (hH _ (by simp)).mono ?_; rintro e w' ⟨rfl, hb'⟩)
  go_ret
  exact ⟨rfl, next (balloc w _) hb'⟩
end Go.Proofs.Ytknppdpcgdncdaa.Q
