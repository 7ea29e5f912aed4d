/- pair and read of package code: walked. -/
import Derived.Test.YtjbkhaafaplceaaZ
import Derived.Deep.QuietTactic
import Derived.BigQuiet
import Derived.Deep.RegionHeld3
namespace Go.Proofs.Ytjbkhaafaplceaa
open Go.RowKit
theorem wraps_u16 (n : Int) (h0 : 0 ≤ n) (h1 : n < 2 ^ 16) : IntKind.u16.wrap n = n := by
  simp [IntKind.wrap, IntKind.bits, IntKind.signed]; omega
theorem u16_or8 (x z : Int) (hx0 : 0 ≤ x) (hx1 : x ≤ 255) (hz0 : 0 ≤ z) (hz1 : z ≤ 255) : bits .or .u16 (x * 256) z = x * 256 + z :=
  bits_join .u16 16 (by decide) wraps_u16 8 (x * 256) z (by omega) (by omega) (by omega) hz0 (by omega) (by omega)
theorem wrap_s8 (x : Int) (h0 : 0 ≤ x) (h1 : x ≤ 255) : IntKind.i8.wrap x = s8 x := by
  unfold s8
  simp [IntKind.wrap, IntKind.bits, IntKind.signed]; split <;> omega
theorem wrap_s16 (x : Int) (h0 : 0 ≤ x) (h1 : x ≤ 65535) : IntKind.i16.wrap x = s16 x := by
  unfold s16
  simp [IntKind.wrap, IntKind.bits, IntKind.signed]; split <;> omega
theorem set_below {B g : Nat} {w w1 : World} (h : Below B w w1) (hB : B ≤ g) (o : Nat) (u : Value) : Below B w (w1.setCell ⟨g, o, none⟩ u) :=
  h.trans ⟨rfl, rfl, rfl, by simp [World.setCell], fun k hk => Below.heap_setCell _ _ _ _ (fun e => by simp only at e; omega)⟩
/-- A result of four cells, written. -/
theorem fin4 {w1 : World} {r k o : Nat} {x0 x1 x2 x3 u : Value} (h : w1.heap[r]? = some (.cells #[x0, x1, x2, x3] 23 (0, 0))) (hk : r ≠ k) (a b c d : Value) :
    (((((w1.setCell ⟨k, o, none⟩ u).setCell ⟨r, 0, none⟩ a).setCell ⟨r, 1, none⟩ b).setCell ⟨r, 2, none⟩ c).setCell ⟨r, 3, none⟩ d).heap[r]? = some (.cells #[a, b, c, d] 23 (0, 0)) := by
  have h0 : (w1.setCell ⟨k, o, none⟩ u).heap[r]? = some (.cells #[x0, x1, x2, x3] 23 (0, 0)) := (Below.heap_setCell _ _ _ _ hk).trans h
  have h1 := set_row (j := 0) (u := a) h0
  have h2 := set_row (j := 1) (u := b) h1
  have h3 := set_row (j := 2) (u := c) h2
  have h4 := set_row (j := 3) (u := d) h3
  exact h4
theorem below4 {w w1 : World} {k o : Nat} {u a b c d : Value} (h : Below w.heap.size w w1) (hk : w.heap.size ≤ k) :
    Below w.heap.size w (((((w1.setCell ⟨k, o, none⟩ u).setCell ⟨w.heap.size, 0, none⟩ a).setCell ⟨w.heap.size, 1, none⟩ b).setCell ⟨w.heap.size, 2, none⟩ c).setCell ⟨w.heap.size, 3, none⟩ d) :=
  set_below (set_below (set_below (set_below (set_below h hk _ _) (Nat.le_refl _) _ _) (Nat.le_refl _) _ _) (Nat.le_refl _) _ _) (Nat.le_refl _) _ _
theorem cell_lt {W : World} {b o : Nat} {u : Value} (h : W.cell? ⟨b, o, none⟩ = some u) : b < W.heap.size := by
  apply Nat.lt_of_not_le
  intro hle
  have hn : W.heap[b]? = none := Array.getElem?_eq_none (by omega)
  simp [World.cell?, hn] at h
theorem kd_three (op : Int) : kd op = 3 ↔ op = 16 := by
  unfold kd
  constructor
  · intro h
    repeat' split at h
    all_goals first | assumption | omega
  · rintro rfl; decide
theorem kd_five (op : Int) : kd op = 5 ↔ op = 17 := by
  unfold kd
  constructor
  · intro h
    repeat' split at h
    all_goals first | assumption | omega
  · rintro rfl; decide
theorem kd_seven (op : Int) : kd op = 7 ↔ op = 132 := by
  unfold kd
  constructor
  · intro h
    repeat' split at h
    all_goals first | assumption | omega
  · rintro rfl; decide
theorem kd_not (op : Int) (h3 : kd op ≠ 3) (h5 : kd op ≠ 5) (h7 : kd op ≠ 7) : op ≠ 16 ∧ op ≠ 17 ∧ op ≠ 132 :=
  ⟨fun e => h3 ((kd_three op).2 e), fun e => h5 ((kd_five op).2 e), fun e => h7 ((kd_seven op).2 e)⟩
end Go.Proofs.Ytjbkhaafaplceaa
