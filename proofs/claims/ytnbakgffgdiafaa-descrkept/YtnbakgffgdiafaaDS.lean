/- Lists of texts: a view of them, Same, Join, and the law's helper 'known'. -/
import Derived.Test.YtnbakgffgdiafaaDL
import Derived.Deep.QuietTactic
import Derived.BigQuiet
namespace Go.Proofs.Ytnbakgffgdiafaa
open Go.RowKit

/-- The texts lie one behind the other. -/
def Lies (w : World) (g off : Nat) (xs : List ByteArray) : Prop := ∀ (j : Nat) x, xs[j]? = some x → w.cell? ⟨g, off + j, none⟩ = some (.string x)
def View (w : World) (v : Value) (xs : List ByteArray) : Prop :=
  ∃ ao cap, v = .slice ao xs.length cap ∧ xs.length ≤ cap ∧ cap ≤ maxLen ∧ (xs = [] ∨ ∃ g off, ao = some ⟨g, off, none⟩ ∧ Lies w g off xs)
theorem cell_later {B : Nat} {w wr : World} (h : Below B w wr) (hB : w.heap.size ≤ B) {a : Addr} {u : Value} (hc : w.cell? a = some u) : wr.cell? a = some u := by
  have hlt := World.block_lt_of_cell? w a hc
  rw [World.cell?_of_block (a := a) (h.block a.block (by omega))]; exact hc
theorem View.below {w wr : World} {v : Value} {l : List ByteArray} (h : View w v l) (hb : Below w.heap.size w wr) : View wr v l := by
  obtain ⟨ao, cap, rfl, hc, hm, hl⟩ := h
  refine ⟨ao, cap, rfl, hc, hm, ?_⟩
  rcases hl with h | ⟨g, off, e, hl⟩
  · exact .inl h
  · exact .inr ⟨g, off, e, fun j x hj => cell_later hb (Nat.le_refl _) (hl j x hj)⟩
theorem View.drewN {w : World} {v : Value} {l : List ByteArray} (h : View w v l) (q : Nat) : View (w.drewN q) v l := h
theorem View.of_own {w : World} {B : Nat} {v : Value} {l : List Bs} (h : w.ownsRow B 9 1 v l.length (scells l)) : View w v (l.map str) := by
  rcases h.2 with ⟨rfl, h0⟩ | ⟨g, cap, cur, rfl, _, hg, h1, h2, h3, h4⟩
  · have : l = [] := List.length_eq_zero_iff.1 h0
    subst this
    exact ⟨none, 0, rfl, Nat.le_refl _, by unfold maxLen; omega, .inl rfl⟩
  · refine ⟨some ⟨g, 0, none⟩, cap, by simp, by simpa using h1, h2, .inr ⟨g, 0, rfl, fun j x hj => ?_⟩⟩
    have hj' : (scells l)[j]? = some (.string x) := by
      rw [List.getElem?_map] at hj
      simp only [scells, List.getElem?_map]
      cases hl : l[j]? with
      | none => rw [hl] at hj; cases hj
      | some p => rw [hl] at hj; simp at hj; simp [hj]
    have := h.cells (g := g) rfl j _ hj'
    have e : (⟨g, 0, none⟩ : Addr).add j = ⟨g, 0 + j, none⟩ := by unfold Addr.add; split <;> simp_all
    rwa [e] at this
/-- A view of texts just laid. -/
theorem View.laid (w : World) (l : List ByteArray) (hm : l.length ≤ maxLen) : View (w.alloc (.cells (l.map Value.string).toArray 9)) (.slice (some ⟨w.heap.size, 0, none⟩) l.length l.length) l := by
  refine ⟨_, _, rfl, Nat.le_refl _, hm, .inr ⟨_, _, rfl, fun j x hj => ?_⟩⟩
  have h := cell_of_row (w.alloc (.cells (l.map Value.string).toArray 9)) w.heap.size (0 + j) (l.map Value.string).toArray 9 (0, 0) (heap_alloc_new w _)
  rw [h]
  simp [hj]

set_option maxHeartbeats 2000000 in
theorem same_any (va vb : Value) (l : List ByteArray) (w : World) (ha : View w va l) (hb : View w vb l) :
    Calls Try.prog 20 #[va, vb] w fun e w' => e = .returned (.bool true) ∧ ∃ q, w' = w.drewN q := by
  obtain ⟨aoa, capa, rfl, hca, hma, hla⟩ := ha
  obtain ⟨aob, capb, rfl, hcb, hmb, hlb⟩ := hb
  unfold maxLen at hma hmb
  go_enter Try.func20, Try.ntmps20
  go_wp2
  go_loopw [5] (fun i wr => ∃ k q : Nat, k ≤ l.length ∧ i = .int .i64 (k : Int) ∧ wr = w.drewN q) (fun i _ => l.length - (intOf i).toNat)
  case atStart => exact ⟨0, 0, by omega, rfl, rfl⟩
  case round =>
    obtain ⟨k, q, hk, rfl, rfl⟩ := hrel
    by_cases hlt : k < l.length
    · obtain ⟨g, off, rfl, hla2⟩ : ∃ g off, aoa = some ⟨g, off, none⟩ ∧ Lies w g off l := by
        rcases hla with e | h
        · rw [e] at hlt; simp at hlt
        · exact h
      obtain ⟨g2, off2, rfl, hlb2⟩ : ∃ g off, aob = some ⟨g, off, none⟩ ∧ Lies w g off l := by
        rcases hlb with e | h
        · rw [e] at hlt; simp at hlt
        · exact h
      have ca := hla2 k l[k] (by simp [hlt])
      have cb := hlb2 k l[k] (by simp [hlt])
      clear hla hlb hla2 hlb2
      have h1 : (k : Int) < (l.length : Int) := by omega
      generalize l[k] = x at *
      go_wp2
      go_quiet (fail)
      go_wp2
      exact ⟨⟨k + 1, _, by omega, by go_num, rfl⟩, by simp [intOf]; omega⟩
    · have h1 : ¬ (k : Int) < (l.length : Int) := by omega
      go_wp2
      go_ret
      exact ⟨rfl, q, rfl⟩

/-- The text that Join makes. -/
def joinZ (xs : List ByteArray) (r : ByteArray) : Bs := 40 :: ((xs.map (·.data.toList)).flatten ++ 41 :: r.data.toList)
theorem join_nosep (xs : List Bs) : Lib.join xs [] = xs.flatten := by
  unfold Lib.join
  induction xs with
  | nil => rfl
  | cons x t ih =>
    cases t with
    | nil => simp [List.intercalate]
    | cons y t =>
      simp only [List.intercalate, List.intersperse_cons_cons, List.flatten_cons, List.nil_append] at ih ⊢
      rw [ih]

set_option maxHeartbeats 2000000 in
theorem join_any (v : Value) (xs : List ByteArray) (r : ByteArray) (w : World) (hv : View w v xs) (hN : xs.length ≤ 1073741824) (hlen : (xs.map (·.data.toList)).flatten.length ≤ 1073741824) (hr : r.size ≤ 1073741824) :
    Calls Try.prog 14 #[v, .string r] w fun e w' => e = .returned (.string (str (joinZ xs r))) ∧ Below w.heap.size w w' := by
  have hJ : Hid (Calls Try.prog 32 #[v, .string ⟨#[]⟩] w fun e w' => e = .returned (.string (str (xs.map (·.data.toList)).flatten)) ∧ Below w.heap.size w w') := by
    obtain ⟨ao, cap, rfl, hc, hm, hl⟩ := hv
    rcases hl with rfl | ⟨g, off, rfl, hl⟩
    · exact (Try.strings_Join_none ao cap ⟨#[]⟩ w).mono fun e w' ⟨h1, h2⟩ => by cases h2; exact ⟨h1, Below.refl _ _⟩
    · cases xs with
      | nil => exact (Try.strings_Join_none _ cap ⟨#[]⟩ w).mono fun e w' ⟨h1, h2⟩ => by cases h2; exact ⟨h1, Below.refl _ _⟩
      | cons x xs =>
        have hb : g < w.heap.size := World.block_lt_of_cell? w ⟨g, off + 0, none⟩ (hl 0 x rfl)
        have := Try.strings_Join g off cap (x :: xs) ⟨#[]⟩ w hl hb (by omega) hc (by
          rw [show (ByteArray.mk #[]).data.toList = [] from rfl, join_nosep]; omega)
        rw [show (ByteArray.mk #[]).data.toList = [] from rfl, join_nosep] at this
        exact this
  have hX : (str (xs.map (·.data.toList)).flatten).size ≤ 1073741824 := by rw [str_size]; exact hlen
  unfold joinZ
  generalize (xs.map (·.data.toList)).flatten = F at *
  have hE : Hid (str (40 :: (F ++ 41 :: r.data.toList)) = { data := #[40] } ++ str F ++ { data := #[41] } ++ r) := by
    refine (str_of ?_).symm
    rw [cat_data, cat_data, cat_data, data_str]
    simp
  obtain ⟨ao, cap, rfl, -⟩ := hv
  go_enter Try.func14, Try.ntmps14
  go_wp2_with fail
  refine hJ.out.mono ?_
  rintro e w' ⟨rfl, hb⟩
  go_wp2
  go_ret
  exact ⟨by rw [hE.out]; rfl, hb⟩

theorem meth_known : meth [40, 73, 91, 76, 65, 59, 76, 66, 59, 41, 86] = some ([[73], [91, 76, 65, 59], [76, 66, 59]], [86]) := by decide +kernel
theorem field_arr2 : fieldB [91, 91, 73] = false := by decide +kernel
theorem class_LA : classZ [76, 65, 59] = [65] := by decide +kernel

set_option maxHeartbeats 2000000 in
theorem known_any (w : World) : Calls Try.prog 15 #[] w fun e w' => e = .returned (.bool true) ∧ Below w.heap.size w w' := by
  go_enter Try.func15, Try.ntmps15
  go_wp2_with fail
  refine (method_any ⟨#[40, 73, 91, 76, 65, 59, 76, 66, 59, 41, 86]⟩ w (by decide)).mono ?_
  rintro e w1 ⟨b1, h1⟩
  obtain ⟨v, rfl, o1⟩ : ∃ v, e = .returned (.tuple #[v, .string (str [86]), .bool true]) ∧ w1.ownsRow w.heap.size 9 1 v 3 (scells [[73], [91, 76, 65, 59], [76, 66, 59]]) := by
    rcases h1 with ⟨ps, r, v, h, h', h''⟩ | ⟨h, _⟩
    · rw [show (ByteArray.mk #[40, 73, 91, 76, 65, 59, 76, 66, 59, 41, 86]).data.toList = [40, 73, 91, 76, 65, 59, 76, 66, 59, 41, 86] from rfl, meth_known] at h
      simp only [Option.some.injEq, Prod.mk.injEq] at h
      obtain ⟨rfl, rfl⟩ := h
      exact ⟨v, h', h''⟩
    · rw [show (ByteArray.mk #[40, 73, 91, 76, 65, 59, 76, 66, 59, 41, 86]).data.toList = [40, 73, 91, 76, 65, 59, 76, 66, 59, 41, 86] from rfl, meth_known] at h
      cases h
  clear h1
  have V1 := View.of_own (l := [[73], [91, 76, 65, 59], [76, 66, 59]]) o1
  obtain ⟨ao, cap, rfl⟩ := own_slice o1
  rw [show str [86] = ⟨#[86]⟩ from rfl]
  go_wp2_with fail
  refine (same_any _ _ [⟨#[73]⟩, ⟨#[91, 76, 65, 59]⟩, ⟨#[76, 66, 59]⟩] _ (V1.below ((Below.refl _ _).alloc (Nat.le_refl _) _)) (View.laid w1 [⟨#[73]⟩, ⟨#[91, 76, 65, 59]⟩, ⟨#[76, 66, 59]⟩] (by unfold maxLen; decide))).mono ?_
  rintro e w2 ⟨rfl, q, rfl⟩
  go_wp2_with fail
  refine (field_any ⟨#[91, 91, 73]⟩ _ (by decide)).mono ?_
  rw [show (ByteArray.mk #[91, 91, 73]).data.toList = [91, 91, 73] from rfl, field_arr2]
  rintro e w' ⟨rfl, hww⟩; cases hww
  go_wp2_with fail
  refine (class_any ⟨#[76, 65, 59]⟩ _ (by decide)).mono ?_
  rw [show (ByteArray.mk #[76, 65, 59]).data.toList = [76, 65, 59] from rfl, class_LA, show str [65] = ⟨#[65]⟩ from rfl]
  rintro e w' ⟨rfl, hww⟩; cases hww
  go_wp2
  go_ret
  refine ⟨rfl, ?_⟩
  have b2 : Below w.heap.size w (w1.alloc (.cells ([⟨#[73]⟩, ⟨#[91, 76, 65, 59]⟩, ⟨#[76, 66, 59]⟩].map Value.string).toArray 9)) := b1.alloc b1.size _
  exact ⟨b2.os, b2.tape, b2.output, b2.size, b2.block⟩
end Go.Proofs.Ytnbakgffgdiafaa
