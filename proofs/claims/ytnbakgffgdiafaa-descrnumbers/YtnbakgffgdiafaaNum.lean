/- DescrNumbers, walked. -/
import Derived.Test.YtnbakgffgdiafaaDS
namespace Go.Proofs.Ytnbakgffgdiafaa
open Go.RowKit

theorem method_some (s : ByteArray) (w : World) (hs : s.size ≤ 9223372036854775807) {ps : List Bs} {r : Bs} (h : meth s.data.toList = some (ps, r)) :
    Calls Try.prog 8 #[.string s] w fun e w' => Below w.heap.size w w' ∧ ∃ v, e = .returned (.tuple #[v, .string (str r), .bool true]) ∧ w'.ownsRow w.heap.size 9 1 v ps.length (scells ps) :=
  (method_any s w hs).mono fun e w' ⟨hb, hm⟩ => by
    refine ⟨hb, ?_⟩
    rcases hm with ⟨ps', r', v, h1, h2, h3⟩ | ⟨h1, _⟩
    · rw [h] at h1
      simp only [Option.some.injEq, Prod.mk.injEq] at h1
      obtain ⟨rfl, rfl⟩ := h1
      exact ⟨v, h2, h3⟩
    · rw [h] at h1; cases h1
theorem method_none (s : ByteArray) (w : World) (hs : s.size ≤ 9223372036854775807) (h : meth s.data.toList = none) :
    Calls Try.prog 8 #[.string s] w fun e w' => Below w.heap.size w w' ∧ e = .returned (.tuple #[.slice none 0 0, .string ⟨#[]⟩, .bool false]) :=
  (method_any s w hs).mono fun e w' ⟨hb, hm⟩ => by
    refine ⟨hb, ?_⟩
    rcases hm with ⟨ps', r', v, h1, h2, h3⟩ | ⟨_, h2⟩
    · rw [h] at h1; cases h1
    · exact h2
theorem below_drewN {B : Nat} {a w : World} (h : Below B a w) (q : Nat) : Below B a (w.drewN q) := ⟨h.os, h.tape, h.output, h.size, h.block⟩

theorem num_1 : meth (ByteArray.mk #[40, 73, 73, 73, 73, 73, 73, 73, 73, 73, 41, 86]).data.toList = none := by decide +kernel
theorem num_2 : meth (ByteArray.mk #[40, 73, 73, 73, 73, 73, 73, 73, 73, 41, 86]).data.toList = some ([[73], [73], [73], [73], [73], [73], [73], [73]], [86]) := by decide +kernel
theorem num_3 : meth (ByteArray.mk #[40, 41, 73]).data.toList = some ([], [73]) := by decide +kernel
theorem num_4 : meth (ByteArray.mk #[40, 41]).data.toList = none := by decide +kernel
theorem num_5 : meth (ByteArray.mk #[40, 86, 41, 86]).data.toList = none := by decide +kernel
theorem num_6 : elemZ (ByteArray.mk #[91, 76, 65, 59]).data.toList = ([76, 65, 59], true) := by decide +kernel
theorem num_7 : elemZ (ByteArray.mk #[76, 65, 59]).data.toList = ([], false) := by decide +kernel
theorem num_8 : fieldB (ByteArray.mk #[76, 65]).data.toList = false := by decide +kernel
theorem num_9 : fieldB (ByteArray.mk #[76, 49, 59]).data.toList = false := by decide +kernel
theorem num_10 : fieldB (ByteArray.mk #[]).data.toList = false := by decide +kernel
theorem num_11 : fieldB (ByteArray.mk #[91, 73]).data.toList = true := by decide +kernel
theorem num_12 : classZ (ByteArray.mk #[91, 73]).data.toList = [79, 98, 106, 101, 99, 116] := by decide +kernel
theorem num_13 : classZ (ByteArray.mk #[73]).data.toList = [] := by decide +kernel
theorem num_14 : nameB (ByteArray.mk #[95, 36, 57]).data.toList = true := by decide +kernel
theorem num_15 : nameB (ByteArray.mk #[57]).data.toList = false := by decide +kernel
theorem num_16 : nameB (ByteArray.mk #[]).data.toList = false := by decide +kernel

set_option maxHeartbeats 8000000 in
theorem numbers_any (w : World) : Calls Try.prog 3 #[] w fun e w' => e = .returned (.bool true) ∧ Below w.heap.size w w' := by
  go_enter Try.func3, Try.ntmps3
  go_wp2_with fail
  refine (method_none ⟨#[40, 73, 73, 73, 73, 73, 73, 73, 73, 73, 41, 86]⟩ _ (by decide) num_1).mono ?_
  rintro e w1 ⟨b1, rfl⟩
  have B1 : Below w.heap.size w w1 := b1
  clear b1
  go_wp2_with fail
  refine (method_some ⟨#[40, 73, 73, 73, 73, 73, 73, 73, 73, 41, 86]⟩ _ (by decide) num_2).mono ?_
  rintro e w2 ⟨b2, v2, rfl, o2⟩
  rw [show str [86] = ⟨#[86]⟩ from rfl]
  obtain ⟨ao2, cap2, rfl⟩ := own_slice o2
  clear o2
  simp only [List.length_cons, List.length_nil] at *
  have B2 : Below w.heap.size w w2 := B1.trans (b2.mono B1.size)
  clear B1
  clear b2
  go_wp2_with fail
  refine (method_some ⟨#[40, 41, 73]⟩ _ (by decide) num_3).mono ?_
  rintro e w3 ⟨b3, v3, rfl, o3⟩
  rw [show str [73] = ⟨#[73]⟩ from rfl]
  obtain ⟨ao3, cap3, rfl⟩ := own_slice o3
  clear o3
  simp only [List.length_nil] at *
  have B3 : Below w.heap.size w w3 := B2.trans (b3.mono B2.size)
  clear B2
  clear b3
  go_wp2_with fail
  refine (method_none ⟨#[40, 41]⟩ _ (by decide) num_4).mono ?_
  rintro e w4 ⟨b4, rfl⟩
  have B4 : Below w.heap.size w w4 := B3.trans (b4.mono B3.size)
  clear B3
  clear b4
  go_wp2_with fail
  refine (method_none ⟨#[40, 86, 41, 86]⟩ _ (by decide) num_5).mono ?_
  rintro e w5 ⟨b5, rfl⟩
  have B5 : Below w.heap.size w w5 := B4.trans (b5.mono B4.size)
  clear B4
  clear b5
  go_wp2_with fail
  refine (elem_any ⟨#[91, 76, 65, 59]⟩ _ (by decide)).mono ?_
  rw [num_6, show str ([76, 65, 59], true).1 = ⟨#[76, 65, 59]⟩ from rfl, show (([76, 65, 59], true) : Bs × Bool).2 = true from rfl]
  rintro e w' ⟨rfl, hww⟩; cases hww
  go_wp2_with fail
  refine (elem_any ⟨#[76, 65, 59]⟩ _ (by decide)).mono ?_
  rw [num_7, show str ([], false).1 = ⟨#[]⟩ from rfl, show (([], false) : Bs × Bool).2 = false from rfl]
  rintro e w' ⟨rfl, hww⟩; cases hww
  go_wp2_with fail
  refine (field_any ⟨#[76, 65]⟩ _ (by decide)).mono ?_
  rw [num_8]
  rintro e w' ⟨rfl, hww⟩; cases hww
  go_wp2_with fail
  refine (field_any ⟨#[76, 49, 59]⟩ _ (by decide)).mono ?_
  rw [num_9]
  rintro e w' ⟨rfl, hww⟩; cases hww
  go_wp2_with fail
  refine (field_any ⟨#[]⟩ _ (by decide)).mono ?_
  rw [num_10]
  rintro e w' ⟨rfl, hww⟩; cases hww
  go_wp2_with fail
  refine (field_any ⟨#[91, 73]⟩ _ (by decide)).mono ?_
  rw [num_11]
  rintro e w' ⟨rfl, hww⟩; cases hww
  go_wp2_with fail
  refine (class_any ⟨#[91, 73]⟩ _ (by decide)).mono ?_
  rw [num_12, show str [79, 98, 106, 101, 99, 116] = ⟨#[79, 98, 106, 101, 99, 116]⟩ from rfl]
  rintro e w' ⟨rfl, hww⟩; cases hww
  go_wp2_with fail
  refine (class_any ⟨#[73]⟩ _ (by decide)).mono ?_
  rw [num_13, show str [] = ⟨#[]⟩ from rfl]
  rintro e w' ⟨rfl, hww⟩; cases hww
  go_wp2_with fail
  refine (ref_any ⟨#[65]⟩ _ (by decide)).mono ?_
  rw [show str (76 :: ((ByteArray.mk #[65]).data.toList ++ [59])) = ⟨#[76, 65, 59]⟩ from rfl]
  rintro e w' ⟨rfl, hww⟩; cases hww
  go_wp2_with fail
  refine (name_any ⟨#[95, 36, 57]⟩ _).mono ?_
  rw [num_14]
  rintro e w' ⟨rfl, hww⟩; cases hww
  go_wp2_with fail
  refine (name_any ⟨#[57]⟩ _).mono ?_
  rw [num_15]
  rintro e w' ⟨rfl, hww⟩; cases hww
  go_wp2_with fail
  refine (name_any ⟨#[]⟩ _).mono ?_
  rw [num_16]
  rintro e w' ⟨rfl, hww⟩; cases hww
  go_wp2_with fail
  refine (join_any _ [⟨#[73]⟩] ⟨#[86]⟩ _ (View.laid w5 [⟨#[73]⟩] (by unfold maxLen; decide)) (by decide) (by decide) (by decide)).mono ?_
  rw [show str (joinZ [⟨#[73]⟩] ⟨#[86]⟩) = ⟨#[40, 73, 41, 86]⟩ from rfl]
  rintro e w6 ⟨rfl, b6⟩
  have B6 : Below w.heap.size w w6 := (B5.alloc B5.size _).trans (b6.mono (by have := B5.size; simp; omega))
  clear B5 b6
  go_wp2_with fail
  refine (known_any w6).mono ?_
  rintro e w7 ⟨rfl, b7⟩
  go_wp2
  go_ret
  exact ⟨rfl, B6.trans (b7.mono B6.size)⟩
end Go.Proofs.Ytnbakgffgdiafaa
