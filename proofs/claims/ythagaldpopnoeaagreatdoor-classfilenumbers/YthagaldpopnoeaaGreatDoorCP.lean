/- known: the class A, written; nothing, read. -/
import Derived.Test.YthagaldpopnoeaaGreatDoorCO
namespace Go.Proofs.YthagaldpopnoeaaGreatDoor
open Go.RowKit D
def kA : KD := ⟨⟨#[65]⟩, ⟨#[]⟩, [], [], []⟩
theorem kA_right : rightZ kA = 0 := by
  first
    | rfl
    | decide
    | kernel_rfl
theorem kA_out : classO kA = [202, 254, 186, 190, 0, 1, 0, 0, 0, 1, 65, 0, 0, 0, 0] := by
  first
    | rfl
    | decide
    | kernel_rfl
theorem kA_at (w : World) : ClassV w (.agg #[.string ⟨#[65]⟩, .string ⟨#[]⟩, .slice none 0 0, .slice none 0 0, .slice none 0 0]) kA :=
  ⟨none, 0, none, 0, none, 0, rfl, by decide, by decide, LAt.nil _ _ _ _ _ (Nat.zero_le _), LAt.nil _ _ _ _ _ (Nat.zero_le _), LAt.nil _ _ _ _ _ (Nat.zero_le _)⟩
theorem decode_none (w : World) : Calls Tryz.prog 10 #[.slice none 0 0] w fun e w' => e = .returned (.tuple #[zeroK, .int .i64 10, .int .i64 0]) ∧ Below w.heap.size w w' :=
  decode_refused (.slice none 0 0) [] 0 0 0 0 0 0 10 10 10 10 10 10 10 0 ⟨#[]⟩ ⟨#[]⟩ w (View.empty w) (by decide) rfl (by first | rfl | decide | kernel_rfl) (by first | rfl | decide | kernel_rfl) (by first | rfl | decide | kernel_rfl) (by first | rfl | decide | kernel_rfl) (.inl (by first | rfl | decide)) (.inl (by first | rfl | decide)) (by first | rfl | decide) (by decide)
theorem encode_A (w : World) (hT : Tabs w) (h2 : 2 ≤ w.heap.size) : Calls Tryz.prog 14 #[.agg #[.string ⟨#[65]⟩, .string ⟨#[]⟩, .slice none 0 0, .slice none 0 0, .slice none 0 0]] w fun e w' => Below w.heap.size w w' ∧ ∃ ao c, e = .returned (.tuple #[.slice ao 15 c, .int .i64 0]) ∧ View w' (.slice ao 15 c) [202, 254, 186, 190, 0, 1, 0, 0, 0, 1, 65, 0, 0, 0, 0] := by
  refine (encode_class kA _ w (kA_at w) hT h2).mono ?_
  rintro e w' ⟨hb, ha⟩
  refine ⟨hb, ?_⟩
  rw [kA_right, kA_out] at ha
  rcases ha with ⟨h, _⟩ | ⟨_, h, _⟩ | ⟨_, _, v, rfl, ho⟩
  · exact absurd rfl h
  · exact absurd h (by decide)
  · obtain ⟨ao, c, rfl⟩ := own_slice ho
    exact ⟨ao, c, rfl, View.of_own ho (by intro x hx; simp at hx; omega)⟩
set_option maxRecDepth 8000 in
set_option maxHeartbeats 2000000 in
theorem known_any (w : World) (hT : Tabs w) (h2 : 2 ≤ w.heap.size) : Calls Tryz.prog 13 #[] w fun e w' => e = .returned (.bool true) ∧ Below w.heap.size w w' := by
  have gE := D.hidIt (encode_A w hT h2)
  have gD := fun W => D.hidIt (decode_none W)
  unfold zeroK at gD
  clear hT h2
  go_enter Tryz.func13, Tryz.ntmps13
  go_wp2_with fail
  refine gE.out.mono ?_
  rintro e w1 ⟨b1, ao, c, rfl, V1⟩
  have B1 := D.hidIt b1
  have HV := D.hidIt V1
  clear b1 V1 gE
  go_wp2_with fail
  refine (gD _).out.mono ?_
  rintro e w2 ⟨rfl, b2⟩
  have B2 := D.hidIt (next B1.out (next b2 (balloc w2 (.cells #[.string ⟨#[]⟩, .string ⟨#[]⟩, .slice none 0 0, .slice none 0 0, .slice none 0 0] 33))))
  have cs := run_string (HV.out.below (next b2 (balloc w2 (.cells #[.string ⟨#[]⟩, .string ⟨#[]⟩, .slice none 0 0, .slice none 0 0, .slice none 0 0] 33))))
  have hst : ((strOfNums [202, 254, 186, 190, 0, 1, 0, 0, 0, 1, 65, 0, 0, 0, 0]).toList == [202, 254, 186, 190, 0, 1, 0, 0, 0, 1, 65, 0, 0, 0, 0]) = true := by rw [Lib.toList_data]; first | rfl | decide
  generalize strOfNums [202, 254, 186, 190, 0, 1, 0, 0, 0, 1, 65, 0, 0, 0, 0] = sA at *
  clear b2 gD HV
  go_wp2
  go_ret
  exact ⟨rfl, B2.out⟩
end Go.Proofs.YthagaldpopnoeaaGreatDoor
