/- known: chapter 5's runs: walked. -/
import Derived.Test.YtcmneinhcfejhaaD
import Derived.Test.YtcmneinhcfejhaaE
import Derived.Test.YtcmneinhcfejhaaNm
import Derived.Test.YtcmneinhcfejhaaSm
namespace Go.Proofs.Ytcmneinhcfejhaa
open Go.RowKit
theorem dec_known1 : decZ5 [16, 255, 167, 255, 254] = ([⟨0, 16, -1, 0⟩, ⟨2, 167, 0, 0⟩], 0, 0) := by kernel_rfl
theorem dec_known2 : decZ5 [16] = ([], 10, 0) := by kernel_rfl
theorem name_known : nameO 124 = ⟨#[117, 115, 104, 114]⟩ := by kernel_rfl
/-- Two instructions just laid, as a list of two. -/
theorem IView.laid2 (w : World) (i j : IN) : IView (w.alloc (.cells #[.int .i64 i.pl, .int .i64 i.op, .int .i64 i.a, .int .i64 i.b, .int .i64 j.pl, .int .i64 j.op, .int .i64 j.a, .int .i64 j.b] 33)) (.slice (some ⟨w.heap.size, 0, none⟩) 2 2) [i, j] := by
  refine ⟨_, _, rfl, Nat.le_refl _, by unfold maxLen; omega, .inr ⟨_, _, rfl, ILies.of_block (heap_alloc_new w _) rfl rfl⟩⟩
set_option maxRecDepth 8000 in
set_option maxHeartbeats 4000000 in
theorem known_any (w : World) : Calls Try.prog 20 #[] w fun e w' => e = .returned (.bool true) ∧ Below w.heap.size w w' := by
  have B0 : Hid (Below w.heap.size w (w.alloc (.cells #[.int .u8 16, .int .u8 255, .int .u8 167, .int .u8 255, .int .u8 254] 5))) := below_alloc w _
  have g1 := decode_any _ [16, 255, 167, 255, 254] _ (View.laid w [16, 255, 167, 255, 254] (fun x hx => by simp at hx; omega) (by unfold maxLen; decide))
  rw [dec_known1] at g1
  have G1 := hidIt g1
  clear g1
  go_enter Try.func20, Try.ntmps20
  go_wp2_with fail
  refine G1.out.mono ?_
  rintro e w1 ⟨b1, v1, rfl, o1⟩
  have B1 := hidIt (B0.out.trans (b1.mono (by simp)))
  obtain ⟨ao1, cap1, rfl⟩ := own_slice o1
  have V1 := IView.of_own o1
  have g2 := decode_any _ [16] _ (View.laid w1 [16] (fun x hx => by simp at hx; omega) (by unfold maxLen; decide))
  rw [dec_known2] at g2
  have G2 := hidIt g2
  have HV1 := hidIt V1
  clear g2 G1 B0 b1 o1 V1
  go_wp2_with fail
  refine G2.out.mono ?_
  rintro e w2 ⟨b2, v2, rfl, o2⟩
  obtain ⟨ao2, cap2, rfl⟩ := own_slice o2
  have b2' := (below_alloc w1 (.cells #[.int .u8 16] 5)).trans (b2.mono (by simp))
  have B2 := hidIt (B1.out.trans (b2'.mono B1.out.size))
  have HV2 := hidIt (HV1.out.below b2')
  clear o2 b2 b2' B1 HV1 G2
  have G3 := hidIt (i_any ⟨0, 16, -1, 0⟩ w2)
  unfold IN.val at G3
  go_wp2_with fail
  refine G3.out.mono ?_
  rintro e w3 ⟨rfl, b3⟩
  have B3 := hidIt (B2.out.trans (b3.mono B2.out.size))
  have HV3 := hidIt (HV2.out.below b3)
  have G4 := hidIt (i_any ⟨2, 167, 0, 0⟩ w3)
  unfold IN.val at G4
  clear b3 B2 HV2 G3
  go_wp2_with fail
  refine G4.out.mono ?_
  rintro e w4 ⟨rfl, b4⟩
  have B4 := hidIt (B3.out.trans (b4.mono B3.out.size))
  have HV4 := HV3.out.below b4
  have b5 := below_alloc w4 (.cells #[.int .i64 0, .int .i64 16, .int .i64 (-1), .int .i64 0, .int .i64 2, .int .i64 167, .int .i64 0, .int .i64 0] 33)
  have G5 := hidIt (isame_any _ _ _ _ (HV4.below b5) (IView.laid2 w4 ⟨0, 16, -1, 0⟩ ⟨2, 167, 0, 0⟩))
  have B5 := hidIt (B4.out.trans (b5.mono B4.out.size))
  clear b4 B3 HV3 G4 HV4 b5
  go_wp2_with fail
  refine G5.out.mono ?_
  rintro e w6 ⟨rfl, q, hww⟩
  have B6 := hidIt (below_drewN B5.out q)
  rw [← hww] at B6
  have g6 := name_any 124 w6
  rw [name_known] at g6
  have G6 := hidIt g6
  clear hww B5 g6 G5
  go_wp2_with fail
  refine G6.out.mono ?_
  rintro e w7 ⟨rfl, b7⟩
  have B7 := hidIt (B6.out.trans (b7.mono B6.out.size))
  clear b7 G6 B6
  go_wp2
  go_ret
  exact ⟨rfl, B7.out⟩
end Go.Proofs.Ytcmneinhcfejhaa
