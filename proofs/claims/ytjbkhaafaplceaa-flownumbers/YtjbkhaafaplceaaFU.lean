/- known of the statements' package: walked. -/
import Derived.Test.YtjbkhaafaplceaaFT
namespace Go.Proofs.Ytjbkhaafaplceaa
open Go.RowKit

set_option maxRecDepth 8000 in
set_option maxHeartbeats 4000000 in
theorem known_any (w : World) : Calls Try.prog 13 #[] w fun e w' => e = .returned (.bool true) ∧ Below w.heap.size w w' := by
  have GI := hidIt (fun (p op a : Int) W => inst_any p op a W)
  have HB := hidIt (Below.refl w.heap.size w)
  go_enter Try.func13, Try.ntmps13
  go_wp2_with fail
  refine (GI.out _ _ _ _).mono ?_
  rintro e w1 ⟨rfl, b1⟩
  have HB1 := hidIt (HB.out.trans (b1.mono HB.out.size))
  clear HB b1
  have V1 : IView (w1.alloc (.cells #[.int .i64 0, .int .i64 0, .int .i64 0, .int .i64 0] 23)) (.slice (some ⟨w1.heap.size, 0, none⟩) 1 1) lNop := IView.laidN w1 lNop (by decide)
  have G1 := hidIt (check_any _ _ _ lNop [] [] _ V1 (HView.nil _) (FView.nil _) (places_of _ (by kernel_rfl)))
  rw [chk_nop] at G1
  unfold Ans at G1
  have HB2 := hidIt (HB1.out.trans ((below_alloc w1 (.cells #[.int .i64 0, .int .i64 0, .int .i64 0, .int .i64 0] 23)).mono HB1.out.size))
  clear V1 HB1
  go_wp2_with fail
  refine G1.out.mono ?_
  rintro e w2 ⟨rfl, b2⟩
  have HB3 := hidIt (HB2.out.trans (b2.mono HB2.out.size))
  clear HB2 b2 G1
  go_wp2_with fail
  refine (GI.out _ _ _ _).mono ?_
  rintro e w3 ⟨rfl, b3⟩
  have HB4 := hidIt (HB3.out.trans (b3.mono HB3.out.size))
  clear HB3 b3
  go_wp2_with fail
  refine (GI.out _ _ _ _).mono ?_
  rintro e w4 ⟨rfl, b4⟩
  have HB5 := hidIt (HB4.out.trans (b4.mono HB4.out.size))
  clear HB4 b4
  have V2 : IView (w4.alloc (.cells #[.int .i64 0, .int .i64 167, .int .i64 3, .int .i64 0, .int .i64 3, .int .i64 167, .int .i64 0, .int .i64 0] 23)) (.slice (some ⟨w4.heap.size, 0, none⟩) 2 2) lGo := IView.laidN w4 lGo (by decide)
  have G2 := hidIt (blocks_any _ _ lGo [] _ V2 (HView.nil _) (by decide))
  have HB6 := hidIt (HB5.out.trans ((below_alloc w4 (.cells #[.int .i64 0, .int .i64 167, .int .i64 3, .int .i64 0, .int .i64 3, .int .i64 167, .int .i64 0, .int .i64 0] 23)).mono HB5.out.size))
  clear V2 HB5
  go_wp2_with fail
  refine G2.out.mono ?_
  rintro e w5 ⟨ao, cap, bl, nu, rfl, hbk, hnb, hnl, b5, hkl⟩
  obtain ⟨e5, hpv⟩ := pv_go (cap := cap) hbk hnb hkl
  subst e5
  have HB7 := hidIt (HB6.out.trans (b5.mono HB6.out.size))
  have HPV := hidIt (hpv.below (((below_alloc w5 (.cells #[.int .i64 1] 3)).alloc (below_alloc w5 (.cells #[.int .i64 1] 3)).size (.cells #[.int .i64 0] 3)).alloc (Nat.le_trans (below_alloc w5 (.cells #[.int .i64 1] 3)).size (below_alloc _ (.cells #[.int .i64 0] 3)).size) (.cells #[.int .i64 0, .int .i64 1, .slice (some ⟨w5.heap.size, 0, none⟩) 1 1, .int .i64 1, .int .i64 2, .slice (some ⟨w5.heap.size + 1, 0, none⟩) 1 1] 68)))
  have GS := hidIt (same_any _ _ _ _ _ HPV.out (pv_lit w5))
  have hlen2 : ([(0, 1), (1, 2)] : List (Nat × Nat)).length = 2 := rfl
  clear HB6 b5 G2 hpv hkl hnb hbk hnl HPV
  rw [hlen2]
  clear hlen2
  have HB8 := hidIt (HB7.out.trans ((((below_alloc w5 (.cells #[.int .i64 1] 3)).alloc (below_alloc w5 (.cells #[.int .i64 1] 3)).size (.cells #[.int .i64 0] 3)).alloc (Nat.le_trans (below_alloc w5 (.cells #[.int .i64 1] 3)).size (below_alloc _ (.cells #[.int .i64 0] 3)).size) (.cells #[.int .i64 0, .int .i64 1, .slice (some ⟨w5.heap.size, 0, none⟩) 1 1, .int .i64 1, .int .i64 2, .slice (some ⟨w5.heap.size + 1, 0, none⟩) 1 1] 68)).mono HB7.out.size))
  clear HB7
  go_wp2_with fail
  refine GS.out.mono ?_
  rintro e w6 ⟨rfl, q, hq⟩
  have HB9 := hidIt (below_drewN HB8.out q)
  rw [← hq] at HB9
  clear hq HB8 GS
  go_wp2_with fail
  refine (GI.out _ _ _ _).mono ?_
  rintro e w7 ⟨rfl, b7⟩
  have HB10 := hidIt (HB9.out.trans (b7.mono HB9.out.size))
  clear HB9 b7
  go_wp2_with fail
  refine (GI.out _ _ _ _).mono ?_
  rintro e w8 ⟨rfl, b8⟩
  have HB11 := hidIt (HB10.out.trans (b8.mono HB10.out.size))
  clear HB10 b8 GI
  have V3 : IView (w8.alloc (.cells #[.int .i64 0, .int .i64 177, .int .i64 0, .int .i64 0, .int .i64 1, .int .i64 177, .int .i64 0, .int .i64 0] 23)) (.slice (some ⟨w8.heap.size, 0, none⟩) 2 2) lRet := IView.laidN w8 lRet (by decide)
  have G3 := hidIt (reach_any _ _ lRet [] _ V3 (HView.nil _) (by decide))
  have HB12 := hidIt (HB11.out.trans ((below_alloc w8 (.cells #[.int .i64 0, .int .i64 177, .int .i64 0, .int .i64 0, .int .i64 1, .int .i64 177, .int .i64 0, .int .i64 0] 23)).mono HB11.out.size))
  clear V3 HB11
  go_wp2_with fail
  refine G3.out.mono ?_
  rintro e w9 ⟨g, r, rfl, hg, hrow, hri, b9⟩
  have er := reach_ret hri
  subst er
  have HB13 := hidIt (HB12.out.trans (b9.mono HB12.out.size))
  have BV := (BView.row_of (n := 2) hrow rfl (by decide)).below (below_alloc w9 (.cells #[.bool true, .bool false] 4))
  have BL : BView (w9.alloc (.cells #[.bool true, .bool false] 4)) (.slice (some ⟨w9.heap.size, 0, none⟩) 2 2) [true, false] := BView.laidN w9 [true, false] (by decide)
  have GB := hidIt (bsame_any _ _ _ _ BV BL)
  have HB14 := hidIt (HB13.out.trans ((below_alloc w9 (.cells #[.bool true, .bool false] 4)).mono HB13.out.size))
  have hl2 : lRet.length = 2 := rfl
  rw [hl2]
  clear HB12 HB13 b9 hg hrow hri BV BL hl2 G3
  go_wp2_with fail
  refine GB.out.mono ?_
  rintro e w10 ⟨rfl, q2, hq2⟩
  have HB15 := hidIt (below_drewN HB14.out q2)
  rw [← hq2] at HB15
  clear hq2 HB14 GB
  go_wp2_with fail
  go_ret
  exact ⟨rfl, HB15.out⟩
end Go.Proofs.Ytjbkhaafaplceaa
