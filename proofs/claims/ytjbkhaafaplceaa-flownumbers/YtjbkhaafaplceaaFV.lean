/- FlowNumbers, walked. -/
import Derived.Test.YtjbkhaafaplceaaFU
namespace Go.Proofs.Ytjbkhaafaplceaa
open Go.RowKit

def lR : List IN := [⟨0, 177, 0, 0⟩]
def lG1 : List IN := [⟨0, 167, 1, 0⟩]
def lG0 : List IN := [⟨0, 167, 0, 0⟩]
def h00 : List HN := [⟨0, 0, 0, ⟨#[]⟩⟩]
def h01 : List HN := [⟨0, 1, 0, ⟨#[]⟩⟩]
def f00 : List FN := [⟨0, none, 0, 0, none, 0, 0⟩, ⟨0, none, 0, 0, none, 0, 0⟩]
theorem chk_nil : checkZ [] [] [] = (17, 0) := by kernel_rfl
theorem chk_h00 : checkZ lR h00 [] = (16, 0) := by kernel_rfl
theorem chk_f00 : checkZ lR h01 f00 = (21, 0) := by kernel_rfl
theorem chk_g1 : checkZ lG1 [] [] = (16, 0) := by kernel_rfl
theorem next_g0 : nextZ lG0 0 = [0] := by kernel_rfl
theorem next_r5 : nextZ lR 5 = [] := by kernel_rfl
theorem find_r1 : findZ lR 1 = -1 := by kernel_rfl
theorem find_r0 : findZ lR 0 = 0 := by kernel_rfl
theorem HView.laid1 (w : World) (x : HN) : HView (w.alloc (.cells #[.int .i64 x.f, .int .i64 x.t, .int .i64 x.a, .string x.ty] 30)) (.slice (some ⟨w.heap.size, 0, none⟩) 1 1) [x] := by
  refine ⟨_, _, rfl, Nat.le_refl _, by decide, .inr ⟨_, _, rfl, fun j y hj => ?_⟩⟩
  match j, hj with
  | 0, hj => simp at hj; subst hj; exact hbox_at w x
  | j + 1, hj => simp at hj
theorem FView.laid2 (w : World) : FView (w.alloc (.cells #[.int .i64 0, .slice none 0 0, .slice none 0 0, .int .i64 0, .slice none 0 0, .slice none 0 0] 34)) (.slice (some ⟨w.heap.size, 0, none⟩) 2 2) f00 := by
  have h := heap_alloc_new w (.cells #[.int .i64 0, .slice none 0 0, .slice none 0 0, .int .i64 0, .slice none 0 0, .slice none 0 0] 34)
  refine ⟨_, _, rfl, Nat.le_refl _, by decide, .inr ⟨_, _, rfl, fun j y hj => ?_⟩⟩
  match j, hj with
  | 0, hj => simp [f00] at hj; subst hj; exact ⟨cell_row h 0 rfl, cell_row h 1 rfl, cell_row h 2 rfl⟩
  | 1, hj => simp [f00] at hj; subst hj; exact ⟨cell_row h 3 rfl, cell_row h 4 rfl, cell_row h 5 rfl⟩
  | j + 2, hj => simp [f00] at hj
set_option maxRecDepth 8000 in
set_option maxHeartbeats 8000000 in
theorem numbers_any (w : World) : Calls Try.prog 3 #[] w fun e w' => e = .returned (.bool true) ∧ Below w.heap.size w w' := by
  have GI := hidIt (fun (p op a : Int) W => inst_any p op a W)
  have GK := hidIt (fun W => known_any W)
  have HB := hidIt (Below.refl w.heap.size w)
  go_enter Try.func3, Try.ntmps3
  go_wp2_with fail
  refine (GI.out _ _ _ _).mono ?_
  rintro e w1 ⟨rfl, b⟩
  have HB2 := hidIt (HB.out.trans (b.mono HB.out.size))
  clear HB b
  have HB := HB2
  clear HB2
  have bA := below_alloc w1 (.cells #[.int .i64 0, .int .i64 177, .int .i64 0, .int .i64 0] 23)
  have HB2 := hidIt (HB.out.trans (bA.mono HB.out.size))
  clear HB bA
  have HB := HB2
  clear HB2
  have VR : Hid (IView (w1.alloc (.cells #[.int .i64 0, .int .i64 177, .int .i64 0, .int .i64 0] 23)) (.slice (some ⟨w1.heap.size, 0, none⟩) 1 1) lR) := IView.laidN w1 lR (by decide)
  have GC := hidIt (check_any _ _ _ [] [] [] (w1.alloc (.cells #[.int .i64 0, .int .i64 177, .int .i64 0, .int .i64 0] 23)) (IView.empty _) (HView.nil _) (FView.nil _) (fun x hx => by simp at hx))
  rw [chk_nil] at GC
  unfold Ans at GC
  go_wp2_with fail
  generalize w1.heap.size = br at *
  refine GC.out.mono ?_
  rintro e w2 ⟨rfl, b⟩
  clear GC
  have HB2 := hidIt (HB.out.trans (b.mono HB.out.size))
  have VR2 := hidIt (VR.out.below b)
  clear VR
  have VR := VR2
  clear VR2
  clear HB b
  have HB := HB2
  clear HB2
  have bA := below_alloc w2 (.cells #[.int .i64 0, .int .i64 0, .int .i64 0, .string ⟨#[]⟩] 30)
  have HB2 := hidIt (HB.out.trans (bA.mono HB.out.size))
  have VR2 := hidIt (VR.out.below bA)
  clear VR
  have VR := VR2
  clear VR2
  clear HB bA
  have HB := HB2
  clear HB2
  have GC := hidIt (check_any _ _ _ lR h00 [] (w2.alloc (.cells #[.int .i64 0, .int .i64 0, .int .i64 0, .string ⟨#[]⟩] 30)) VR.out (HView.laid1 w2 ⟨0, 0, 0, ⟨#[]⟩⟩) (FView.nil _) (places_of _ (by kernel_rfl)))
  rw [chk_h00] at GC
  unfold Ans at GC
  go_wp2_with fail
  refine GC.out.mono ?_
  rintro e w3 ⟨rfl, b⟩
  clear GC
  have HB2 := hidIt (HB.out.trans (b.mono HB.out.size))
  have VR2 := hidIt (VR.out.below b)
  clear VR
  have VR := VR2
  clear VR2
  clear HB b
  have HB := HB2
  clear HB2
  have bA := below_alloc w3 (.cells #[.int .i64 0, .int .i64 1, .int .i64 0, .string ⟨#[]⟩] 30)
  have HB2 := hidIt (HB.out.trans (bA.mono HB.out.size))
  have VR2 := hidIt (VR.out.below bA)
  clear VR
  have VR := VR2
  clear VR2
  clear HB bA
  have HB := HB2
  clear HB2
  have bA := below_alloc (w3.alloc (.cells #[.int .i64 0, .int .i64 1, .int .i64 0, .string ⟨#[]⟩] 30)) (.cells #[.int .i64 0, .slice none 0 0, .slice none 0 0, .int .i64 0, .slice none 0 0, .slice none 0 0] 34)
  have HB2 := hidIt (HB.out.trans (bA.mono HB.out.size))
  have VR2 := hidIt (VR.out.below bA)
  clear VR
  have VR := VR2
  clear VR2
  clear HB bA
  have HB := HB2
  clear HB2
  have GC := hidIt (check_any _ _ _ lR h01 f00 ((w3.alloc (.cells #[.int .i64 0, .int .i64 1, .int .i64 0, .string ⟨#[]⟩] 30)).alloc (.cells #[.int .i64 0, .slice none 0 0, .slice none 0 0, .int .i64 0, .slice none 0 0, .slice none 0 0] 34)) VR.out ((HView.laid1 w3 ⟨0, 1, 0, ⟨#[]⟩⟩).below (below_alloc _ _)) (FView.laid2 _) (places_of _ (by kernel_rfl)))
  rw [chk_f00] at GC
  unfold Ans at GC
  rw [show (w3.alloc (.cells #[.int .i64 0, .int .i64 1, .int .i64 0, .string ⟨#[]⟩] 30)).heap.size = w3.heap.size + 1 by simp] at GC
  go_wp2_with fail
  refine GC.out.mono ?_
  rintro e w4 ⟨rfl, b⟩
  clear GC
  have HB2 := hidIt (HB.out.trans (b.mono HB.out.size))
  have VR2 := hidIt (VR.out.below b)
  clear VR
  have VR := VR2
  clear VR2
  clear HB b
  have HB := HB2
  clear HB2
  go_wp2_with fail
  refine (GI.out _ _ _ _).mono ?_
  rintro e w5 ⟨rfl, b⟩
  have HB2 := hidIt (HB.out.trans (b.mono HB.out.size))
  have VR2 := hidIt (VR.out.below b)
  clear VR
  have VR := VR2
  clear VR2
  clear HB b
  have HB := HB2
  clear HB2
  have bA := below_alloc w5 (.cells #[.int .i64 0, .int .i64 167, .int .i64 1, .int .i64 0] 23)
  have HB2 := hidIt (HB.out.trans (bA.mono HB.out.size))
  have VR2 := hidIt (VR.out.below bA)
  clear VR
  have VR := VR2
  clear VR2
  clear HB bA
  have HB := HB2
  clear HB2
  have VG : IView (w5.alloc (.cells #[.int .i64 0, .int .i64 167, .int .i64 1, .int .i64 0] 23)) (.slice (some ⟨w5.heap.size, 0, none⟩) 1 1) lG1 := IView.laidN w5 lG1 (by decide)
  have GC := hidIt (check_any _ _ _ lG1 [] [] (w5.alloc (.cells #[.int .i64 0, .int .i64 167, .int .i64 1, .int .i64 0] 23)) VG (HView.nil _) (FView.nil _) (places_of _ (by kernel_rfl)))
  rw [chk_g1] at GC
  unfold Ans at GC
  clear VG
  go_wp2_with fail
  refine GC.out.mono ?_
  rintro e w6 ⟨rfl, b⟩
  clear GC
  have HB2 := hidIt (HB.out.trans (b.mono HB.out.size))
  have VR2 := hidIt (VR.out.below b)
  clear VR
  have VR := VR2
  clear VR2
  clear HB b
  have HB := HB2
  clear HB2
  go_wp2_with fail
  refine (GI.out _ _ _ _).mono ?_
  rintro e w7 ⟨rfl, b⟩
  have HB2 := hidIt (HB.out.trans (b.mono HB.out.size))
  have VR2 := hidIt (VR.out.below b)
  clear VR
  have VR := VR2
  clear VR2
  clear HB b
  have HB := HB2
  clear HB2
  have bA := below_alloc w7 (.cells #[.int .i64 0, .int .i64 167, .int .i64 0, .int .i64 0] 23)
  have HB2 := hidIt (HB.out.trans (bA.mono HB.out.size))
  have VR2 := hidIt (VR.out.below bA)
  clear VR
  have VR := VR2
  clear VR2
  clear HB bA
  have HB := HB2
  clear HB2
  have VG : IView (w7.alloc (.cells #[.int .i64 0, .int .i64 167, .int .i64 0, .int .i64 0] 23)) (.slice (some ⟨w7.heap.size, 0, none⟩) 1 1) lG0 := IView.laidN w7 lG0 (by decide)
  have GC := hidIt (next_any _ lG0 0 (w7.alloc (.cells #[.int .i64 0, .int .i64 167, .int .i64 0, .int .i64 0] 23)) VG)
  rw [next_g0] at GC
  clear VG
  go_wp2_with fail
  refine GC.out.mono ?_
  rintro e w8 ⟨vn, rfl, hn, b⟩
  clear GC
  have HNV := hidIt (hn.view.below (below_alloc w8 (.cells #[.int .i64 0] 3)))
  obtain ⟨aon, capn, rfl⟩ := own_slice hn
  clear hn
  have HB2 := hidIt (HB.out.trans (b.mono HB.out.size))
  have VR2 := hidIt (VR.out.below b)
  clear VR
  have VR := VR2
  clear VR2
  clear HB b
  have HB := HB2
  clear HB2
  have bA := below_alloc w8 (.cells #[.int .i64 0] 3)
  have HB2 := hidIt (HB.out.trans (bA.mono HB.out.size))
  have VR2 := hidIt (VR.out.below bA)
  clear VR
  have VR := VR2
  clear VR2
  clear HB bA
  have HB := HB2
  clear HB2
  have GC := hidIt (nsame_any _ _ [0] (w8.alloc (.cells #[.int .i64 0] 3)) HNV.out (NView.laid1 w8 0))
  clear HNV
  go_wp2_with fail
  refine GC.out.mono ?_
  rintro e w9 ⟨rfl, q, hq⟩
  have HB2 := hidIt (below_drewN HB.out q)
  have VR2 := hidIt (VR.out.drewN q)
  rw [← hq] at HB2 VR2
  clear HB VR GC hq
  have HB := HB2
  have VR := VR2
  clear HB2 VR2
  have GC := hidIt (next_any _ lR 5 w9 VR.out)
  rw [next_r5] at GC
  go_wp2_with fail
  refine GC.out.mono ?_
  rintro e w10 ⟨v5, rfl, h5, b⟩
  clear GC
  obtain ⟨ao5, cap5, rfl⟩ := own_slice h5
  clear h5
  have HB2 := hidIt (HB.out.trans (b.mono HB.out.size))
  have VR2 := hidIt (VR.out.below b)
  clear VR
  have VR := VR2
  clear VR2
  clear HB b
  have HB := HB2
  clear HB2
  have GC := hidIt (find_any _ lR 1 w10 VR.out)
  rw [find_r1] at GC
  go_wp2_with fail
  refine GC.out.mono ?_
  rintro e w11 ⟨rfl, b⟩
  clear GC
  have HB2 := hidIt (HB.out.trans (b.mono HB.out.size))
  have VR2 := hidIt (VR.out.below b)
  clear VR
  have VR := VR2
  clear VR2
  clear HB b
  have HB := HB2
  clear HB2
  have GC := hidIt (find_any _ lR 0 w11 VR.out)
  rw [find_r0] at GC
  go_wp2_with fail
  refine GC.out.mono ?_
  rintro e w12 ⟨rfl, b⟩
  clear GC
  have HB2 := hidIt (HB.out.trans (b.mono HB.out.size))
  have VR2 := hidIt (VR.out.below b)
  clear VR
  have VR := VR2
  clear VR2
  clear HB b
  have HB := HB2
  clear HB2
  go_wp2_with fail
  refine (GK.out _).mono ?_
  rintro e w13 ⟨rfl, b⟩
  have HB2 := hidIt (HB.out.trans (b.mono HB.out.size))
  have VR2 := hidIt (VR.out.below b)
  clear VR
  have VR := VR2
  clear VR2
  clear HB b
  have HB := HB2
  clear HB2
  go_wp2_with fail
  go_ret
  exact ⟨rfl, HB.out⟩
end Go.Proofs.Ytjbkhaafaplceaa
