/- The document's own Encode over the class A. -/
import Derived.Test.YthagaldpopnoeaaGreatDoorYP
import Derived.Test.YthagaldpopnoeaaGreatDoorDRN
import Derived.Test.YthagaldpopnoeaaGreatDoorYK
namespace Go.Proofs.YthagaldpopnoeaaGreatDoor
open Go.RowKit D
def vA : Value := .agg #[.string ⟨#[65]⟩, .string ⟨#[]⟩, .slice none 0 0, .slice none 0 0, .slice none 0 0]
theorem rname_A (w : World) : Calls Tryz.prog 44 #[.string ⟨#[65]⟩] w fun e w' => e = .returned (.bool true) ∧ w' = w := by
  have := rname_any ⟨#[65]⟩ w (by decide)
  rw [show nameB (ByteArray.mk #[65]).data.toList = true from rfl] at this
  exact this
set_option maxRecDepth 8000 in
set_option maxHeartbeats 2000000 in
theorem rright_A (w : World) : Calls Tryz.prog 15 #[vA] w fun e w' => e = .returned (.int .i64 0) ∧ Below w.heap.size w w' := by
  have hN := fun W => D.hidIt (rname_A W)
  have B0 := D.hidIt (balloc w (.cells #[.string ⟨#[65]⟩, .string ⟨#[]⟩, .slice none 0 0, .slice none 0 0, .slice none 0 0] 33))
  unfold vA
  go_enter Tryz.func15, Tryz.ntmps15
  go_wp2_with fail
  refine (hN _).out.mono ?_
  rintro e w' ⟨rfl, hww⟩; cases hww
  clear hN
  go_wp2
  go_loopw [3] (fun i wr => i = .int .i64 0 ∧ wr = w.alloc (.cells #[.string ⟨#[65]⟩, .string ⟨#[]⟩, .slice none 0 0, .slice none 0 0, .slice none 0 0] 33)) (fun _ _ => 0)
  case atStart => exact ⟨rfl, rfl⟩
  case round =>
    obtain ⟨rfl, rfl⟩ := hrel
    go_wp2
    go_loopw [4] (fun i wr => i = .int .i64 0 ∧ wr = w.alloc (.cells #[.string ⟨#[65]⟩, .string ⟨#[]⟩, .slice none 0 0, .slice none 0 0, .slice none 0 0] 33)) (fun _ _ => 0)
    case atStart => exact ⟨rfl, rfl⟩
    case round =>
      obtain ⟨rfl, rfl⟩ := hrel
      go_wp2
      go_loopw [7] (fun i wr => i = .int .i64 0 ∧ wr = w.alloc (.cells #[.string ⟨#[65]⟩, .string ⟨#[]⟩, .slice none 0 0, .slice none 0 0, .slice none 0 0] 33)) (fun _ _ => 0)
      case atStart => exact ⟨rfl, rfl⟩
      case round =>
        obtain ⟨rfl, rfl⟩ := hrel
        go_wp2
        go_ret
        exact ⟨rfl, B0.out⟩
set_option maxRecDepth 8000 in
set_option maxHeartbeats 2000000 in
theorem rwrite_none (v : Value) (l : List Int) (w : World) (hv : View w v l) (hl : l.length ≤ 1099511627776) : Calls Tryz.prog 27 #[v, .slice none 0 0] w fun e w' => Below w.heap.size w w' ∧ ∃ u, e = .returned (.tuple #[u, .int .i64 0]) ∧ w'.ownsRow w.heap.size 5 1 u (l ++ be 0 2).length (bcells (l ++ be 0 2)) := by
  have hN := D.hidIt (refnum2 v l 0 w hv hl)
  clear hv hl
  go_enter Tryz.func27, Tryz.ntmps27
  go_wp2_with fail
  refine hN.out.mono ?_
  rintro e w1 ⟨b1, u, rfl, o1⟩
  have B1 := D.hidIt b1
  have O1 := D.hidIt o1
  clear b1 o1 hN
  go_wp2
  go_loopw [6, 7] (fun o i wr => o = u ∧ i = .int .i64 0 ∧ wr = w1) (fun _ _ _ => 0)
  case atStart => exact ⟨rfl, rfl, rfl⟩
  case round =>
    obtain ⟨rfl, rfl, rfl⟩ := hrel
    go_wp2
    go_ret2
    exact ⟨B1.out, _, rfl, O1.out⟩

theorem text_A : wtextZ ⟨#[65]⟩ = [0, 1, 65] := by first | rfl | decide | kernel_rfl
theorem text_0 : wtextZ ⟨#[]⟩ = [0, 0] := by first | rfl | decide | kernel_rfl
def lA6 : List Int := [202, 254, 186, 190, 0, 1]
def boxA : Obj := .cells #[.string ⟨#[65]⟩, .string ⟨#[]⟩, .slice none 0 0, .slice none 0 0, .slice none 0 0] 33
set_option maxRecDepth 8000 in
set_option maxHeartbeats 4000000 in
theorem rencode_A (w : World) : Calls Tryz.prog 9 #[vA] w fun e w' => Below w.heap.size w w' ∧ ∃ ao c, e = .returned (.tuple #[.slice ao 15 c, .int .i64 0]) ∧ View w' (.slice ao 15 c) [202, 254, 186, 190, 0, 1, 0, 0, 0, 1, 65, 0, 0, 0, 0] := by
  obtain ⟨i0, hi, hz0, hz1, hz2⟩ := info_parts Tryz.info5
  have gR := fun W => D.hidIt (rright_A W)
  unfold vA at gR ⊢
  have B0 := D.hidIt (balloc w boxA)
  have X0 : Hid ((w.alloc boxA).heap[w.heap.size]? = some boxA) := heap_alloc_new _ _
  unfold boxA at B0 X0
  go_enter Tryz.func9, Tryz.ntmps9
  go_wp2_with fail
  refine (gR _).out.mono ?_
  rintro e w1 ⟨rfl, b1⟩
  have B1 := D.hidIt (next B0.out b1)
  have X1 : Hid (w1.heap[w.heap.size]? = some boxA) := (b1.block _ (by simp)).trans X0.out
  unfold boxA at X1
  clear b1 gR B0 X0
  have Z1 := B1.out.size
  have hlt := (Array.getElem?_eq_some_iff.1 X1.out).1
  have V1 : View (w1.alloc (.cells (bcells lA6).toArray 5)) (.slice (some ⟨w1.heap.size, 0, none⟩) 6 6) lA6 := View.laid w1 lA6 (by intro x hx; simp [lA6] at hx; omega) (by unfold maxLen; decide)
  have gW := D.hidIt (rwrite_none _ _ _ V1 (by decide))
  have B2 := D.hidIt (balloc w1 (.cells (bcells lA6).toArray 5))
  have X2 := D.hidIt (((balloc w1 (.cells (bcells lA6).toArray 5)).block _ hlt).trans X1.out)
  simp only [lA6, bcells, List.map_cons, List.map_nil] at gW B2 X2
  have a2 := cell_row X2.out 2 rfl
  clear V1
  go_wp2_with fail
  refine gW.out.mono ?_
  rintro e w3 ⟨b3, u3, rfl, o3⟩
  have B3 := D.hidIt (next B1.out (next B2.out b3))
  have X3 := D.hidIt ((b3.block _ (by simp; omega)).trans X2.out)
  have U3 : Hid (View w3 u3 [202, 254, 186, 190, 0, 1, 0, 0]) := View.of_own (l := [202, 254, 186, 190, 0, 1, 0, 0]) o3 (by intro x hx; simp at hx; omega)
  obtain ⟨ao3, c3, rfl⟩ := own_slice o3
  clear b3 o3 gW B1 B2 X1 X2 a2 hlt Z1
  have hlt := (Array.getElem?_eq_some_iff.1 X3.out).1
  have hS2 : Hid (w3.drew.cell? ⟨w.heap.size, 0, none⟩ = some (.string ⟨#[65]⟩) ∧ w3.drew.cell? ⟨w.heap.size, 1, none⟩ = some (.string ⟨#[]⟩)) := ⟨cell_row X3.out 0 rfl, cell_row X3.out 1 rfl⟩
  have hS3 : Hid (∀ W3, Below w3.drew.heap.size w3.drew W3 → (W3.cell? ⟨w.heap.size, 0, none⟩ = some (.string ⟨#[65]⟩) ∧ W3.cell? ⟨w.heap.size, 1, none⟩ = some (.string ⟨#[]⟩))) := by
    intro W3 h
    have := (h.block w.heap.size hlt).trans X3.out
    exact ⟨cell_row this 0 rfl, cell_row this 1 rfl⟩
  have gT : Hid (Calls Tryz.prog 28 #[.slice ao3 8 c3, .string ⟨#[65]⟩] w3.drew fun e w' => Below w3.drew.heap.size w3.drew w' ∧ ∃ u, e = .returned u ∧ w'.ownsRow w3.drew.heap.size 5 1 u 11 (bcells [202, 254, 186, 190, 0, 1, 0, 0, 0, 1, 65])) := by
    have := reftext_any _ _ ⟨#[65]⟩ w3.drew (U3.out.below (below_drewN (Below.refl _ _) 1)) (by decide) (by decide)
    rw [text_A] at this
    exact this
  have gU : ∀ (W : World) (ao : Option Addr) (c : Nat), View W (.slice ao 11 c) [202, 254, 186, 190, 0, 1, 0, 0, 0, 1, 65] → Hid (Calls Tryz.prog 28 #[.slice ao 11 c, .string ⟨#[]⟩] W fun e w' => Below W.heap.size W w' ∧ ∃ u, e = .returned u ∧ w'.ownsRow W.heap.size 5 1 u 13 (bcells [202, 254, 186, 190, 0, 1, 0, 0, 0, 1, 65, 0, 0])) := by
    intro W ao c h
    have := reftext_any _ _ ⟨#[]⟩ W h (by decide) (by decide)
    rw [text_0] at this
    exact this
  have B3' : Hid (Below w.heap.size w w3.drew) := below_drewN B3.out 1
  clear U3
  go_wp2_with fail
  go_region_held3 (fun W' => W'.cell? ⟨w.heap.size, 0, none⟩ = some (.string ⟨#[65]⟩) ∧ W'.cell? ⟨w.heap.size, 1, none⟩ = some (.string ⟨#[]⟩)) (first | exact hS2.out | exact hS3.out _ (by assumption))
    (first
      | (go_at_call 28; refine (gU _ _ _ V4).out.mono ?_; rintro e w5 ⟨b5', u5, rfl, o5⟩; have b5 := next b4 b5'; obtain ⟨ao5, c5, rfl⟩ := own_slice o5)
      | (go_at_call 28; refine gT.out.mono ?_; rintro e w4 ⟨b4, u4, rfl, o4⟩; have V4 := View.of_own (l := [202, 254, 186, 190, 0, 1, 0, 0, 0, 1, 65]) o4 (by intro x hx; simp at hx; omega); obtain ⟨ao4, c4, rfl⟩ := own_slice o4))
  have B5 := D.hidIt (next B3'.out b5)
  have X5 := D.hidIt ((b5.block _ hlt).trans X3.out)
  have Z5 := b5'.size
  have Z4 := b4.size
  have hlt5 := (Array.getElem?_eq_some_iff.1 X5.out).1
  have O5 := o5.alloc (.cells #[.int .u8 0] 5)
  clear b4 b5 b5' V4 o4 gT gU hS2 hS3 B3 B3'
  have a3 := cell_row X5.out 3 rfl
  go_wp2_with (at_builtin; refine wpList_append_own_at _ rfl _ _ 22 rfl w4.heap.size 5 i0 (.int .u8 0) 1 1 Tryz.underlying22 hi hz0 hz1 hz2 rfl (by decide) _ _ _ rfl (o5.alloc _) _ 1 1 [_] rfl rfl (cell_one_new _ _ _) (by intro u hu; simp at hu; subst hu; rfl) (by unfold maxLen; omega) (by omega) (by simp; omega) ?_; intro v6 w6 o6 g6 _ _)
  obtain ⟨ao6, c6, rfl⟩ := own_slice o6
  have hb4 : w.heap.size < w4.heap.size := Nat.lt_of_lt_of_le hlt Z4
  have B6 : Hid (Below w.heap.size w w6) := (B5.out.alloc (by omega) _).grown g6 (by simp; omega) (fun k h => by have := (o5.lt k h).1; omega)
  have X6 : Hid (w6.heap[w.heap.size]? = some boxA) := by
    have h1 := g6.block w.heap.size (by simp; omega) (fun e => by have := (o5.lt _ e.symm).1; omega)
    exact h1.trans ((heap_alloc_old w5 _ (by omega)).trans X5.out)
  unfold boxA at X6
  have a3 := cell_row X6.out 3 rfl
  have a4 := cell_row X6.out 4 rfl
  have hlt6 := (Array.getElem?_eq_some_iff.1 X6.out).1
  have z6 := g6.size
  rw [show (w5.alloc (.cells #[.int .u8 0] 5)).heap.size = w5.heap.size + 1 by simp] at z6
  clear g6 B5 X5 O5 o5
  go_wp2
  go_loopw [5, 7] (fun b i wr => b = .slice ao6 14 c6 ∧ i = .int .i64 0 ∧ wr = w6) (fun _ _ _ => 0)
  case atStart => exact ⟨rfl, rfl, rfl⟩
  case round =>
    obtain ⟨rfl, rfl, hww⟩ := hrel
    cases hww
    go_wp2_with (at_builtin; refine wpList_append_own_at _ rfl _ _ 22 rfl w4.heap.size 5 i0 (.int .u8 0) 1 1 Tryz.underlying22 hi hz0 hz1 hz2 rfl (by decide) _ _ _ rfl (o6.alloc _) _ 1 1 [_] rfl rfl (cell_one_new _ _ _) (by intro u hu; simp at hu; subst hu; rfl) (by unfold maxLen; omega) (by omega) (by simp; omega) ?_; intro v7 w7 o7 g7 _ _)
    obtain ⟨ao7, c7, rfl⟩ := own_slice o7
    have B7 : Hid (Below w.heap.size w w7) := (B6.out.alloc (by omega) _).grown g7 (by simp; omega) (fun k h => by have := (o6.lt k h).1; omega)
    have X7 : Hid (w7.heap[w.heap.size]? = some boxA) := by
      have h1 := g7.block w.heap.size (by simp; omega) (fun e => by have := (o6.lt _ e.symm).1; omega)
      exact h1.trans ((heap_alloc_old w6 _ (by omega)).trans X6.out)
    unfold boxA at X7
    have e4 := cell_row X7.out 4 rfl
    have V7 : Hid (View w7 (.slice ao7 15 c7) [202, 254, 186, 190, 0, 1, 0, 0, 0, 1, 65, 0, 0, 0, 0]) := View.of_own (l := [202, 254, 186, 190, 0, 1, 0, 0, 0, 1, 65, 0, 0, 0, 0]) o7 (by intro x hx; simp at hx; omega)
    clear a3 a4 g7 o6 o7 B6 X6 X7
    go_wp2
    go_loopw [5, 9] (fun b i wr => b = .slice ao7 15 c7 ∧ i = .int .i64 0 ∧ wr = w7) (fun _ _ _ => 0)
    case atStart => exact ⟨rfl, rfl, rfl⟩
    case round =>
      obtain ⟨rfl, rfl, hww⟩ := hrel
      cases hww
      go_wp2
      go_ret2
      exact ⟨B7.out, _, _, rfl, V7.out⟩
end Go.Proofs.YthagaldpopnoeaaGreatDoor
