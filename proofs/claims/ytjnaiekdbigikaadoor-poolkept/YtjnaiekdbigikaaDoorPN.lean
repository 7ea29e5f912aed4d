/- Some of chapter 3's runs, as the law's helper 'known' asks them, come out true in whatever world. -/
import Derived.Test.YtjnaiekdbigikaaDoorPX
namespace Go.Proofs.YtjnaiekdbigikaaDoor
open Go.RowKit

theorem CView.laid (w : World) (l : List CD) (hk : ∀ c ∈ l, c.Ok) (hm : l.length ≤ maxLen) : CView (w.alloc (.cells (ccells l).toArray 30)) (.slice (some ⟨w.heap.size, 0, none⟩) l.length l.length) l :=
  ⟨_, _, rfl, Nat.le_refl _, hm, hk, .inr ⟨_, _, rfl, CLies.of_cells (World.news_of_block (heap_alloc_new w (.cells (ccells l).toArray 30)))⟩⟩
theorem numC_ok (n : Int) (h0 : -2147483648 ≤ n) (h1 : n ≤ 2147483647) : (numC n).Ok := ⟨⟨by show (ByteArray.mk #[]).size ≤ _; decide, by show (ByteArray.mk #[]).size ≤ _; decide, by show (ByteArray.mk #[]).size ≤ _; decide⟩, h0, h1⟩
theorem Tabs.size {w : World} (h : Tabs w) : 2 ≤ w.heap.size := by
  have h1 : w.cell? ⟨1, 2 * 0, none⟩ = some _ := (h.2 0 (by decide)).1
  have := World.block_lt_of_cell? w _ h1
  simp at this
  omega
theorem pool_five : poolZ [numC 5] = [0, 1, 3, 0, 0, 0, 5] := by decide +kernel
theorem wput_five : wput [numC 5] = [0, 1, 3, 0, 0, 0, 5] := by decide +kernel
theorem wcode_five : wcode [numC 5] = 0 := by decide +kernel
def arrC : CD := ⟨7, 0, ⟨#[91, 73]⟩, ⟨#[]⟩, ⟨#[]⟩⟩
theorem right_arr : rightB arrC = true := by decide +kernel
theorem arr_fits : arrC.Fits := ⟨by decide, by decide, by decide⟩
theorem get_none : getZ [] 0 3 = (zeroC, 14) := rfl

set_option maxRecDepth 8000 in
set_option maxHeartbeats 1000000 in
theorem write_many (pw n cap : Nat) (ao : Option Addr) (w : World) (h : 256 < n) : Calls Tryd.prog 10 #[.pointer (some ⟨pw, 0, none⟩), .slice ao n cap] w fun e w' => e = .returned (.int .i64 4) ∧ w' = w := by
  have h' : (256 : Int) < (n : Int) := by omega
  go_enter Tryd.func10, Tryd.ntmps10
  go_wp2
  go_ret
  exact ⟨rfl, rfl⟩

set_option maxRecDepth 8000 in
set_option maxHeartbeats 2000000 in
theorem known_any (w : World) (hT : Tabs w) : Calls Tryd.prog 16 #[] w fun e w' => e = .returned (.bool true) ∧ Below w.heap.size w w' := by
  have h2 := hT.size
  go_enter Tryd.func16, Tryd.ntmps16
  go_wp2_with fail
  refine (newW_any w).mono ?_
  rintro e w1 ⟨rfl, hw1⟩
  have W1 : IsW w.heap.size w.heap.size w1 (.slice none 0 0) [] := by rw [hw1]; exact newW_is w _
  have b1 : Below w.heap.size w w1 := by rw [hw1]; exact (Below.refl _ _).alloc (Nat.le_refl _) _
  have z1 : w1.heap.size = w.heap.size + 1 := by rw [hw1]; simp
  clear hw1
  go_wp2_with fail
  refine (number_any 5 w1).mono ?_
  unfold numC CD.val
  rintro e w2 ⟨rfl, b2⟩
  have z2 := b2.size
  have b3 : Below w2.heap.size w2 (w2.alloc (.cells #[.int .i64 3, .int .i32 5, .string ⟨#[]⟩, .string ⟨#[]⟩, .string ⟨#[]⟩] 30)) := (Below.refl _ _).alloc (Nat.le_refl _) _
  have V3 : CView (w2.alloc (.cells #[.int .i64 3, .int .i32 5, .string ⟨#[]⟩, .string ⟨#[]⟩, .string ⟨#[]⟩] 30)) (.slice (some ⟨w2.heap.size, 0, none⟩) 1 1) [numC 5] :=
    CView.laid w2 [numC 5] (by intro c hc; simp at hc; subst hc; exact numC_ok 5 (by omega) (by omega)) (by unfold maxLen; simp)
  have z3 : (w2.alloc (.cells #[.int .i64 3, .int .i32 5, .string ⟨#[]⟩, .string ⟨#[]⟩, .string ⟨#[]⟩] 30)).heap.size = w2.heap.size + 1 := by simp
  have T3 := ((hT.below b1).below b2).below b3
  have W3 := (W1.below b2).below b3
  have HW := D.hidIt (write_any w.heap.size w.heap.size (.slice none 0 0) _ [] [numC 5] _ W3 (by omega) h2 (by simp) T3 V3 (fun k hk => by
    simp [Value.ownBlock] at hk
    subst hk
    exact ⟨by omega, by simp [Value.ownBlock]⟩))
  rw [wcode_five, wput_five, List.nil_append] at HW
  go_wp2_with fail
  refine HW.out.mono ?_
  rintro e w4 ⟨rfl, v4, W4, st4⟩
  have z4 := st4.size
  have B4 : Below w.heap.size w w4 := by
    have b23 : Below w.heap.size w (w2.alloc (.cells #[.int .i64 3, .int .i32 5, .string ⟨#[]⟩, .string ⟨#[]⟩, .string ⟨#[]⟩] 30)) := b1.trans ((b2.mono (by omega)).trans (b3.mono (by omega)))
    exact ⟨st4.os.trans b23.os, st4.tape.trans b23.tape, st4.output.trans b23.output, by omega, fun k hk => (st4.block k (by omega) (by omega) (by simp [Value.ownBlock])).trans (b23.block k hk)⟩
  clear HW W3 T3 V3
  go_wp2_with fail
  refine (get_any (.slice none 0 0) [] 0 3 w4 (CView.nil w4)).mono ?_
  rw [get_none]
  unfold zeroC CD.val
  rintro e w5 ⟨rfl, b5⟩
  have z5 := b5.size
  have b6 : Below w5.heap.size w5 (w5.alloc (.cells #[.int .i64 0, .int .i32 0, .string ⟨#[]⟩, .string ⟨#[]⟩, .string ⟨#[]⟩] 30)) := (Below.refl _ _).alloc (Nat.le_refl _) _
  have z6 : (w5.alloc (.cells #[.int .i64 0, .int .i32 0, .string ⟨#[]⟩, .string ⟨#[]⟩, .string ⟨#[]⟩] 30)).heap.size = w5.heap.size + 1 := by simp
  have W6 := (W4.below b5).below b6
  go_wp2_with fail
  refine (done_any _ _ _ _ _ W6 (by unfold AllBytes; decide) (by decide)).mono ?_
  rintro e w7 ⟨b7, v7, rfl, o7⟩
  have z7 := b7.size
  have V7 : View w7 v7 [0, 1, 3, 0, 0, 0, 5] := View.of_own o7 (by unfold AllBytes; decide)
  have c7 := run_string V7
  rw [show strOfNums [0, 1, 3, 0, 0, 0, 5] = ⟨#[0, 1, 3, 0, 0, 0, 5]⟩ from rfl] at c7
  have HR := fun w => D.hidIt (right_any arrC w arr_fits)
  rw [right_arr] at HR
  unfold arrC CD.val at HR
  clear V7 o7
  go_wp2_with fail
  refine (HR _).out.mono ?_
  rintro e w8 ⟨rfl, b8⟩
  go_wp2
  go_ret
  exact ⟨rfl, B4.trans ((b5.mono (by omega)).trans ((b6.mono (by omega)).trans ((b7.mono (by omega)).trans (b8.mono (by omega)))))⟩
end Go.Proofs.YtjnaiekdbigikaaDoor
