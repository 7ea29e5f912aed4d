/- PoolNumbers: chapter 3's runs come out true in whatever world. -/
import Derived.Test.YtjnaiekdbigikaaDoorPN
import Derived.Deep.RegionWith
namespace Go.Proofs.YtjnaiekdbigikaaDoor
open Go.RowKit

set_option maxRecDepth 8000 in
set_option maxHeartbeats 1000000 in
theorem read_nil (w : World) : Calls Tryd.prog 15 #[.pointer none] w fun e w' => e = .returned (.slice none 0 0) ∧ w' = w := by
  go_enter Tryd.func15, Tryd.ntmps15
  go_wp2
  go_ret
  exact ⟨rfl, rfl⟩

theorem make_consts (n : Nat) (hn : n * 64 ≤ 281474976710656) : ∃ cs : Array Value, cs.size = n * 5 ∧ ∀ wx : World, (Instr.makeSlice 26 (.int .i64 (n : Int)) (.int .i64 (n : Int))).run Tryd.prog wx = .ok (.slice (some ⟨wx.heap.size, 0, none⟩) n n) (wx.alloc (.cells cs 30)) := by
  obtain ⟨i0, hi, hz0, hz1, hz2⟩ := info_parts Tryd.info30
  refine ⟨_, size_madeCells zeroC.val.cells (n * 5), fun wx => ?_⟩
  have := run_make (P := Tryd.prog) wx 26 30 i0 zeroC.val Tryd.underlying26 hi hz0 .i64 .i64 n n (by omega) (Int.le_refl _) (by rw [hz2]; omega) (by omega)
  rw [hz1] at this
  simpa only [Int.toNat_natCast] using this

theorem pool_none : wput [] = [0, 0] := by decide +kernel
theorem code_none : wcode [] = 0 := by decide +kernel
theorem add_two : addZ [numC 1, numC 2] (numC 2) = ([numC 1, numC 2], 1, 0) := by
  have h1 : rightB (numC 2) = true := by decide +kernel
  have h2 : idxO (numC 2) [numC 1, numC 2] = some 1 := by decide +kernel
  rw [addZ_has h1 h2]; rfl
def nineC : CD := ⟨9, 0, ⟨#[]⟩, ⟨#[]⟩, ⟨#[]⟩⟩
theorem nine_ok : nineC.Ok := ⟨⟨by decide, by decide, by decide⟩, by decide, by decide⟩
theorem add_nine : addZ [] nineC = ([], 0, 14) := addZ_no (by decide +kernel)
theorem add_three : addZ [numC 1] (numC 3) = ([numC 1, numC 3], 1, 0) := by
  have h1 : rightB (numC 3) = true := by decide +kernel
  have h2 : idxO (numC 3) [numC 1] = none := by decide +kernel
  rw [addZ_more h1 h2 (by decide)]; rfl
theorem get_two : getZ [numC 1, numC 2] 1 3 = (numC 2, 0) := rfl
theorem get_class : getZ [numC 1, numC 2] 1 7 = (zeroC, 14) := rfl

set_option maxRecDepth 8000 in
set_option maxHeartbeats 4000000 in
theorem numbers_any (w : World) (hT : Tabs w) : Calls Tryd.prog 3 #[] w fun e w' => e = .returned (.bool true) ∧ Below w.heap.size w w' := by
  have h2 := hT.size
  have HN := fun n w => D.hidIt (number_any n w)
  unfold numC CD.val at HN
  have ok1 := numC_ok 1 (by omega) (by omega)
  have ok2 := numC_ok 2 (by omega) (by omega)
  have ok3 := numC_ok 3 (by omega) (by omega)
  go_enter Tryd.func3, Tryd.ntmps3
  go_wp2_with fail
  refine (newW_any w).mono ?_
  rintro e w1 ⟨rfl, hw1⟩
  have W1 : IsW w.heap.size w.heap.size w1 (.slice none 0 0) [] := by rw [hw1]; exact newW_is w _
  have b1 : Below w.heap.size w w1 := by rw [hw1]; exact (Below.refl _ _).alloc (Nat.le_refl _) _
  have z1 : w1.heap.size = w.heap.size + 1 := by rw [hw1]; simp
  clear hw1
  have T1 := hT.below b1
  have HW := D.hidIt (write_any w.heap.size w.heap.size (.slice none 0 0) _ [] [] w1 W1 (by omega) h2 (by simp) T1 (CView.nil w1) (fun k hk => by simp [Value.ownBlock] at hk))
  rw [code_none, pool_none, List.nil_append] at HW
  go_wp2_with fail
  refine HW.out.mono ?_
  rintro e w2 ⟨rfl, v2, W2, st2⟩
  have z2 := st2.size
  have B2 : Below w.heap.size w w2 :=
    ⟨st2.os.trans b1.os, st2.tape.trans b1.tape, st2.output.trans b1.output, by omega, fun k hk => (st2.block k (by omega) (by omega) (by simp [Value.ownBlock])).trans (b1.block k hk)⟩
  clear HW W1
  go_wp2_with fail
  refine (write_nil _ w2).mono ?_
  rintro e w' ⟨rfl, hww⟩; cases hww
  obtain ⟨cs, _, hmk⟩ := make_consts 257 (by omega)
  rw [show ((257 : Nat) : Int) = 257 from rfl] at hmk
  go_wp2_with fail
  refine (write_many _ 257 257 _ _ (by omega)).mono ?_
  rintro e w' ⟨rfl, hww⟩; cases hww
  have b3 : Below w2.heap.size w2 (w2.alloc (.cells cs 30)) := (Below.refl _ _).alloc (Nat.le_refl _) _
  have z3 : (w2.alloc (.cells cs 30)).heap.size = w2.heap.size + 1 := by simp
  have W3 := W2.below b3
  have B3 := B2.trans (b3.mono (by omega))
  clear W2 b3 hmk
  generalize w2.alloc (.cells cs 30) = w3 at *
  go_wp2_with fail
  refine (HN _ _).out.mono ?_
  rintro e w4 ⟨rfl, b4⟩
  have z4 := b4.size
  go_wp2_with fail
  refine (HN _ _).out.mono ?_
  rintro e w5 ⟨rfl, b5⟩
  have z5 := b5.size
  have b6 : Below w5.heap.size w5 (w5.alloc (.cells #[.int .i64 3, .int .i32 1, .string ⟨#[]⟩, .string ⟨#[]⟩, .string ⟨#[]⟩, .int .i64 3, .int .i32 2, .string ⟨#[]⟩, .string ⟨#[]⟩, .string ⟨#[]⟩] 30)) := (Below.refl _ _).alloc (Nat.le_refl _) _
  have z6 : (w5.alloc (.cells #[.int .i64 3, .int .i32 1, .string ⟨#[]⟩, .string ⟨#[]⟩, .string ⟨#[]⟩, .int .i64 3, .int .i32 2, .string ⟨#[]⟩, .string ⟨#[]⟩, .string ⟨#[]⟩] 30)).heap.size = w5.heap.size + 1 := by simp
  have V6 : CView (w5.alloc (.cells #[.int .i64 3, .int .i32 1, .string ⟨#[]⟩, .string ⟨#[]⟩, .string ⟨#[]⟩, .int .i64 3, .int .i32 2, .string ⟨#[]⟩, .string ⟨#[]⟩, .string ⟨#[]⟩] 30)) (.slice (some ⟨w5.heap.size, 0, none⟩) 2 2) [numC 1, numC 2] :=
    CView.laid w5 [numC 1, numC 2] (by intro c hc; simp at hc; rcases hc with rfl | rfl; exact ok1; exact ok2) (by unfold maxLen; simp)
  go_wp2_with fail
  refine (HN _ _).out.mono ?_
  rintro e w7 ⟨rfl, b7⟩
  have z7 := b7.size
  have HA := D.hidIt (add_any _ _ _ w7 (V6.below b7) ok2 (by decide))
  rw [add_two] at HA
  unfold numC CD.val at HA
  simp only at HA
  go_wp2_with fail
  refine HA.out.mono ?_
  rintro e w8 ⟨b8, v8, rfl, o8⟩
  have z8 := b8.size
  have V8 : CView w8 v8 [numC 1, numC 2] := CView.of_own o8 (by intro c hc; simp at hc; rcases hc with rfl | rfl; exact ok1; exact ok2)
  obtain ⟨ao8, cap8, rfl⟩ := cown_slice o8
  have W8 := ((((W3.below b4).below b5).below b6).below b7).below b8
  have B8 := B3.trans ((b4.mono (by omega)).trans ((b5.mono (by omega)).trans ((b6.mono (by omega)).trans ((b7.mono (by omega)).trans (b8.mono (by omega))))))
  have y8 := B8.size
  clear HA V6 W3 b4 b5 b6 b7 b8 o8 B3 z3 z4 z5
  have HA := D.hidIt (add_any (.slice none 0 0) [] nineC w8 (CView.nil w8) nine_ok (by decide))
  rw [add_nine] at HA
  unfold nineC CD.val at HA
  simp only at HA
  go_wp2_with fail
  refine HA.out.mono ?_
  rintro e w9 ⟨b9, v9, rfl, o9⟩
  have z9 := b9.size
  obtain ⟨ao9, cap9, rfl⟩ := cown_slice o9
  clear HA o9
  go_wp2_with fail
  refine (HN _ _).out.mono ?_
  rintro e w10 ⟨rfl, b10⟩
  have z10 := b10.size
  have b11 : Below w10.heap.size w10 (w10.alloc (.cells #[.int .i64 3, .int .i32 1, .string ⟨#[]⟩, .string ⟨#[]⟩, .string ⟨#[]⟩] 30)) := (Below.refl _ _).alloc (Nat.le_refl _) _
  have z11 : (w10.alloc (.cells #[.int .i64 3, .int .i32 1, .string ⟨#[]⟩, .string ⟨#[]⟩, .string ⟨#[]⟩] 30)).heap.size = w10.heap.size + 1 := by simp
  have V11 : CView (w10.alloc (.cells #[.int .i64 3, .int .i32 1, .string ⟨#[]⟩, .string ⟨#[]⟩, .string ⟨#[]⟩] 30)) (.slice (some ⟨w10.heap.size, 0, none⟩) 1 1) [numC 1] :=
    CView.laid w10 [numC 1] (by intro c hc; simp at hc; subst hc; exact ok1) (by unfold maxLen; simp)
  go_wp2_with fail
  refine (HN _ _).out.mono ?_
  rintro e w12 ⟨rfl, b12⟩
  have z12 := b12.size
  have HA := D.hidIt (add_any _ _ _ w12 (V11.below b12) ok3 (by decide))
  rw [add_three] at HA
  unfold numC CD.val at HA
  simp only at HA
  go_wp2_with fail
  refine HA.out.mono ?_
  rintro e w13 ⟨b13, v13, rfl, o13⟩
  have z13 := b13.size
  obtain ⟨ao13, cap13, rfl⟩ := cown_slice o13
  have W13 := ((((W8.below b9).below b10).below b11).below b12).below b13
  have V13 := ((((V8.below b9).below b10).below b11).below b12).below b13
  have B13 := B8.trans ((b9.mono (by omega)).trans ((b10.mono (by omega)).trans ((b11.mono (by omega)).trans ((b12.mono (by omega)).trans (b13.mono (by omega))))))
  have y13 := B13.size
  have z813 : w8.heap.size ≤ w13.heap.size := by omega
  clear HA V11 b9 b10 b11 b12 b13 o13 B8 z9 z10 z11 z12 z13 V8 W8
  have HG := D.hidIt (get_any _ _ 1 3 w13 V13)
  rw [get_two] at HG
  unfold numC CD.val at HG
  simp only at HG
  go_wp2_with fail
  refine HG.out.mono ?_
  rintro e w14 ⟨rfl, b14⟩
  have z14 := b14.size
  have b15 : Below w14.heap.size w14 (w14.alloc (.cells #[.int .i64 3, .int .i32 2, .string ⟨#[]⟩, .string ⟨#[]⟩, .string ⟨#[]⟩] 30)) := (Below.refl _ _).alloc (Nat.le_refl _) _
  have z15 : (w14.alloc (.cells #[.int .i64 3, .int .i32 2, .string ⟨#[]⟩, .string ⟨#[]⟩, .string ⟨#[]⟩] 30)).heap.size = w14.heap.size + 1 := by simp
  have C15 : CAt (w14.alloc (.cells #[.int .i64 3, .int .i32 2, .string ⟨#[]⟩, .string ⟨#[]⟩, .string ⟨#[]⟩] 30)) w14.heap.size 0 (numC 2) := box_at w14 (numC 2)
  clear HG
  have HG := D.hidIt (get_any _ _ 1 7 _ ((V13.below b14).below b15))
  rw [get_class] at HG
  unfold zeroC CD.val at HG
  simp only at HG
  go_wp2_with fail
  refine HG.out.mono ?_
  rintro e w16 ⟨rfl, b16⟩
  have z16 := b16.size
  have b17 : Below w16.heap.size w16 (w16.alloc (.cells #[.int .i64 0, .int .i32 0, .string ⟨#[]⟩, .string ⟨#[]⟩, .string ⟨#[]⟩] 30)) := (Below.refl _ _).alloc (Nat.le_refl _) _
  have z17 : (w16.alloc (.cells #[.int .i64 0, .int .i32 0, .string ⟨#[]⟩, .string ⟨#[]⟩, .string ⟨#[]⟩] 30)).heap.size = w16.heap.size + 1 := by simp
  have W17 := (((W13.below b14).below b15).below b16).below b17
  have C17 := (C15.below b16).below b17
  have B17 := B13.trans ((b14.mono (by omega)).trans ((b15.mono (by omega)).trans ((b16.mono (by omega)).trans (b17.mono (by omega)))))
  have y17 := B17.size
  clear HG V13 W13 B13
  go_wp2_with fail
  generalize w16.alloc (.cells #[.int .i64 0, .int .i32 0, .string ⟨#[]⟩, .string ⟨#[]⟩, .string ⟨#[]⟩] 30) = w17 at *
  have W17d : IsW w.heap.size w.heap.size w17.drew v2 [0, 0] := ⟨W17.at_, W17.own⟩
  have C17d : CAt w17.drew w14.heap.size 0 (numC 2) := C17.block rfl
  have B17d : Below w.heap.size w w17.drew := ⟨B17.os, B17.tape, B17.output, B17.size, B17.block⟩
  have HD := D.hidIt (done_any _ _ _ _ _ W17d (by unfold AllBytes; decide) (by decide))
  have HS : strOfNums [0, 0] = ⟨#[0, 0]⟩ := rfl
  have HK := fun W (h : Below w.heap.size w W) => D.hidIt (known_any W (hT.below h))
  have y17d : w.heap.size ≤ w17.drew.heap.size := y17
  clear W17 C17 B17 b14 b15 b16 b17 C15
  go_region_with (first
    | (go_at_call 14; refine HD.out.mono ?_; rintro e w18 ⟨b18, v18, rfl, o18⟩; have z18 := b18.size; have V18 : View w18 v18 [0, 0] := View.of_own o18 (by unfold AllBytes; decide); have c18 := run_string V18; rw [HS] at c18; have C18 := C17d.below b18; obtain ⟨k0, k1, k2, k3, k4⟩ := id C18; unfold numC at k0 k1 k2 k3 k4; simp only at k0 k1 k2 k3 k4; have B18 := B17d.trans (b18.mono (by omega)); have y18 := B18.size; clear V18 o18)
    | (go_at_call 12; refine (HN _ _).out.mono ?_; rintro e w19 ⟨rfl, b19⟩; have C19 := C18.below b19; obtain ⟨q0, q1, q2, q3, q4⟩ := id C19; unfold numC at q0 q1 q2 q3 q4; simp only at q0 q1 q2 q3 q4; have B19 := B18.trans (b19.mono (by omega)); have y19 := B19.size)
    | (go_at_call 15; refine (read_nil _).mono ?_; rintro e w' ⟨rfl, hww⟩; cases hww)
    | (go_at_call 16; refine (HK _ B19).out.mono ?_; rintro e w20 ⟨rfl, b20⟩))
  all_goals
    go_wp2
    go_ret
    exact ⟨rfl, B19.trans (b20.mono (by omega))⟩
end Go.Proofs.YtjnaiekdbigikaaDoor
