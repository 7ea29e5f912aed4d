/- CodeNumbers, walked. -/
import Derived.Test.YtcmneinhcfejhaaRN
import Derived.Test.YtcmneinhcfejhaaRZ
import Derived.Test.YtcmneinhcfejhaaRm
import Derived.Test.YtcmneinhcfejhaaKn
namespace Go.Proofs.Ytcmneinhcfejhaa
open Go.RowKit

theorem enc_0 : encL [⟨0, 132, 256, 0⟩] [] = ([], 1) := by kernel_rfl
theorem enc_1 : encL [⟨1, 0, 0, 0⟩] [] = ([], 16) := by kernel_rfl
theorem enc_2 : encL [⟨0, 9, 0, 0⟩] [] = ([], 15) := by kernel_rfl
theorem enc_3 : encL [⟨0, 0, 0, 1⟩] [] = ([], 1) := by kernel_rfl
theorem enc_4 : encL [⟨0, 132, 255, -128⟩] [] = ([132, 255, 128], 0) := by kernel_rfl
theorem dec_a : decZ5 [255] = ([], 15, 0) := by kernel_rfl
theorem dec_b : decZ5 [] = ([], 0, 0) := by kernel_rfl
theorem name_nine : nameO 9 = ⟨#[]⟩ := by kernel_rfl
theorem str_x : strOfNums [132, 255, 128] = ⟨#[132, 255, 128]⟩ := by rfl
set_option maxRecDepth 8000 in
set_option maxHeartbeats 1000000 in
theorem rends_any (op : Int) (w : World) : Calls Try.prog 16 #[.int .i64 op] w fun e w' => e = .returned (.bool (endsB op)) ∧ w' = w := by
  have HE : Hid (endsB op = (op == 167 || (op == 172 || (op == 176 || (op == 177 || op == 191))))) := by show _ = _; unfold endsB; rfl
  generalize endsB op = r at *
  cases h1 : (op == 167) <;> cases h2 : (op == 172) <;> cases h3 : (op == 176) <;> cases h4 : (op == 177) <;> cases h5 : (op == 191)
  all_goals
    go_enter Try.func16, Try.ntmps16
    go_wp2
    go_ret
    refine ⟨?_, rfl⟩
    rw [HE.out, h1, h2, h3, h4, h5]
    rfl
set_option maxRecDepth 8000 in
theorem decode_long (ao : Option Addr) (n cap : Nat) (w : World) (hn : 1024 < n) : Calls Try.prog 17 #[.slice ao n cap] w fun e w' => e = .returned (.tuple #[.slice none 0 0, .int .i64 3, .int .i64 0]) ∧ w' = w := by
  have hb' : (1024 : Int) < (n : Int) := by omega
  go_enter Try.func17, Try.ntmps17
  go_wp2
  go_ret3
  exact ⟨rfl, rfl⟩
set_option maxRecDepth 8000 in
set_option maxHeartbeats 8000000 in
theorem numbers_any (w : World) : Calls Try.prog 3 #[] w fun e w' => e = .returned (.bool true) ∧ Below w.heap.size w w' := by
  go_enter Try.func3, Try.ntmps3
  go_wp2_with fail
  go_loopw [1] (fun op_ wr => ∃ n : Int, op_ = .int .i64 n ∧ -3 ≤ n ∧ n ≤ 300 ∧ Below w.heap.size w wr) (fun op_ _ => (300 - intOf op_).toNat)
  case atStart => exact ⟨-3, rfl, by omega, by omega, Below.refl _ _⟩
  case round =>
    obtain ⟨n, rfl, hn0, hn1, hb⟩ := hrel
    have HB := hidIt hb
    clear hb
    by_cases hlt : n < 300
    · have G1 := hidIt (size_any n wr)
      have G2 := hidIt (rsize rname5 n wr)
      generalize sz n = s at *
      go_wp2_with fail
      refine G1.out.mono ?_
      rintro e w1 ⟨rfl, hww⟩; cases hww
      go_wp2_with fail
      refine G2.out.mono ?_
      rintro e w2 ⟨rfl, b2⟩
      have B2 := hidIt (HB.out.trans (b2.mono HB.out.size))
      have G3 := hidIt (name_any n w2)
      clear G1 G2 b2
      go_wp2_with fail
      refine G3.out.mono ?_
      rintro e w3 ⟨rfl, b3⟩
      have B3 := hidIt (B2.out.trans (b3.mono B2.out.size))
      have G4 := hidIt (rname5 n w3)
      generalize nameO n = nm at *
      clear G3 b3
      go_wp2_with fail
      refine G4.out.mono ?_
      rintro e w4 ⟨rfl, b4⟩
      have B4 := hidIt (B3.out.trans (b4.mono B3.out.size))
      have G5 := hidIt (branch_any n w4)
      have G6 := hidIt (rbranch n w4)
      generalize decide (kd n = 6) = kb at *
      clear G4 b4
      go_wp2_with fail
      refine G5.out.mono ?_
      rintro e w5 ⟨rfl, hww⟩; cases hww
      go_wp2_with fail
      refine G6.out.mono ?_
      rintro e w5 ⟨rfl, hww⟩; cases hww
      have G7 := hidIt (ends_any n w4)
      have G8 := hidIt (rends_any n w4)
      generalize endsB n = eb at *
      clear G5 G6
      go_wp2_with fail
      refine G7.out.mono ?_
      rintro e w5 ⟨rfl, hww⟩; cases hww
      go_wp2_with fail
      refine G8.out.mono ?_
      rintro e w5 ⟨rfl, hww⟩; cases hww
      clear G7 G8
      go_wp2
      exact ⟨⟨n + 1, by go_num, by omega, by omega, B4.out⟩, by simp [intOf]; omega⟩
    · have hlt' : ¬ n < 300 := hlt
      obtain ⟨cs, hcs, hmk⟩ := make_bytes 1025 (by omega)
      rw [show ((1025 : Nat) : Int) = 1025 by rfl] at hmk
      have BA := hidIt (HB.out.trans ((below_alloc wr (.cells #[.int .u8 255] 5)).mono HB.out.size))
      have ga := decode_any _ [255] _ (View.laid wr [255] (fun x hx => by simp at hx; omega) (by unfold maxLen; decide))
      rw [dec_a] at ga
      have GA := hidIt ga
      clear ga
      go_wp2_with fail
      refine GA.out.mono ?_
      rintro e wa ⟨ba, va, rfl, oa⟩
      have Bwa := hidIt (BA.out.trans (ba.mono BA.out.size))
      obtain ⟨aoa, capa, rfl⟩ := own_slice oa
      have GL := hidIt (fun ao W => decode_long ao 1025 1025 W (by omega))
      have Bwb := hidIt (Bwa.out.trans ((below_alloc wa (.cells cs 5)).mono Bwa.out.size))
      clear GA ba oa BA HB
      go_wp2_with fail
      refine (GL.out _ _).mono ?_
      rintro e wb ⟨rfl, hww⟩
      rw [← hww] at Bwb
      have gc := decode_any _ [] wb (View.empty wb)
      rw [dec_b] at gc
      have GC := hidIt gc
      clear gc GL hww hmk Bwa
      go_wp2_with fail
      refine GC.out.mono ?_
      rintro e wc ⟨bc, vc, rfl, oc⟩
      have Bwc := hidIt (Bwb.out.trans (bc.mono Bwb.out.size))
      obtain ⟨aoc, capc, rfl⟩ := own_slice oc
      clear GC bc oc Bwb
      have GI0 := hidIt (i_any ⟨0, 132, 256, 0⟩ wc)
      unfold IN.val at GI0
      go_wp2_with fail
      refine GI0.out.mono ?_
      rintro e x0 ⟨rfl, bi0⟩
      have BX0 := hidIt (Bwc.out.trans (bi0.mono Bwc.out.size))
      have BY0 := hidIt (BX0.out.trans ((below_alloc x0 (.cells #[.int .i64 0, .int .i64 132, .int .i64 256, .int .i64 0] 33)).mono BX0.out.size))
      have ge0 := encode_any _ [⟨0, 132, 256, 0⟩] _ (IView.laid1 x0 ⟨0, 132, 256, 0⟩) (by simp)
      rw [enc_0] at ge0
      have GE0 := hidIt ge0
      clear GI0 bi0 ge0 Bwc BX0
      go_wp2_with fail
      refine GE0.out.mono ?_
      rintro e wd ⟨be0, v0, rfl, oe0⟩
      have Bwd := hidIt (BY0.out.trans (be0.mono BY0.out.size))
      obtain ⟨ao0, cap0, rfl⟩ := own_slice oe0
      clear be0 oe0 GE0 BY0
      have GI1 := hidIt (i_any ⟨1, 0, 0, 0⟩ wd)
      unfold IN.val at GI1
      go_wp2_with fail
      refine GI1.out.mono ?_
      rintro e x1 ⟨rfl, bi1⟩
      have BX1 := hidIt (Bwd.out.trans (bi1.mono Bwd.out.size))
      have BY1 := hidIt (BX1.out.trans ((below_alloc x1 (.cells #[.int .i64 1, .int .i64 0, .int .i64 0, .int .i64 0] 33)).mono BX1.out.size))
      have ge1 := encode_any _ [⟨1, 0, 0, 0⟩] _ (IView.laid1 x1 ⟨1, 0, 0, 0⟩) (by simp)
      rw [enc_1] at ge1
      have GE1 := hidIt ge1
      clear GI1 bi1 ge1 Bwd BX1
      go_wp2_with fail
      refine GE1.out.mono ?_
      rintro e we ⟨be1, v1, rfl, oe1⟩
      have Bwe := hidIt (BY1.out.trans (be1.mono BY1.out.size))
      obtain ⟨ao1, cap1, rfl⟩ := own_slice oe1
      clear be1 oe1 GE1 BY1
      have GI2 := hidIt (i_any ⟨0, 9, 0, 0⟩ we)
      unfold IN.val at GI2
      go_wp2_with fail
      refine GI2.out.mono ?_
      rintro e x2 ⟨rfl, bi2⟩
      have BX2 := hidIt (Bwe.out.trans (bi2.mono Bwe.out.size))
      have BY2 := hidIt (BX2.out.trans ((below_alloc x2 (.cells #[.int .i64 0, .int .i64 9, .int .i64 0, .int .i64 0] 33)).mono BX2.out.size))
      have ge2 := encode_any _ [⟨0, 9, 0, 0⟩] _ (IView.laid1 x2 ⟨0, 9, 0, 0⟩) (by simp)
      rw [enc_2] at ge2
      have GE2 := hidIt ge2
      clear GI2 bi2 ge2 Bwe BX2
      go_wp2_with fail
      refine GE2.out.mono ?_
      rintro e wf ⟨be2, v2, rfl, oe2⟩
      have Bwf := hidIt (BY2.out.trans (be2.mono BY2.out.size))
      obtain ⟨ao2, cap2, rfl⟩ := own_slice oe2
      clear be2 oe2 GE2 BY2
      have GI3 := hidIt (i_any ⟨0, 0, 0, 1⟩ wf)
      unfold IN.val at GI3
      go_wp2_with fail
      refine GI3.out.mono ?_
      rintro e x3 ⟨rfl, bi3⟩
      have BX3 := hidIt (Bwf.out.trans (bi3.mono Bwf.out.size))
      have BY3 := hidIt (BX3.out.trans ((below_alloc x3 (.cells #[.int .i64 0, .int .i64 0, .int .i64 0, .int .i64 1] 33)).mono BX3.out.size))
      have ge3 := encode_any _ [⟨0, 0, 0, 1⟩] _ (IView.laid1 x3 ⟨0, 0, 0, 1⟩) (by simp)
      rw [enc_3] at ge3
      have GE3 := hidIt ge3
      clear GI3 bi3 ge3 Bwf BX3
      go_wp2_with fail
      refine GE3.out.mono ?_
      rintro e wg ⟨be3, v3, rfl, oe3⟩
      have Bwg := hidIt (BY3.out.trans (be3.mono BY3.out.size))
      obtain ⟨ao3, cap3, rfl⟩ := own_slice oe3
      clear be3 oe3 GE3 BY3
      have GI4 := hidIt (i_any ⟨0, 132, 255, -128⟩ wg)
      unfold IN.val at GI4
      go_wp2_with fail
      refine GI4.out.mono ?_
      rintro e x4 ⟨rfl, bi4⟩
      have BX4 := hidIt (Bwg.out.trans (bi4.mono Bwg.out.size))
      have BY4 := hidIt (BX4.out.trans ((below_alloc x4 (.cells #[.int .i64 0, .int .i64 132, .int .i64 255, .int .i64 (-128)] 33)).mono BX4.out.size))
      have ge4 := encode_any _ [⟨0, 132, 255, -128⟩] _ (IView.laid1 x4 ⟨0, 132, 255, -128⟩) (by simp)
      rw [enc_4] at ge4
      have GE4 := hidIt ge4
      clear GI4 bi4 ge4 Bwg BX4
      go_wp2_with fail
      refine GE4.out.mono ?_
      rintro e wh ⟨be4, v4, rfl, oe4⟩
      have Bwh := hidIt (BY4.out.trans (be4.mono BY4.out.size))
      obtain ⟨ao4, cap4, rfl⟩ := own_slice oe4
      have hS : (convert 29 9 (.slice ao4 3 cap4)).run Try.prog wh = .ok (.string ⟨#[132, 255, 128]⟩) wh := by
        have := run_string (View.of_own oe4 (fun x hx => by simp at hx; omega))
        rw [str_x] at this
        exact this
      have gn := name_any 9 wh
      rw [name_nine] at gn
      have GN := hidIt gn
      clear be4 oe4 GE4 BY4 gn
      go_wp2_with fail
      refine GN.out.mono ?_
      rintro e wi ⟨rfl, bi⟩
      have Bwi := hidIt (Bwh.out.trans (bi.mono Bwh.out.size))
      have GK := hidIt (known_any wi)
      clear bi GN Bwh hS
      go_wp2_with fail
      refine GK.out.mono ?_
      rintro e wj ⟨rfl, bj⟩
      have Bwj := hidIt (Bwi.out.trans (bj.mono Bwi.out.size))
      clear bj GK Bwi
      go_wp2
      go_ret
      exact ⟨rfl, Bwj.out⟩
end Go.Proofs.Ytcmneinhcfejhaa
