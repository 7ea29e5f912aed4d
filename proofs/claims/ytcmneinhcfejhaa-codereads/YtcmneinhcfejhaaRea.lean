/- CodeReads, walked. -/
import Derived.Test.YtcmneinhcfejhaaRD
import Derived.Test.YtcmneinhcfejhaaRm
import Derived.Test.YtcmneinhcfejhaaKn
namespace Go.Proofs.Ytcmneinhcfejhaa
open Go.RowKit

set_option maxRecDepth 8000 in
set_option maxHeartbeats 8000000 in
theorem reads_any (hN : NameC) (vb : Value) (lb : List Int) (w : World) (hv : View w vb lb) :
    Calls Try.prog 4 #[vb] w fun e w' => e = .returned (.bool true) ∧ Below w.heap.size w w' := by
  obtain ⟨ao, cap, rfl, hc, hm, _, _⟩ := id hv
  unfold maxLen at hm
  by_cases hbig : 1100 < lb.length
  · have hV := hv.take (n := 1100) (by omega)
    have hb' : (1100 : Int) < (lb.length : Int) := by omega
    have hc' : (1100 : Int) ≤ (cap : Int) := by omega
    have hl11 : (lb.take 1100).length = 1100 := by rw [List.length_take]; omega
    generalize lb.take 1100 = l at *
    have hV' : View w (.slice ao l.length cap) l := by rw [hl11]; exact hV
    clear hv hV
    have hV := hV'
    clear hV'
    have hlb : (l.length : Int) ≤ 1100 := by omega
    have hlb2 : l.length ≤ 140737488351232 := by omega
    have G1 := hidIt (roomy_any (.slice ao l.length cap) l w hV hlb2)
    have HVW := hidIt hV
    have hby : AllBytes l := by obtain ⟨_, _, _, _, _, h, _⟩ := hV; exact h
    have HDZ := hidIt (fun V W h => decode_any V l W h)
    have HRZ := hidIt (fun V W h => rdecode_any hN V l W h)
    have HIN := hidIt (fun g vb W h1 h2 => intact_any g vb l W h1 h2 hlb2)
    have HFR := hidIt (fun (W : World) g h => view_front (w := W) (g := g) hby (by unfold maxLen; omega) h)
    generalize decZ5 l = Z at *
    obtain ⟨m, why, place⟩ := Z
    simp only at HDZ HRZ
    clear hV hby
    go_enter Try.func4, Try.ntmps4
    have HL11 := hidIt hl11
    clear hl11
    go_wp2_with fail
    rw [← HL11.out]
    refine G1.out.mono ?_
    rintro e w1 ⟨b1, rfl, l1⟩
    have B1 := hidIt b1
    have HL1 := hidIt l1
    have HV1 := hidIt (HVW.out.below b1)
    have G2 := hidIt (HDZ.out _ w1 (HFR.out w1 w.heap.size l1))
    clear G1 HDZ HFR b1 l1 HVW
    go_wp2_with fail
    refine G2.out.mono ?_
    rintro e w2 ⟨b2, v2, rfl, o2⟩
    obtain ⟨ao2, cap2, rfl⟩ := own_slice o2
    have B2 := hidIt (B1.out.trans (b2.mono B1.out.size))
    have HL2 : Hid (Lies w2 w.heap.size 0 (roomy l)) := fun j x hj => cell_later b2 (HL1.out j x hj)
    have HV2 := hidIt (HV1.out.below b2)
    have HI2 := hidIt (IView.of_own o2)
    have G3 := hidIt (HRZ.out _ w2 HV2.out)
    clear G2 HRZ b2 o2 HL1 HV1 B1
    go_wp2_with fail
    refine G3.out.mono ?_
    rintro e w3 ⟨b3, v3, rfl, o3⟩
    obtain ⟨ao3, cap3, rfl⟩ := own_slice o3
    have B3 := hidIt (B2.out.trans (b3.mono B2.out.size))
    have HL3 : Hid (Lies w3 w.heap.size 0 (roomy l)) := fun j x hj => cell_later b3 (HL2.out j x hj)
    have HV3 := hidIt (HV2.out.below b3)
    have G4 := hidIt (isame_any _ _ m w3 (HI2.out.below b3) (IView.of_own o3))
    clear G3 b3 o3 HL2 HV2 B2 HI2
    go_wp2_with fail
    refine G4.out.mono ?_
    rintro e w4 ⟨rfl, q4, hww⟩
    have B4 := hidIt (below_drewN B3.out q4)
    have G5 := hidIt (HIN.out w.heap.size _ (w3.drewN q4) (fun j x hj => HL3.out j x hj) (HV3.out.drewN q4))
    rw [← hww] at B4 G5
    clear G4 HL3 HV3 B3 HIN hww
    go_wp2_with fail
    refine G5.out.mono ?_
    rintro e w5 ⟨rfl, q5, hww⟩
    have B5 := hidIt (below_drewN B4.out q5)
    rw [← hww] at B5
    have G6 := hidIt (known_any w5)
    clear G5 B4 hww
    go_wp2_with fail
    refine G6.out.mono ?_
    rintro e w6 ⟨rfl, b6⟩
    have B6 := hidIt (B5.out.trans (b6.mono B5.out.size))
    clear b6 B5 G6
    go_wp2
    go_ret
    exact ⟨rfl, B6.out⟩
  · have hV := hv
    have hb' : ¬ (1100 : Int) < (lb.length : Int) := by omega
    clear hv
    have hlb : (lb.length : Int) ≤ 1100 := by omega
    have hlb2 : lb.length ≤ 140737488351232 := by omega
    have G1 := hidIt (roomy_any (.slice ao lb.length cap) lb w hV hlb2)
    have HVW := hidIt hV
    have hby : AllBytes lb := by obtain ⟨_, _, _, _, _, h, _⟩ := hV; exact h
    have HDZ := hidIt (fun V W h => decode_any V lb W h)
    have HRZ := hidIt (fun V W h => rdecode_any hN V lb W h)
    have HIN := hidIt (fun g vb W h1 h2 => intact_any g vb lb W h1 h2 hlb2)
    have HFR := hidIt (fun (W : World) g h => view_front (w := W) (g := g) hby (by unfold maxLen; omega) h)
    generalize decZ5 lb = Z at *
    obtain ⟨m, why, place⟩ := Z
    simp only at HDZ HRZ
    clear hV hby
    go_enter Try.func4, Try.ntmps4
    go_wp2_with fail
    refine G1.out.mono ?_
    rintro e w1 ⟨b1, rfl, l1⟩
    have B1 := hidIt b1
    have HL1 := hidIt l1
    have HV1 := hidIt (HVW.out.below b1)
    have G2 := hidIt (HDZ.out _ w1 (HFR.out w1 w.heap.size l1))
    clear G1 HDZ HFR b1 l1 HVW
    go_wp2_with fail
    refine G2.out.mono ?_
    rintro e w2 ⟨b2, v2, rfl, o2⟩
    obtain ⟨ao2, cap2, rfl⟩ := own_slice o2
    have B2 := hidIt (B1.out.trans (b2.mono B1.out.size))
    have HL2 : Hid (Lies w2 w.heap.size 0 (roomy lb)) := fun j x hj => cell_later b2 (HL1.out j x hj)
    have HV2 := hidIt (HV1.out.below b2)
    have HI2 := hidIt (IView.of_own o2)
    have G3 := hidIt (HRZ.out _ w2 HV2.out)
    clear G2 HRZ b2 o2 HL1 HV1 B1
    go_wp2_with fail
    refine G3.out.mono ?_
    rintro e w3 ⟨b3, v3, rfl, o3⟩
    obtain ⟨ao3, cap3, rfl⟩ := own_slice o3
    have B3 := hidIt (B2.out.trans (b3.mono B2.out.size))
    have HL3 : Hid (Lies w3 w.heap.size 0 (roomy lb)) := fun j x hj => cell_later b3 (HL2.out j x hj)
    have HV3 := hidIt (HV2.out.below b3)
    have G4 := hidIt (isame_any _ _ m w3 (HI2.out.below b3) (IView.of_own o3))
    clear G3 b3 o3 HL2 HV2 B2 HI2
    go_wp2_with fail
    refine G4.out.mono ?_
    rintro e w4 ⟨rfl, q4, hww⟩
    have B4 := hidIt (below_drewN B3.out q4)
    have G5 := hidIt (HIN.out w.heap.size _ (w3.drewN q4) (fun j x hj => HL3.out j x hj) (HV3.out.drewN q4))
    rw [← hww] at B4 G5
    clear G4 HL3 HV3 B3 HIN hww
    go_wp2_with fail
    refine G5.out.mono ?_
    rintro e w5 ⟨rfl, q5, hww⟩
    have B5 := hidIt (below_drewN B4.out q5)
    rw [← hww] at B5
    have G6 := hidIt (known_any w5)
    clear G5 B4 hww
    go_wp2_with fail
    refine G6.out.mono ?_
    rintro e w6 ⟨rfl, b6⟩
    have B6 := hidIt (B5.out.trans (b6.mono B5.out.size))
    clear b6 B5 G6
    go_wp2
    go_ret
    exact ⟨rfl, B6.out⟩
end Go.Proofs.Ytcmneinhcfejhaa
