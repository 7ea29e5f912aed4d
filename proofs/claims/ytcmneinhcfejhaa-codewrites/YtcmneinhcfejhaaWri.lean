/- CodeWrites, walked. -/
import Derived.Test.YtcmneinhcfejhaaRE
import Derived.Test.YtcmneinhcfejhaaKn
namespace Go.Proofs.Ytcmneinhcfejhaa
open Go.RowKit

theorem IView.take {w : World} {ao : Option Addr} {c n : Nat} {l : List IN} (h : IView w (.slice ao l.length c) l) (hn : n ≤ l.length) : IView w (.slice ao n c) (l.take n) := by
  obtain ⟨ao', cap, e, hc, hm, hl⟩ := h
  cases e
  refine ⟨ao, c, by rw [List.length_take, Nat.min_eq_left hn], by rw [List.length_take]; omega, hm, ?_⟩
  rcases hl with rfl | ⟨g, off, e, hl⟩
  · exact .inl (by simp)
  · refine .inr ⟨g, off, e, fun j x hj => hl j x ?_⟩
    rw [List.getElem?_take] at hj
    split at hj
    · exact hj
    · cases hj
set_option maxRecDepth 8000 in
set_option maxHeartbeats 8000000 in
theorem writes_any (hN : NameC) (vl : Value) (ll : List IN) (w : World) (hv : IView w vl ll) :
    Calls Try.prog 5 #[vl] w fun e w' => e = .returned (.bool true) ∧ Below w.heap.size w w' := by
  obtain ⟨ao, cap, rfl, hc, hm, _⟩ := id hv
  unfold maxLen at hm
  by_cases hbig : 400 < ll.length
  · have hV := hv.take (n := 400) (by omega)
    have hb' : (400 : Int) < (ll.length : Int) := by omega
    have hc' : (400 : Int) ≤ (cap : Int) := by omega
    have hl11 : (ll.take 400).length = 400 := by rw [List.length_take]; omega
    generalize ll.take 400 = l at *
    have hV' : IView w (.slice ao l.length cap) l := by rw [hl11]; exact hV
    clear hv hV
    have hV := hV'
    clear hV'
    have hlb2 : l.length ≤ 400 := by omega
    have HVW := hidIt hV
    have G1 := hidIt (encode_any (.slice ao l.length cap) l w hV (by omega))
    have HRZ := hidIt (fun V W h => rencode_any hN V l W h hlb2)
    have HAB := hidIt (enc_bytes l [] AllBytes.nil)
    generalize encL l [] = Z at *
    obtain ⟨zc, zf⟩ := Z
    simp only at G1 HRZ HAB
    clear hV
    go_enter Try.func5, Try.ntmps5
    have HL11 := hidIt hl11
    clear hl11
    go_wp2_with fail
    rw [← HL11.out]
    refine G1.out.mono ?_
    rintro e w1 ⟨b1, v1, rfl, o1⟩
    have B1 := hidIt b1
    have HV1 := hidIt (HVW.out.below b1)
    have HW1 := hidIt (View.of_own o1 HAB.out)
    have G2 := hidIt (HRZ.out _ w1 HV1.out)
    obtain ⟨ao1, cap1, rfl⟩ := own_slice o1
    clear G1 HRZ b1 o1 HVW
    go_wp2_with fail
    refine G2.out.mono ?_
    rintro e w2 ⟨b2, v2, rfl, o2⟩
    have B2 := hidIt (B1.out.trans (b2.mono B1.out.size))
    have hS1 := run_string (HW1.out.below b2)
    have HW2 := View.of_own o2 HAB.out
    obtain ⟨ao2, cap2, rfl⟩ := own_slice o2
    have hS2 := run_string HW2
    have G3 := hidIt (known_any w2)
    clear G2 b2 o2 HW1 HW2 HV1 B1 HAB
    go_wp2_with fail
    refine G3.out.mono ?_
    rintro e w3 ⟨rfl, b3⟩
    have B3 := hidIt (B2.out.trans (b3.mono B2.out.size))
    clear b3 B2 G3
    go_wp2
    go_ret
    exact ⟨rfl, B3.out⟩
  · have hV := hv
    have hb' : ¬ (400 : Int) < (ll.length : Int) := by omega
    clear hv
    have hlb2 : ll.length ≤ 400 := by omega
    have HVW := hidIt hV
    have G1 := hidIt (encode_any (.slice ao ll.length cap) ll w hV (by omega))
    have HRZ := hidIt (fun V W h => rencode_any hN V ll W h hlb2)
    have HAB := hidIt (enc_bytes ll [] AllBytes.nil)
    generalize encL ll [] = Z at *
    obtain ⟨zc, zf⟩ := Z
    simp only at G1 HRZ HAB
    clear hV
    go_enter Try.func5, Try.ntmps5
    go_wp2_with fail
    refine G1.out.mono ?_
    rintro e w1 ⟨b1, v1, rfl, o1⟩
    have B1 := hidIt b1
    have HV1 := hidIt (HVW.out.below b1)
    have HW1 := hidIt (View.of_own o1 HAB.out)
    have G2 := hidIt (HRZ.out _ w1 HV1.out)
    obtain ⟨ao1, cap1, rfl⟩ := own_slice o1
    clear G1 HRZ b1 o1 HVW
    go_wp2_with fail
    refine G2.out.mono ?_
    rintro e w2 ⟨b2, v2, rfl, o2⟩
    have B2 := hidIt (B1.out.trans (b2.mono B1.out.size))
    have hS1 := run_string (HW1.out.below b2)
    have HW2 := View.of_own o2 HAB.out
    obtain ⟨ao2, cap2, rfl⟩ := own_slice o2
    have hS2 := run_string HW2
    have G3 := hidIt (known_any w2)
    clear G2 b2 o2 HW1 HW2 HV1 B1 HAB
    go_wp2_with fail
    refine G3.out.mono ?_
    rintro e w3 ⟨rfl, b3⟩
    have B3 := hidIt (B2.out.trans (b3.mono B2.out.size))
    clear b3 B2 G3
    go_wp2
    go_ret
    exact ⟨rfl, B3.out⟩
end Go.Proofs.Ytcmneinhcfejhaa
