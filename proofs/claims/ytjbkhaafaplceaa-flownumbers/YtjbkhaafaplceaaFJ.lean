/- Check of package flow, the whole: walked. -/
import Derived.Test.YtjbkhaafaplceaaFI
namespace Go.Proofs.Ytjbkhaafaplceaa
open Go.RowKit

set_option maxRecDepth 8000 in
set_option maxHeartbeats 4000000 in
theorem check_any (v u f : Value) (l : List IN) (h : List HN) (fr : List FN) (w : World) (hv : IView w v l) (hu : HView w u h) (hf : FView w f fr) (hp : Places l) :
    Calls Try.prog 9 #[v, u, f] w fun e w' => Ans (checkZ l h fr) e ∧ Below w.heap.size w w' := by
  have HU := hidIt hu
  have GC := hidIt (checkCode_any v l w hv)
  have GF := hidIt (fun W (hb : Below w.heap.size w W) => checkFrames_any v f l fr W (hv.below hb) (hf.below hb))
  have hC : (codeZ l).1 = 0 → 0 < l.length := by
    intro h
    rcases Nat.eq_zero_or_pos l.length with h0 | h0
    · rw [List.length_eq_zero_iff.1 h0] at h; cases h
    · exact h0
  have GR := hidIt (fun (x : HN) W (h0 : 0 < l.length) (hb : Below w.heap.size w W) => rightH_any v l x W (hv.below hb) h0 hp)
  unfold HN.val at GR
  obtain ⟨ao0, cap0, rfl, -⟩ := hv
  obtain ⟨ao, cap, rfl, hc, hm, _⟩ := hu
  obtain ⟨ao2, cap2, rfl, -⟩ := hf
  unfold maxLen at hm
  have HZ : Hid (checkZ l h fr = if (codeZ l).1 ≠ 0 then codeZ l else handF l (framF l none fr) h) := rfl
  generalize checkZ l h fr = Z at *
  unfold Ans at GC GF
  generalize framF l none fr = FZ at *
  generalize hcz : codeZ l = CZ at *
  obtain ⟨q1, q2⟩ := CZ
  clear hcz hp
  by_cases hq : q1 = 0
  · have HL := hidIt (hC hq)
    subst hq
    rw [if_neg (by simp)] at HZ
    have HA0 : Hid (handF l FZ (h.drop 0) = Z) := HZ.out.symm
    clear hC HZ
    go_enter Try.func9, Try.ntmps9
    go_wp2_with (go_at_call 26; refine GC.out.mono ?_; rintro e w1 ⟨rfl, hb1⟩; have HB1 := hidIt hb1; clear hb1)
    go_loopw [11, 23] (fun _ i wr => ∃ k : Nat, k ≤ h.length ∧ i = .int .i64 (k : Int) ∧ Below w.heap.size w wr ∧ handF l FZ (h.drop k) = Z) (fun _ i _ => h.length - (intOf i).toNat)
    case atStart => exact ⟨0, Nat.zero_le _, rfl, HB1.out, HA0.out⟩
    case round =>
      clear HB1 HA0
      obtain ⟨k, hk, rfl, hb, hA⟩ := hrel
      have HB := hidIt hb
      have HA := hidIt hA
      have hz := hb.size
      clear hb hA
      by_cases hlt : k < h.length
      · have hlt' : (k : Int) < (h.length : Int) := by omega
        obtain ⟨x, hx⟩ : ∃ x, h[k]? = some x := ⟨h[k], List.getElem?_eq_getElem hlt⟩
        obtain ⟨g, off, rfl, c0, c1, c2, c3⟩ := (HU.out.below HB.out).row hx
        rw [drop_at hx, handF_cons] at HA
        have hA1 := below_alloc wr (.cells #[.int .i64 x.f, .int .i64 x.t, .int .i64 x.a, .string x.ty] 30)
        have HB1 := hidIt (HB.out.trans (hA1.mono HB.out.size))
        have hX := hbox_at wr x
        have G2 := hidIt (GR.out x _ HL.out HB1.out)
        obtain ⟨d0, d1, d2, d3⟩ := hX
        clear hx HU hA1
        cases hr : handB l x with
        | true =>
          rw [hr] at G2 HA
          go_wp2_with (first | (go_at_call 27; refine G2.out.mono ?_; rintro e w1 ⟨rfl, hb1⟩))
          exact ⟨⟨k + 1, by omega, by go_num, HB1.out.trans (hb1.mono HB1.out.size), by simpa using HA.out⟩, by simp [intOf]; omega⟩
        | false =>
          rw [hr] at G2 HA
          go_wp2_with (first | (go_at_call 27; refine G2.out.mono ?_; rintro e w1 ⟨rfl, hb1⟩; have e0 := cell_later hb1 d0))
          go_quiet (fail)
          go_wp2
          go_ret2
          refine ⟨?_, below_drewN (HB1.out.trans (hb1.mono HB1.out.size)) _⟩
          rw [← (show (16, x.f) = Z by simpa using HA.out)]
          rfl
      · have hlt' : ¬ (k : Int) < (h.length : Int) := by omega
        obtain rfl : k = h.length := by omega
        rw [List.drop_length] at HA
        have HA2 : Hid (FZ = Z) := HA.out
        clear HA
        go_wp2_with (first | (go_at_call 28; refine (GF.out _ HB.out).mono ?_; rintro e w1 ⟨rfl, hb1⟩))
        go_ret2
        refine ⟨?_, HB.out.trans (hb1.mono HB.out.size)⟩
        rw [← HA2.out]
        rfl
  · have hq' : (q1 == 0) = false := by simpa using hq
    rw [if_pos (by simpa using hq)] at HZ
    clear hC
    go_enter Try.func9, Try.ntmps9
    go_wp2_with (go_at_call 26; refine GC.out.mono ?_; rintro e w1 ⟨rfl, hb1⟩; have HB1 := hidIt hb1; clear hb1)
    go_ret2
    refine ⟨?_, HB1.out⟩
    rw [HZ.out]
    rfl
end Go.Proofs.Ytjbkhaafaplceaa
