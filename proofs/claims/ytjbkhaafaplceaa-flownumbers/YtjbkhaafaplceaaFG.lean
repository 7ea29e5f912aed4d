/- The document's own Next, lay and End; Same over numbers and over truths: walked. -/
import Derived.Test.YtjbkhaafaplceaaFF
import Derived.Test.YtjbkhaafaplceaaRZ
import Derived.Deep.RegionHeld3
namespace Go.Proofs.Ytjbkhaafaplceaa
open Go.RowKit

theorem nextL_put (l : List IN) (k : Nat) (x : IN) : nextL l k x = (if tgtZ l x < 0 then (if !endsB x.op && decide (k + 1 < l.length) then putS ((k : Int) + 1) [] false else []) else putS (tgtZ l x) (if !endsB x.op && decide (k + 1 < l.length) then putS ((k : Int) + 1) [] false else []) false) := by
  unfold nextL
  by_cases h1 : (!endsB x.op && decide (k + 1 < l.length)) = true
  · simp only [if_pos h1]
    by_cases h2 : tgtZ l x < 0
    · simp only [if_pos h2]; rfl
    · simp only [if_neg h2]
      rw [show putS ((k : Int) + 1) [] false = [(k : Int) + 1] from rfl, putS_cons, putS_nil]
      by_cases h3 : tgtZ l x < (k : Int) + 1
      · rw [if_pos h3, decide_eq_true (show tgtZ l x ≤ (k : Int) + 1 by omega), if_neg (show ¬ (k : Int) + 1 = tgtZ l x by omega)]; rfl
      · rw [if_neg h3]
        by_cases h4 : tgtZ l x = (k : Int) + 1
        · rw [if_pos h4, decide_eq_true (show tgtZ l x ≤ (k : Int) + 1 by omega), if_pos h4.symm, h4]; rfl
        · rw [if_neg h4, decide_eq_false (show ¬ tgtZ l x ≤ (k : Int) + 1 by omega), if_neg (show ¬ (k : Int) + 1 = tgtZ l x by omega)]; rfl
  · simp only [if_neg h1]
    by_cases h2 : tgtZ l x < 0
    · simp only [if_pos h2]
    · simp only [if_neg h2]; rfl
set_option maxRecDepth 8000 in
set_option maxHeartbeats 4000000 in
theorem rnext_any (v : Value) (l : List IN) (n : Int) (w : World) (hv : IView w v l) :
    Calls Try.prog 16 #[v, .int .i64 n] w fun e w' => ∃ v', e = .returned v' ∧ NOwn w' w.heap.size v' (nextZ l n) ∧ Below w.heap.size w w' := by
  have HV := hidIt hv
  obtain ⟨ao, cap, rfl, hc, hm, _⟩ := hv
  unfold maxLen at hm
  by_cases h0 : n < 0
  · rw [nextZ_out (.inl h0)]
    go_enter Try.func16, Try.ntmps16
    go_wp2
    go_ret
    exact ⟨_, rfl, NOwn.nil _ _, Below.refl _ _⟩
  by_cases h1 : (l.length : Int) ≤ n
  · rw [nextZ_out (.inr h1)]
    go_enter Try.func16, Try.ntmps16
    go_wp2
    go_ret
    exact ⟨_, rfl, NOwn.nil _ _, Below.refl _ _⟩
  obtain ⟨k, rfl⟩ := Int.eq_ofNat_of_zero_le (Int.not_lt.1 h0)
  have hk : k < l.length := by omega
  have hk' : (k : Int) < (l.length : Int) := by omega
  obtain ⟨x, hx⟩ : ∃ x, l[k]? = some x := ⟨l[k], List.getElem?_eq_getElem hk⟩
  rw [nextZ_at hx, nextL_put]
  obtain ⟨g, off, rfl, c0, c1, c2, c3⟩ := HV.out.row hx
  have GE := hidIt (fun W => rends x.op W)
  have GB := hidIt (fun W => rbranch x.op W)
  have GF := hidIt (fun W (h : Below w.heap.size w W) => rfind_any _ l x.a W (HV.out.below h))
  have GP := hidIt (fun v l n w => rput_any v l n w)
  have HT : Hid (tgtZ l x = if kd x.op = 6 then findZ l x.a else -1) := by show _ = _; rfl
  clear hx HV
  generalize findZ l x.a = F at *
  generalize tgtZ l x = t at *
  have C0 := hidIt c0
  have C1 := hidIt c1
  have C2 := hidIt c2
  have C3 := hidIt c3
  have HB := hidIt (Below.refl w.heap.size w)
  have HO := hidIt (NOwn.nil w w.heap.size)
  have hz : w.heap.size ≤ w.heap.size := Nat.le_refl _
  have hlast := Nat.lt_or_ge (k + 1) l.length
  rcases hlast with hlast | hlast
  · have hlast' : (k : Int) + 1 < (l.length : Int) := by omega
    rw [decide_eq_true (show k + 1 < l.length by omega)]
    cases he : endsB x.op with
    | true =>
      rw [he] at GE
      rw [if_neg (show ¬ (!true && true) = true by decide)]
      by_cases h6 : kd x.op = 6
      · rw [decide_eq_true h6] at GB
        rw [if_pos h6] at HT
        obtain rfl : t = F := HT.out
        rcases Int.lt_or_le t 0 with htn | htn
        · have htn' : ¬ 0 ≤ t := by omega
          rw [if_pos (show t < 0 by omega)]
          go_enter Try.func16, Try.ntmps16
          go_wp2_with (first | (go_at_call 25; refine (GE.out _).mono ?_; rintro e w' ⟨rfl, hww⟩; cases hww) | (go_at_call 24; refine (GB.out _).mono ?_; rintro e w' ⟨rfl, hww⟩; cases hww) | (go_at_call 17; refine (GF.out _ HB.out).mono ?_; rintro e w' ⟨rfl, hww⟩; cases hww) | (go_at_call 38; refine (GP.out _ _ _ _ HO.out.view (by first | exact Nat.zero_le _ | exact Nat.le_trans (putS_len _ _ _) (by simp))).mono ?_; clear c0 c1 c2 c3 hz; rintro e w1 ⟨v1, rfl, ho1, hb1⟩; have HB2 := hidIt (HB.out.trans (hb1.mono HB.out.size)); have HO2 := hidIt (NOwn.wk ho1 HB.out.size); clear HB HO hb1 ho1; have HB := HB2; have HO := HO2; clear HB2 HO2; have c0 := cell_later HB.out C0.out; have c1 := cell_later HB.out C1.out; have c2 := cell_later HB.out C2.out; have c3 := cell_later HB.out C3.out; have hz := HB.out.size))
          go_ret
          exact ⟨_, rfl, HO.out, HB.out⟩
        · have htn' : 0 ≤ t := by omega
          rw [if_neg (show ¬ t < 0 by omega)]
          go_enter Try.func16, Try.ntmps16
          go_wp2_with (first | (go_at_call 25; refine (GE.out _).mono ?_; rintro e w' ⟨rfl, hww⟩; cases hww) | (go_at_call 24; refine (GB.out _).mono ?_; rintro e w' ⟨rfl, hww⟩; cases hww) | (go_at_call 17; refine (GF.out _ HB.out).mono ?_; rintro e w' ⟨rfl, hww⟩; cases hww) | (go_at_call 38; refine (GP.out _ _ _ _ HO.out.view (by first | exact Nat.zero_le _ | exact Nat.le_trans (putS_len _ _ _) (by simp))).mono ?_; clear c0 c1 c2 c3 hz; rintro e w1 ⟨v1, rfl, ho1, hb1⟩; have HB2 := hidIt (HB.out.trans (hb1.mono HB.out.size)); have HO2 := hidIt (NOwn.wk ho1 HB.out.size); clear HB HO hb1 ho1; have HB := HB2; have HO := HO2; clear HB2 HO2; have c0 := cell_later HB.out C0.out; have c1 := cell_later HB.out C1.out; have c2 := cell_later HB.out C2.out; have c3 := cell_later HB.out C3.out; have hz := HB.out.size))
          go_ret
          exact ⟨_, rfl, HO.out, HB.out⟩
      · rw [decide_eq_false h6] at GB
        rw [if_neg h6] at HT
        obtain rfl : t = -1 := HT.out
        rw [if_pos (show (-1 : Int) < 0 by decide)]
        go_enter Try.func16, Try.ntmps16
        go_wp2_with (first | (go_at_call 25; refine (GE.out _).mono ?_; rintro e w' ⟨rfl, hww⟩; cases hww) | (go_at_call 24; refine (GB.out _).mono ?_; rintro e w' ⟨rfl, hww⟩; cases hww) | (go_at_call 17; refine (GF.out _ HB.out).mono ?_; rintro e w' ⟨rfl, hww⟩; cases hww) | (go_at_call 38; refine (GP.out _ _ _ _ HO.out.view (by first | exact Nat.zero_le _ | exact Nat.le_trans (putS_len _ _ _) (by simp))).mono ?_; clear c0 c1 c2 c3 hz; rintro e w1 ⟨v1, rfl, ho1, hb1⟩; have HB2 := hidIt (HB.out.trans (hb1.mono HB.out.size)); have HO2 := hidIt (NOwn.wk ho1 HB.out.size); clear HB HO hb1 ho1; have HB := HB2; have HO := HO2; clear HB2 HO2; have c0 := cell_later HB.out C0.out; have c1 := cell_later HB.out C1.out; have c2 := cell_later HB.out C2.out; have c3 := cell_later HB.out C3.out; have hz := HB.out.size))
        go_ret
        exact ⟨_, rfl, HO.out, HB.out⟩
    | false =>
      rw [he] at GE
      rw [if_pos (show (!false && true) = true by decide)]
      by_cases h6 : kd x.op = 6
      · rw [decide_eq_true h6] at GB
        rw [if_pos h6] at HT
        obtain rfl : t = F := HT.out
        rcases Int.lt_or_le t 0 with htn | htn
        · have htn' : ¬ 0 ≤ t := by omega
          rw [if_pos (show t < 0 by omega)]
          go_enter Try.func16, Try.ntmps16
          go_wp2_with (first | (go_at_call 25; refine (GE.out _).mono ?_; rintro e w' ⟨rfl, hww⟩; cases hww) | (go_at_call 24; refine (GB.out _).mono ?_; rintro e w' ⟨rfl, hww⟩; cases hww) | (go_at_call 17; refine (GF.out _ HB.out).mono ?_; rintro e w' ⟨rfl, hww⟩; cases hww) | (go_at_call 38; refine (GP.out _ _ _ _ HO.out.view (by first | exact Nat.zero_le _ | exact Nat.le_trans (putS_len _ _ _) (by simp))).mono ?_; clear c0 c1 c2 c3 hz; rintro e w1 ⟨v1, rfl, ho1, hb1⟩; have HB2 := hidIt (HB.out.trans (hb1.mono HB.out.size)); have HO2 := hidIt (NOwn.wk ho1 HB.out.size); clear HB HO hb1 ho1; have HB := HB2; have HO := HO2; clear HB2 HO2; have c0 := cell_later HB.out C0.out; have c1 := cell_later HB.out C1.out; have c2 := cell_later HB.out C2.out; have c3 := cell_later HB.out C3.out; have hz := HB.out.size))
          go_ret
          exact ⟨_, rfl, HO.out, HB.out⟩
        · have htn' : 0 ≤ t := by omega
          rw [if_neg (show ¬ t < 0 by omega)]
          go_enter Try.func16, Try.ntmps16
          go_wp2_with (first | (go_at_call 25; refine (GE.out _).mono ?_; rintro e w' ⟨rfl, hww⟩; cases hww) | (go_at_call 24; refine (GB.out _).mono ?_; rintro e w' ⟨rfl, hww⟩; cases hww) | (go_at_call 17; refine (GF.out _ HB.out).mono ?_; rintro e w' ⟨rfl, hww⟩; cases hww) | (go_at_call 38; refine (GP.out _ _ _ _ HO.out.view (by first | exact Nat.zero_le _ | exact Nat.le_trans (putS_len _ _ _) (by simp))).mono ?_; clear c0 c1 c2 c3 hz; rintro e w1 ⟨v1, rfl, ho1, hb1⟩; have HB2 := hidIt (HB.out.trans (hb1.mono HB.out.size)); have HO2 := hidIt (NOwn.wk ho1 HB.out.size); clear HB HO hb1 ho1; have HB := HB2; have HO := HO2; clear HB2 HO2; have c0 := cell_later HB.out C0.out; have c1 := cell_later HB.out C1.out; have c2 := cell_later HB.out C2.out; have c3 := cell_later HB.out C3.out; have hz := HB.out.size))
          go_ret
          exact ⟨_, rfl, HO.out, HB.out⟩
      · rw [decide_eq_false h6] at GB
        rw [if_neg h6] at HT
        obtain rfl : t = -1 := HT.out
        rw [if_pos (show (-1 : Int) < 0 by decide)]
        go_enter Try.func16, Try.ntmps16
        go_wp2_with (first | (go_at_call 25; refine (GE.out _).mono ?_; rintro e w' ⟨rfl, hww⟩; cases hww) | (go_at_call 24; refine (GB.out _).mono ?_; rintro e w' ⟨rfl, hww⟩; cases hww) | (go_at_call 17; refine (GF.out _ HB.out).mono ?_; rintro e w' ⟨rfl, hww⟩; cases hww) | (go_at_call 38; refine (GP.out _ _ _ _ HO.out.view (by first | exact Nat.zero_le _ | exact Nat.le_trans (putS_len _ _ _) (by simp))).mono ?_; clear c0 c1 c2 c3 hz; rintro e w1 ⟨v1, rfl, ho1, hb1⟩; have HB2 := hidIt (HB.out.trans (hb1.mono HB.out.size)); have HO2 := hidIt (NOwn.wk ho1 HB.out.size); clear HB HO hb1 ho1; have HB := HB2; have HO := HO2; clear HB2 HO2; have c0 := cell_later HB.out C0.out; have c1 := cell_later HB.out C1.out; have c2 := cell_later HB.out C2.out; have c3 := cell_later HB.out C3.out; have hz := HB.out.size))
        go_ret
        exact ⟨_, rfl, HO.out, HB.out⟩
  · have hlast' : ¬ (k : Int) + 1 < (l.length : Int) := by omega
    rw [decide_eq_false (show ¬ k + 1 < l.length by omega)]
    cases he : endsB x.op with
    | true =>
      rw [he] at GE
      rw [if_neg (show ¬ (!true && false) = true by decide)]
      by_cases h6 : kd x.op = 6
      · rw [decide_eq_true h6] at GB
        rw [if_pos h6] at HT
        obtain rfl : t = F := HT.out
        rcases Int.lt_or_le t 0 with htn | htn
        · have htn' : ¬ 0 ≤ t := by omega
          rw [if_pos (show t < 0 by omega)]
          go_enter Try.func16, Try.ntmps16
          go_wp2_with (first | (go_at_call 25; refine (GE.out _).mono ?_; rintro e w' ⟨rfl, hww⟩; cases hww) | (go_at_call 24; refine (GB.out _).mono ?_; rintro e w' ⟨rfl, hww⟩; cases hww) | (go_at_call 17; refine (GF.out _ HB.out).mono ?_; rintro e w' ⟨rfl, hww⟩; cases hww) | (go_at_call 38; refine (GP.out _ _ _ _ HO.out.view (by first | exact Nat.zero_le _ | exact Nat.le_trans (putS_len _ _ _) (by simp))).mono ?_; clear c0 c1 c2 c3 hz; rintro e w1 ⟨v1, rfl, ho1, hb1⟩; have HB2 := hidIt (HB.out.trans (hb1.mono HB.out.size)); have HO2 := hidIt (NOwn.wk ho1 HB.out.size); clear HB HO hb1 ho1; have HB := HB2; have HO := HO2; clear HB2 HO2; have c0 := cell_later HB.out C0.out; have c1 := cell_later HB.out C1.out; have c2 := cell_later HB.out C2.out; have c3 := cell_later HB.out C3.out; have hz := HB.out.size))
          go_ret
          exact ⟨_, rfl, HO.out, HB.out⟩
        · have htn' : 0 ≤ t := by omega
          rw [if_neg (show ¬ t < 0 by omega)]
          go_enter Try.func16, Try.ntmps16
          go_wp2_with (first | (go_at_call 25; refine (GE.out _).mono ?_; rintro e w' ⟨rfl, hww⟩; cases hww) | (go_at_call 24; refine (GB.out _).mono ?_; rintro e w' ⟨rfl, hww⟩; cases hww) | (go_at_call 17; refine (GF.out _ HB.out).mono ?_; rintro e w' ⟨rfl, hww⟩; cases hww) | (go_at_call 38; refine (GP.out _ _ _ _ HO.out.view (by first | exact Nat.zero_le _ | exact Nat.le_trans (putS_len _ _ _) (by simp))).mono ?_; clear c0 c1 c2 c3 hz; rintro e w1 ⟨v1, rfl, ho1, hb1⟩; have HB2 := hidIt (HB.out.trans (hb1.mono HB.out.size)); have HO2 := hidIt (NOwn.wk ho1 HB.out.size); clear HB HO hb1 ho1; have HB := HB2; have HO := HO2; clear HB2 HO2; have c0 := cell_later HB.out C0.out; have c1 := cell_later HB.out C1.out; have c2 := cell_later HB.out C2.out; have c3 := cell_later HB.out C3.out; have hz := HB.out.size))
          go_ret
          exact ⟨_, rfl, HO.out, HB.out⟩
      · rw [decide_eq_false h6] at GB
        rw [if_neg h6] at HT
        obtain rfl : t = -1 := HT.out
        rw [if_pos (show (-1 : Int) < 0 by decide)]
        go_enter Try.func16, Try.ntmps16
        go_wp2_with (first | (go_at_call 25; refine (GE.out _).mono ?_; rintro e w' ⟨rfl, hww⟩; cases hww) | (go_at_call 24; refine (GB.out _).mono ?_; rintro e w' ⟨rfl, hww⟩; cases hww) | (go_at_call 17; refine (GF.out _ HB.out).mono ?_; rintro e w' ⟨rfl, hww⟩; cases hww) | (go_at_call 38; refine (GP.out _ _ _ _ HO.out.view (by first | exact Nat.zero_le _ | exact Nat.le_trans (putS_len _ _ _) (by simp))).mono ?_; clear c0 c1 c2 c3 hz; rintro e w1 ⟨v1, rfl, ho1, hb1⟩; have HB2 := hidIt (HB.out.trans (hb1.mono HB.out.size)); have HO2 := hidIt (NOwn.wk ho1 HB.out.size); clear HB HO hb1 ho1; have HB := HB2; have HO := HO2; clear HB2 HO2; have c0 := cell_later HB.out C0.out; have c1 := cell_later HB.out C1.out; have c2 := cell_later HB.out C2.out; have c3 := cell_later HB.out C3.out; have hz := HB.out.size))
        go_ret
        exact ⟨_, rfl, HO.out, HB.out⟩
    | false =>
      rw [he] at GE
      rw [if_neg (show ¬ (!false && false) = true by decide)]
      by_cases h6 : kd x.op = 6
      · rw [decide_eq_true h6] at GB
        rw [if_pos h6] at HT
        obtain rfl : t = F := HT.out
        rcases Int.lt_or_le t 0 with htn | htn
        · have htn' : ¬ 0 ≤ t := by omega
          rw [if_pos (show t < 0 by omega)]
          go_enter Try.func16, Try.ntmps16
          go_wp2_with (first | (go_at_call 25; refine (GE.out _).mono ?_; rintro e w' ⟨rfl, hww⟩; cases hww) | (go_at_call 24; refine (GB.out _).mono ?_; rintro e w' ⟨rfl, hww⟩; cases hww) | (go_at_call 17; refine (GF.out _ HB.out).mono ?_; rintro e w' ⟨rfl, hww⟩; cases hww) | (go_at_call 38; refine (GP.out _ _ _ _ HO.out.view (by first | exact Nat.zero_le _ | exact Nat.le_trans (putS_len _ _ _) (by simp))).mono ?_; clear c0 c1 c2 c3 hz; rintro e w1 ⟨v1, rfl, ho1, hb1⟩; have HB2 := hidIt (HB.out.trans (hb1.mono HB.out.size)); have HO2 := hidIt (NOwn.wk ho1 HB.out.size); clear HB HO hb1 ho1; have HB := HB2; have HO := HO2; clear HB2 HO2; have c0 := cell_later HB.out C0.out; have c1 := cell_later HB.out C1.out; have c2 := cell_later HB.out C2.out; have c3 := cell_later HB.out C3.out; have hz := HB.out.size))
          go_ret
          exact ⟨_, rfl, HO.out, HB.out⟩
        · have htn' : 0 ≤ t := by omega
          rw [if_neg (show ¬ t < 0 by omega)]
          go_enter Try.func16, Try.ntmps16
          go_wp2_with (first | (go_at_call 25; refine (GE.out _).mono ?_; rintro e w' ⟨rfl, hww⟩; cases hww) | (go_at_call 24; refine (GB.out _).mono ?_; rintro e w' ⟨rfl, hww⟩; cases hww) | (go_at_call 17; refine (GF.out _ HB.out).mono ?_; rintro e w' ⟨rfl, hww⟩; cases hww) | (go_at_call 38; refine (GP.out _ _ _ _ HO.out.view (by first | exact Nat.zero_le _ | exact Nat.le_trans (putS_len _ _ _) (by simp))).mono ?_; clear c0 c1 c2 c3 hz; rintro e w1 ⟨v1, rfl, ho1, hb1⟩; have HB2 := hidIt (HB.out.trans (hb1.mono HB.out.size)); have HO2 := hidIt (NOwn.wk ho1 HB.out.size); clear HB HO hb1 ho1; have HB := HB2; have HO := HO2; clear HB2 HO2; have c0 := cell_later HB.out C0.out; have c1 := cell_later HB.out C1.out; have c2 := cell_later HB.out C2.out; have c3 := cell_later HB.out C3.out; have hz := HB.out.size))
          go_ret
          exact ⟨_, rfl, HO.out, HB.out⟩
      · rw [decide_eq_false h6] at GB
        rw [if_neg h6] at HT
        obtain rfl : t = -1 := HT.out
        rw [if_pos (show (-1 : Int) < 0 by decide)]
        go_enter Try.func16, Try.ntmps16
        go_wp2_with (first | (go_at_call 25; refine (GE.out _).mono ?_; rintro e w' ⟨rfl, hww⟩; cases hww) | (go_at_call 24; refine (GB.out _).mono ?_; rintro e w' ⟨rfl, hww⟩; cases hww) | (go_at_call 17; refine (GF.out _ HB.out).mono ?_; rintro e w' ⟨rfl, hww⟩; cases hww) | (go_at_call 38; refine (GP.out _ _ _ _ HO.out.view (by first | exact Nat.zero_le _ | exact Nat.le_trans (putS_len _ _ _) (by simp))).mono ?_; clear c0 c1 c2 c3 hz; rintro e w1 ⟨v1, rfl, ho1, hb1⟩; have HB2 := hidIt (HB.out.trans (hb1.mono HB.out.size)); have HO2 := hidIt (NOwn.wk ho1 HB.out.size); clear HB HO hb1 ho1; have HB := HB2; have HO := HO2; clear HB2 HO2; have c0 := cell_later HB.out C0.out; have c1 := cell_later HB.out C1.out; have c2 := cell_later HB.out C2.out; have c3 := cell_later HB.out C3.out; have hz := HB.out.size))
        go_ret
        exact ⟨_, rfl, HO.out, HB.out⟩
set_option maxRecDepth 8000 in
set_option maxHeartbeats 2000000 in
theorem rlay_any (B : Nat) (v u : Value) (l : List IN) (d : List Int) (n : Int) (w : World) (hv : NOwn w B v d) (hu : IView w u l) (hd : d.length ≤ 1000000000000) (hB : B ≤ w.heap.size) :
    Calls Try.prog 40 #[v, u, .int .i64 n] w fun e w' => ∃ v', e = .returned v' ∧ NOwn w' B v' (if 0 ≤ n ∧ n < l.length then putS n d false else d) ∧ Below w.heap.size w w' := by
  have GP := hidIt (rput_any v d n w hv.view hd)
  have HO := hidIt hv
  obtain ⟨ao, cap, rfl⟩ := own_slice hv
  obtain ⟨ao2, cap2, rfl, hc, hm, _⟩ := hu
  clear hv
  by_cases h0 : n < 0
  · rw [if_neg (by omega)]
    go_enter Try.func40, Try.ntmps40
    go_wp2
    go_ret
    exact ⟨_, rfl, HO.out, Below.refl _ _⟩
  by_cases h1 : (l.length : Int) ≤ n
  · rw [if_neg (by omega)]
    go_enter Try.func40, Try.ntmps40
    go_wp2
    go_ret
    exact ⟨_, rfl, HO.out, Below.refl _ _⟩
  rw [if_pos (by omega)]
  go_enter Try.func40, Try.ntmps40
  go_wp2_with (go_at_call 38; refine GP.out.mono ?_; rintro e w1 ⟨v1, rfl, ho1, hb1⟩)
  go_ret
  exact ⟨_, rfl, own_wk ho1 hB, hb1⟩
set_option maxRecDepth 8000 in
set_option maxHeartbeats 2000000 in
theorem nsame_any (v u : Value) (l : List Int) (w : World) (hv : NView w v l) (hu : NView w u l) :
    Calls Try.prog 10 #[v, u] w fun e w' => e = .returned (.bool true) ∧ ∃ q, w' = w.drewN q := by
  have HV := hidIt hv
  have HU := hidIt hu
  obtain ⟨ao, cap, rfl, hc, hm, _⟩ := hv
  obtain ⟨ao2, cap2, rfl, hc2, hm2, _⟩ := hu
  unfold maxLen at hm hm2
  go_enter Try.func10, Try.ntmps10
  go_wp2
  go_loopw [5] (fun i wr => ∃ k q : Nat, i = .int .i64 (k : Int) ∧ k ≤ l.length ∧ wr = w.drewN q) (fun i _ => l.length - (intOf i).toNat)
  case atStart => exact ⟨0, 0, rfl, Nat.zero_le _, rfl⟩
  case round =>
    obtain ⟨k, q, rfl, hk, rfl⟩ := hrel
    by_cases hlt : k < l.length
    · have hlt' : (k : Int) < (l.length : Int) := by omega
      obtain ⟨x, hx⟩ : ∃ x, l[k]? = some x := ⟨l[k], List.getElem?_eq_getElem hlt⟩
      obtain ⟨g, off, rfl, c0⟩ := HV.out.row hx
      obtain ⟨g', off', rfl, d0⟩ := HU.out.row hx
      clear hx
      go_wp2
      go_quiet (fail)
      go_wp2
      exact ⟨⟨k + 1, _, by go_num, by omega, rfl⟩, by simp [intOf]; omega⟩
    · have hlt' : ¬ (k : Int) < (l.length : Int) := by omega
      go_wp2
      go_ret
      exact ⟨rfl, _, rfl⟩
/-- v is a slice that holds the truths l. -/
def BView (w : World) (v : Value) (l : List Bool) : Prop :=
  ∃ ao cap, v = .slice ao l.length cap ∧ l.length ≤ cap ∧ cap ≤ maxLen ∧ (l = [] ∨ ∃ g off, ao = some ⟨g, off, none⟩ ∧ ∀ (j : Nat) (x : Bool), l[j]? = some x → w.cell? ⟨g, off + j, none⟩ = some (.bool x))
theorem BView.below {w w' : World} {v : Value} {l : List Bool} (h : BView w v l) (hb : Below w.heap.size w w') : BView w' v l := by
  obtain ⟨ao, cap, e, hc, hm, hl⟩ := h
  refine ⟨ao, cap, e, hc, hm, ?_⟩
  rcases hl with h | ⟨g, off, e, hl⟩
  · exact .inl h
  · exact .inr ⟨g, off, e, fun j x hj => cell_later hb (hl j x hj)⟩
theorem BView.row {w : World} {ao : Option Addr} {n cap : Nat} {l : List Bool} (h : BView w (.slice ao n cap) l) {j : Nat} {x : Bool} (hj : l[j]? = some x) : ∃ g off, ao = some ⟨g, off, none⟩ ∧ w.cell? ⟨g, off + j, none⟩ = some (.bool x) := by
  obtain ⟨ao', cap', e, hc, hm, hl⟩ := h
  cases e
  rcases hl with rfl | ⟨g, off, rfl, hl⟩
  · simp at hj
  · exact ⟨g, off, rfl, hl j x hj⟩
set_option maxRecDepth 8000 in
set_option maxHeartbeats 2000000 in
theorem bsame_any (v u : Value) (l : List Bool) (w : World) (hv : BView w v l) (hu : BView w u l) :
    Calls Try.prog 21 #[v, u] w fun e w' => e = .returned (.bool true) ∧ ∃ q, w' = w.drewN q := by
  have HV := hidIt hv
  have HU := hidIt hu
  obtain ⟨ao, cap, rfl, hc, hm, _⟩ := hv
  obtain ⟨ao2, cap2, rfl, hc2, hm2, _⟩ := hu
  unfold maxLen at hm hm2
  go_enter Try.func21, Try.ntmps21
  go_wp2
  go_loopw [5] (fun i wr => ∃ k q : Nat, i = .int .i64 (k : Int) ∧ k ≤ l.length ∧ wr = w.drewN q) (fun i _ => l.length - (intOf i).toNat)
  case atStart => exact ⟨0, 0, rfl, Nat.zero_le _, rfl⟩
  case round =>
    obtain ⟨k, q, rfl, hk, rfl⟩ := hrel
    by_cases hlt : k < l.length
    · have hlt' : (k : Int) < (l.length : Int) := by omega
      obtain ⟨x, hx⟩ : ∃ x, l[k]? = some x := ⟨l[k], List.getElem?_eq_getElem hlt⟩
      obtain ⟨g, off, rfl, c0⟩ := HV.out.row hx
      obtain ⟨g', off', rfl, d0⟩ := HU.out.row hx
      clear hx
      go_wp2
      go_quiet (fail)
      go_wp2
      exact ⟨⟨k + 1, _, by go_num, by omega, rfl⟩, by simp [intOf]; omega⟩
    · have hlt' : ¬ (k : Int) < (l.length : Int) := by omega
      go_wp2
      go_ret
      exact ⟨rfl, _, rfl⟩
end Go.Proofs.Ytjbkhaafaplceaa
