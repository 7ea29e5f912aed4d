/- Texts FG LVh LVk FGa. -/
import Derived.Test.YtlnapfeglbdecaaBm03
import Derived.Test.YtlnapfeglbdecaaBm02
import Derived.Deep.RegionHeld3
import Derived.Test.YtlnapfeglbdecaaBm06
namespace Go.Proofs.Ytlnapfeglbdecaa
open Go.RowKit

theorem nextL_put (l : List IN) (k : Nat) (x : IN) : nextL l k x = (if tgtZ l x < 0 then (if !endsB x.op && decide (k + 1 < l.length) then putS ((k : Int) + 1) [] false else []) else putS (tgtZ l x) (if !endsB x.op && decide (k + 1 < l.length) then putS ((k : Int) + 1) [] false else []) false) := by
  unfold nextL
  by_cases h1 : (!endsB x.op && decide (k + 1 < l.length)) = true
  · simp only [if_pos h1]
    by_cases h2 : tgtZ l x < 0
    · simp only [if_pos h2]; rfl
    · simp only [if_neg h2]
      rw [show putS ((k : Int) + 1) [] false = [(k : Int) + 1] from rfl, putS_cons, putS_nil]
      by_cases h3 : tgtZ l x < (k : Int) + 1
      · rw [if_pos h3, decide_eq_true (show tgtZ l x ≤ (k : Int) + 1 by omega), if_neg (show ¬ (k : Int) + 1 = tgtZ l x by omega)]; rfl
      · rw [if_neg h3]
        by_cases h4 : tgtZ l x = (k : Int) + 1
        · rw [if_pos h4, decide_eq_true (show tgtZ l x ≤ (k : Int) + 1 by omega), if_pos h4.symm, h4]; rfl
        · rw [if_neg h4, decide_eq_false (show ¬ tgtZ l x ≤ (k : Int) + 1 by omega), if_neg (show ¬ (k : Int) + 1 = tgtZ l x by omega)]; rfl
  · simp only [if_neg h1]
    by_cases h2 : tgtZ l x < 0
    · simp only [if_pos h2]
    · simp only [if_neg h2]; rfl
set_option maxRecDepth 8000 in
set_option maxHeartbeats 4000000 in
theorem rnext_any (v : Value) (l : List IN) (n : Int) (w : World) (hv : IView w v l) :
    Calls Try.prog 12 #[v, .int .i64 n] w fun e w' => ∃ v', e = .returned v' ∧ NOwn w' w.heap.size v' (nextZ l n) ∧ Below w.heap.size w w' := by
  have HV := hidIt hv
  obtain ⟨ao, cap, rfl, hc, hm, _⟩ := hv
  unfold maxLen at hm
  by_cases h0 : n < 0
  · rw [nextZ_out (.inl h0)]
    go_enter Try.func12, Try.ntmps12
    go_wp2
    go_ret
    exact ⟨_, rfl, NOwn.nil _ _, Below.refl _ _⟩
  by_cases h1 : (l.length : Int) ≤ n
  · rw [nextZ_out (.inr h1)]
    go_enter Try.func12, Try.ntmps12
    go_wp2
    go_ret
    exact ⟨_, rfl, NOwn.nil _ _, Below.refl _ _⟩
  obtain ⟨k, rfl⟩ := Int.eq_ofNat_of_zero_le (Int.not_lt.1 h0)
  have hk : k < l.length := by omega
  have hk' : (k : Int) < (l.length : Int) := by omega
  obtain ⟨x, hx⟩ : ∃ x, l[k]? = some x := ⟨l[k], List.getElem?_eq_getElem hk⟩
  rw [nextZ_at hx, nextL_put]
  obtain ⟨g, off, rfl, c0, c1, c2, c3⟩ := HV.out.row hx
  have GE := hidIt (fun W => rends x.op W)
  have GB := hidIt (fun W => rbranch x.op W)
  have GF := hidIt (fun W (h : Below w.heap.size w W) => rfind_any _ l x.a W (HV.out.below h))
  have GP := hidIt (fun v l n w => rput_any v l n w)
  have HT : Hid (tgtZ l x = if kd x.op = 6 then findZ l x.a else -1) := by show _ = _; rfl
  clear hx HV
  generalize findZ l x.a = F at *
  generalize tgtZ l x = t at *
  have C0 := hidIt c0
  have C1 := hidIt c1
  have C2 := hidIt c2
  have C3 := hidIt c3
  have HB := hidIt (Below.refl w.heap.size w)
  have HO := hidIt (NOwn.nil w w.heap.size)
  have hz : w.heap.size ≤ w.heap.size := Nat.le_refl _
  have hlast := Nat.lt_or_ge (k + 1) l.length
  rcases hlast with hlast | hlast
  · have hlast' : (k : Int) + 1 < (l.length : Int) := by omega
    rw [decide_eq_true (show k + 1 < l.length by omega)]
    cases he : endsB x.op with
    | true =>
      rw [he] at GE
      rw [if_neg (show ¬ (!true && true) = true by decide)]
      by_cases h6 : kd x.op = 6
      · rw [decide_eq_true h6] at GB
        rw [if_pos h6] at HT
        obtain rfl : t = F := HT.out
        rcases Int.lt_or_le t 0 with htn | htn
        · have htn' : ¬ 0 ≤ t := by omega
          rw [if_pos (show t < 0 by omega)]
          go_enter Try.func12, Try.ntmps12
          go_wp2_with (first | (go_at_call 24; refine (GE.out _).mono ?_; rintro e w' ⟨rfl, hww⟩; cases hww) | (go_at_call 20; refine (GB.out _).mono ?_; rintro e w' ⟨rfl, hww⟩; cases hww) | (go_at_call 14; refine (GF.out _ HB.out).mono ?_; rintro e w' ⟨rfl, hww⟩; cases hww) | (go_at_call 25; refine (GP.out _ _ _ _ HO.out.view (by first | exact Nat.zero_le _ | exact Nat.le_trans (putS_len _ _ _) (by simp))).mono ?_; clear c0 c1 c2 c3 hz; rintro e w1 ⟨v1, rfl, ho1, hb1⟩; have HB2 := hidIt (HB.out.trans (hb1.mono HB.out.size)); have HO2 := hidIt (NOwn.wk ho1 HB.out.size); clear HB HO hb1 ho1; have HB := HB2; have HO := HO2; clear HB2 HO2; have c0 := cell_later HB.out C0.out; have c1 := cell_later HB.out C1.out; have c2 := cell_later HB.out C2.out; have c3 := cell_later HB.out C3.out; have hz := HB.out.size))
          go_ret
          exact ⟨_, rfl, HO.out, HB.out⟩
        · have htn' : 0 ≤ t := by omega
          rw [if_neg (show ¬ t < 0 by omega)]
          go_enter Try.func12, Try.ntmps12
          go_wp2_with (first | (go_at_call 24; refine (GE.out _).mono ?_; rintro e w' ⟨rfl, hww⟩; cases hww) | (go_at_call 20; refine (GB.out _).mono ?_; rintro e w' ⟨rfl, hww⟩; cases hww) | (go_at_call 14; refine (GF.out _ HB.out).mono ?_; rintro e w' ⟨rfl, hww⟩; cases hww) | (go_at_call 25; refine (GP.out _ _ _ _ HO.out.view (by first | exact Nat.zero_le _ | exact Nat.le_trans (putS_len _ _ _) (by simp))).mono ?_; clear c0 c1 c2 c3 hz; rintro e w1 ⟨v1, rfl, ho1, hb1⟩; have HB2 := hidIt (HB.out.trans (hb1.mono HB.out.size)); have HO2 := hidIt (NOwn.wk ho1 HB.out.size); clear HB HO hb1 ho1; have HB := HB2; have HO := HO2; clear HB2 HO2; have c0 := cell_later HB.out C0.out; have c1 := cell_later HB.out C1.out; have c2 := cell_later HB.out C2.out; have c3 := cell_later HB.out C3.out; have hz := HB.out.size))
          go_ret
          exact ⟨_, rfl, HO.out, HB.out⟩
      · rw [decide_eq_false h6] at GB
        rw [if_neg h6] at HT
        obtain rfl : t = -1 := HT.out
        rw [if_pos (show (-1 : Int) < 0 by decide)]
        go_enter Try.func12, Try.ntmps12
        go_wp2_with (first | (go_at_call 24; refine (GE.out _).mono ?_; rintro e w' ⟨rfl, hww⟩; cases hww) | (go_at_call 20; refine (GB.out _).mono ?_; rintro e w' ⟨rfl, hww⟩; cases hww) | (go_at_call 14; refine (GF.out _ HB.out).mono ?_; rintro e w' ⟨rfl, hww⟩; cases hww) | (go_at_call 25; refine (GP.out _ _ _ _ HO.out.view (by first | exact Nat.zero_le _ | exact Nat.le_trans (putS_len _ _ _) (by simp))).mono ?_; clear c0 c1 c2 c3 hz; rintro e w1 ⟨v1, rfl, ho1, hb1⟩; have HB2 := hidIt (HB.out.trans (hb1.mono HB.out.size)); have HO2 := hidIt (NOwn.wk ho1 HB.out.size); clear HB HO hb1 ho1; have HB := HB2; have HO := HO2; clear HB2 HO2; have c0 := cell_later HB.out C0.out; have c1 := cell_later HB.out C1.out; have c2 := cell_later HB.out C2.out; have c3 := cell_later HB.out C3.out; have hz := HB.out.size))
        go_ret
        exact ⟨_, rfl, HO.out, HB.out⟩
    | false =>
      rw [he] at GE
      rw [if_pos (show (!false && true) = true by decide)]
      by_cases h6 : kd x.op = 6
      · rw [decide_eq_true h6] at GB
        rw [if_pos h6] at HT
        obtain rfl : t = F := HT.out
        rcases Int.lt_or_le t 0 with htn | htn
        · have htn' : ¬ 0 ≤ t := by omega
          rw [if_pos (show t < 0 by omega)]
          go_enter Try.func12, Try.ntmps12
          go_wp2_with (first | (go_at_call 24; refine (GE.out _).mono ?_; rintro e w' ⟨rfl, hww⟩; cases hww) | (go_at_call 20; refine (GB.out _).mono ?_; rintro e w' ⟨rfl, hww⟩; cases hww) | (go_at_call 14; refine (GF.out _ HB.out).mono ?_; rintro e w' ⟨rfl, hww⟩; cases hww) | (go_at_call 25; refine (GP.out _ _ _ _ HO.out.view (by first | exact Nat.zero_le _ | exact Nat.le_trans (putS_len _ _ _) (by simp))).mono ?_; clear c0 c1 c2 c3 hz; rintro e w1 ⟨v1, rfl, ho1, hb1⟩; have HB2 := hidIt (HB.out.trans (hb1.mono HB.out.size)); have HO2 := hidIt (NOwn.wk ho1 HB.out.size); clear HB HO hb1 ho1; have HB := HB2; have HO := HO2; clear HB2 HO2; have c0 := cell_later HB.out C0.out; have c1 := cell_later HB.out C1.out; have c2 := cell_later HB.out C2.out; have c3 := cell_later HB.out C3.out; have hz := HB.out.size))
          go_ret
          exact ⟨_, rfl, HO.out, HB.out⟩
        · have htn' : 0 ≤ t := by omega
          rw [if_neg (show ¬ t < 0 by omega)]
          go_enter Try.func12, Try.ntmps12
          go_wp2_with (first | (go_at_call 24; refine (GE.out _).mono ?_; rintro e w' ⟨rfl, hww⟩; cases hww) | (go_at_call 20; refine (GB.out _).mono ?_; rintro e w' ⟨rfl, hww⟩; cases hww) | (go_at_call 14; refine (GF.out _ HB.out).mono ?_; rintro e w' ⟨rfl, hww⟩; cases hww) | (go_at_call 25; refine (GP.out _ _ _ _ HO.out.view (by first | exact Nat.zero_le _ | exact Nat.le_trans (putS_len _ _ _) (by simp))).mono ?_; clear c0 c1 c2 c3 hz; rintro e w1 ⟨v1, rfl, ho1, hb1⟩; have HB2 := hidIt (HB.out.trans (hb1.mono HB.out.size)); have HO2 := hidIt (NOwn.wk ho1 HB.out.size); clear HB HO hb1 ho1; have HB := HB2; have HO := HO2; clear HB2 HO2; have c0 := cell_later HB.out C0.out; have c1 := cell_later HB.out C1.out; have c2 := cell_later HB.out C2.out; have c3 := cell_later HB.out C3.out; have hz := HB.out.size))
          go_ret
          exact ⟨_, rfl, HO.out, HB.out⟩
      · rw [decide_eq_false h6] at GB
        rw [if_neg h6] at HT
        obtain rfl : t = -1 := HT.out
        rw [if_pos (show (-1 : Int) < 0 by decide)]
        go_enter Try.func12, Try.ntmps12
        go_wp2_with (first | (go_at_call 24; refine (GE.out _).mono ?_; rintro e w' ⟨rfl, hww⟩; cases hww) | (go_at_call 20; refine (GB.out _).mono ?_; rintro e w' ⟨rfl, hww⟩; cases hww) | (go_at_call 14; refine (GF.out _ HB.out).mono ?_; rintro e w' ⟨rfl, hww⟩; cases hww) | (go_at_call 25; refine (GP.out _ _ _ _ HO.out.view (by first | exact Nat.zero_le _ | exact Nat.le_trans (putS_len _ _ _) (by simp))).mono ?_; clear c0 c1 c2 c3 hz; rintro e w1 ⟨v1, rfl, ho1, hb1⟩; have HB2 := hidIt (HB.out.trans (hb1.mono HB.out.size)); have HO2 := hidIt (NOwn.wk ho1 HB.out.size); clear HB HO hb1 ho1; have HB := HB2; have HO := HO2; clear HB2 HO2; have c0 := cell_later HB.out C0.out; have c1 := cell_later HB.out C1.out; have c2 := cell_later HB.out C2.out; have c3 := cell_later HB.out C3.out; have hz := HB.out.size))
        go_ret
        exact ⟨_, rfl, HO.out, HB.out⟩
  · have hlast' : ¬ (k : Int) + 1 < (l.length : Int) := by omega
    rw [decide_eq_false (show ¬ k + 1 < l.length by omega)]
    cases he : endsB x.op with
    | true =>
      rw [he] at GE
      rw [if_neg (show ¬ (!true && false) = true by decide)]
      by_cases h6 : kd x.op = 6
      · rw [decide_eq_true h6] at GB
        rw [if_pos h6] at HT
        obtain rfl : t = F := HT.out
        rcases Int.lt_or_le t 0 with htn | htn
        · have htn' : ¬ 0 ≤ t := by omega
          rw [if_pos (show t < 0 by omega)]
          go_enter Try.func12, Try.ntmps12
          go_wp2_with (first | (go_at_call 24; refine (GE.out _).mono ?_; rintro e w' ⟨rfl, hww⟩; cases hww) | (go_at_call 20; refine (GB.out _).mono ?_; rintro e w' ⟨rfl, hww⟩; cases hww) | (go_at_call 14; refine (GF.out _ HB.out).mono ?_; rintro e w' ⟨rfl, hww⟩; cases hww) | (go_at_call 25; refine (GP.out _ _ _ _ HO.out.view (by first | exact Nat.zero_le _ | exact Nat.le_trans (putS_len _ _ _) (by simp))).mono ?_; clear c0 c1 c2 c3 hz; rintro e w1 ⟨v1, rfl, ho1, hb1⟩; have HB2 := hidIt (HB.out.trans (hb1.mono HB.out.size)); have HO2 := hidIt (NOwn.wk ho1 HB.out.size); clear HB HO hb1 ho1; have HB := HB2; have HO := HO2; clear HB2 HO2; have c0 := cell_later HB.out C0.out; have c1 := cell_later HB.out C1.out; have c2 := cell_later HB.out C2.out; have c3 := cell_later HB.out C3.out; have hz := HB.out.size))
          go_ret
          exact ⟨_, rfl, HO.out, HB.out⟩
        · have htn' : 0 ≤ t := by omega
          rw [if_neg (show ¬ t < 0 by omega)]
          go_enter Try.func12, Try.ntmps12
          go_wp2_with (first | (go_at_call 24; refine (GE.out _).mono ?_; rintro e w' ⟨rfl, hww⟩; cases hww) | (go_at_call 20; refine (GB.out _).mono ?_; rintro e w' ⟨rfl, hww⟩; cases hww) | (go_at_call 14; refine (GF.out _ HB.out).mono ?_; rintro e w' ⟨rfl, hww⟩; cases hww) | (go_at_call 25; refine (GP.out _ _ _ _ HO.out.view (by first | exact Nat.zero_le _ | exact Nat.le_trans (putS_len _ _ _) (by simp))).mono ?_; clear c0 c1 c2 c3 hz; rintro e w1 ⟨v1, rfl, ho1, hb1⟩; have HB2 := hidIt (HB.out.trans (hb1.mono HB.out.size)); have HO2 := hidIt (NOwn.wk ho1 HB.out.size); clear HB HO hb1 ho1; have HB := HB2; have HO := HO2; clear HB2 HO2; have c0 := cell_later HB.out C0.out; have c1 := cell_later HB.out C1.out; have c2 := cell_later HB.out C2.out; have c3 := cell_later HB.out C3.out; have hz := HB.out.size))
          go_ret
          exact ⟨_, rfl, HO.out, HB.out⟩
      · rw [decide_eq_false h6] at GB
        rw [if_neg h6] at HT
        obtain rfl : t = -1 := HT.out
        rw [if_pos (show (-1 : Int) < 0 by decide)]
        go_enter Try.func12, Try.ntmps12
        go_wp2_with (first | (go_at_call 24; refine (GE.out _).mono ?_; rintro e w' ⟨rfl, hww⟩; cases hww) | (go_at_call 20; refine (GB.out _).mono ?_; rintro e w' ⟨rfl, hww⟩; cases hww) | (go_at_call 14; refine (GF.out _ HB.out).mono ?_; rintro e w' ⟨rfl, hww⟩; cases hww) | (go_at_call 25; refine (GP.out _ _ _ _ HO.out.view (by first | exact Nat.zero_le _ | exact Nat.le_trans (putS_len _ _ _) (by simp))).mono ?_; clear c0 c1 c2 c3 hz; rintro e w1 ⟨v1, rfl, ho1, hb1⟩; have HB2 := hidIt (HB.out.trans (hb1.mono HB.out.size)); have HO2 := hidIt (NOwn.wk ho1 HB.out.size); clear HB HO hb1 ho1; have HB := HB2; have HO := HO2; clear HB2 HO2; have c0 := cell_later HB.out C0.out; have c1 := cell_later HB.out C1.out; have c2 := cell_later HB.out C2.out; have c3 := cell_later HB.out C3.out; have hz := HB.out.size))
        go_ret
        exact ⟨_, rfl, HO.out, HB.out⟩
    | false =>
      rw [he] at GE
      rw [if_neg (show ¬ (!false && false) = true by decide)]
      by_cases h6 : kd x.op = 6
      · rw [decide_eq_true h6] at GB
        rw [if_pos h6] at HT
        obtain rfl : t = F := HT.out
        rcases Int.lt_or_le t 0 with htn | htn
        · have htn' : ¬ 0 ≤ t := by omega
          rw [if_pos (show t < 0 by omega)]
          go_enter Try.func12, Try.ntmps12
          go_wp2_with (first | (go_at_call 24; refine (GE.out _).mono ?_; rintro e w' ⟨rfl, hww⟩; cases hww) | (go_at_call 20; refine (GB.out _).mono ?_; rintro e w' ⟨rfl, hww⟩; cases hww) | (go_at_call 14; refine (GF.out _ HB.out).mono ?_; rintro e w' ⟨rfl, hww⟩; cases hww) | (go_at_call 25; refine (GP.out _ _ _ _ HO.out.view (by first | exact Nat.zero_le _ | exact Nat.le_trans (putS_len _ _ _) (by simp))).mono ?_; clear c0 c1 c2 c3 hz; rintro e w1 ⟨v1, rfl, ho1, hb1⟩; have HB2 := hidIt (HB.out.trans (hb1.mono HB.out.size)); have HO2 := hidIt (NOwn.wk ho1 HB.out.size); clear HB HO hb1 ho1; have HB := HB2; have HO := HO2; clear HB2 HO2; have c0 := cell_later HB.out C0.out; have c1 := cell_later HB.out C1.out; have c2 := cell_later HB.out C2.out; have c3 := cell_later HB.out C3.out; have hz := HB.out.size))
          go_ret
          exact ⟨_, rfl, HO.out, HB.out⟩
        · have htn' : 0 ≤ t := by omega
          rw [if_neg (show ¬ t < 0 by omega)]
          go_enter Try.func12, Try.ntmps12
          go_wp2_with (first | (go_at_call 24; refine (GE.out _).mono ?_; rintro e w' ⟨rfl, hww⟩; cases hww) | (go_at_call 20; refine (GB.out _).mono ?_; rintro e w' ⟨rfl, hww⟩; cases hww) | (go_at_call 14; refine (GF.out _ HB.out).mono ?_; rintro e w' ⟨rfl, hww⟩; cases hww) | (go_at_call 25; refine (GP.out _ _ _ _ HO.out.view (by first | exact Nat.zero_le _ | exact Nat.le_trans (putS_len _ _ _) (by simp))).mono ?_; clear c0 c1 c2 c3 hz; rintro e w1 ⟨v1, rfl, ho1, hb1⟩; have HB2 := hidIt (HB.out.trans (hb1.mono HB.out.size)); have HO2 := hidIt (NOwn.wk ho1 HB.out.size); clear HB HO hb1 ho1; have HB := HB2; have HO := HO2; clear HB2 HO2; have c0 := cell_later HB.out C0.out; have c1 := cell_later HB.out C1.out; have c2 := cell_later HB.out C2.out; have c3 := cell_later HB.out C3.out; have hz := HB.out.size))
          go_ret
          exact ⟨_, rfl, HO.out, HB.out⟩
      · rw [decide_eq_false h6] at GB
        rw [if_neg h6] at HT
        obtain rfl : t = -1 := HT.out
        rw [if_pos (show (-1 : Int) < 0 by decide)]
        go_enter Try.func12, Try.ntmps12
        go_wp2_with (first | (go_at_call 24; refine (GE.out _).mono ?_; rintro e w' ⟨rfl, hww⟩; cases hww) | (go_at_call 20; refine (GB.out _).mono ?_; rintro e w' ⟨rfl, hww⟩; cases hww) | (go_at_call 14; refine (GF.out _ HB.out).mono ?_; rintro e w' ⟨rfl, hww⟩; cases hww) | (go_at_call 25; refine (GP.out _ _ _ _ HO.out.view (by first | exact Nat.zero_le _ | exact Nat.le_trans (putS_len _ _ _) (by simp))).mono ?_; clear c0 c1 c2 c3 hz; rintro e w1 ⟨v1, rfl, ho1, hb1⟩; have HB2 := hidIt (HB.out.trans (hb1.mono HB.out.size)); have HO2 := hidIt (NOwn.wk ho1 HB.out.size); clear HB HO hb1 ho1; have HB := HB2; have HO := HO2; clear HB2 HO2; have c0 := cell_later HB.out C0.out; have c1 := cell_later HB.out C1.out; have c2 := cell_later HB.out C2.out; have c3 := cell_later HB.out C3.out; have hz := HB.out.size))
        go_ret
        exact ⟨_, rfl, HO.out, HB.out⟩
def BView (w : World) (v : Value) (l : List Bool) : Prop :=
  ∃ ao cap, v = .slice ao l.length cap ∧ l.length ≤ cap ∧ cap ≤ maxLen ∧ (l = [] ∨ ∃ g off, ao = some ⟨g, off, none⟩ ∧ ∀ (j : Nat) (x : Bool), l[j]? = some x → w.cell? ⟨g, off + j, none⟩ = some (.bool x))
theorem BView.below {w w' : World} {v : Value} {l : List Bool} (h : BView w v l) (hb : Below w.heap.size w w') : BView w' v l := by
  obtain ⟨ao, cap, e, hc, hm, hl⟩ := h
  refine ⟨ao, cap, e, hc, hm, ?_⟩
  rcases hl with h | ⟨g, off, e, hl⟩
  · exact .inl h
  · exact .inr ⟨g, off, e, fun j x hj => cell_later hb (hl j x hj)⟩
theorem BView.row {w : World} {ao : Option Addr} {n cap : Nat} {l : List Bool} (h : BView w (.slice ao n cap) l) {j : Nat} {x : Bool} (hj : l[j]? = some x) : ∃ g off, ao = some ⟨g, off, none⟩ ∧ w.cell? ⟨g, off + j, none⟩ = some (.bool x) := by
  obtain ⟨ao', cap', e, hc, hm, hl⟩ := h
  cases e
  rcases hl with rfl | ⟨g, off, rfl, hl⟩
  · simp at hj
  · exact ⟨g, off, rfl, hl j x hj⟩
set_option maxRecDepth 8000 in
set_option maxHeartbeats 2000000 in
theorem bsame_any (v u : Value) (l : List Bool) (w : World) (hv : BView w v l) (hu : BView w u l) :
    Calls Try.prog 26 #[v, u] w fun e w' => e = .returned (.bool true) ∧ ∃ q, w' = w.drewN q := by
  have HV := hidIt hv
  have HU := hidIt hu
  obtain ⟨ao, cap, rfl, hc, hm, _⟩ := hv
  obtain ⟨ao2, cap2, rfl, hc2, hm2, _⟩ := hu
  unfold maxLen at hm hm2
  go_enter Try.func26, Try.ntmps26
  go_wp2
  go_loopw [5] (fun i wr => ∃ k q : Nat, i = .int .i64 (k : Int) ∧ k ≤ l.length ∧ wr = w.drewN q) (fun i _ => l.length - (intOf i).toNat)
  case atStart => exact ⟨0, 0, rfl, Nat.zero_le _, rfl⟩
  case round =>
    obtain ⟨k, q, rfl, hk, rfl⟩ := hrel
    by_cases hlt : k < l.length
    · have hlt' : (k : Int) < (l.length : Int) := by omega
      obtain ⟨x, hx⟩ : ∃ x, l[k]? = some x := ⟨l[k], List.getElem?_eq_getElem hlt⟩
      obtain ⟨g, off, rfl, c0⟩ := HV.out.row hx
      obtain ⟨g', off', rfl, d0⟩ := HU.out.row hx
      clear hx
      go_wp2
      go_quiet (fail)
      go_wp2
      exact ⟨⟨k + 1, _, by go_num, by omega, rfl⟩, by simp [intOf]; omega⟩
    · have hlt' : ¬ (k : Int) < (l.length : Int) := by omega
      go_wp2
      go_ret
      exact ⟨rfl, _, rfl⟩
end Go.Proofs.Ytlnapfeglbdecaa
namespace Go.Proofs.Ytlnapfeglbdecaa
open Go.RowKit

def LLV (w : World) (g : Nat) (R : List (List Bool)) : Prop := ∀ (j : Nat) (r : List Bool), R[j]? = some r → ∃ u, w.cell? ⟨g, j, none⟩ = some u ∧ BView w u r
theorem LLV.below {w w' : World} {g : Nat} {R : List (List Bool)} (h : LLV w g R) (hb : Below w.heap.size w w') : LLV w' g R := fun j r hj => by
  obtain ⟨u, h1, h2⟩ := h j r hj
  exact ⟨u, cell_later hb h1, h2.below hb⟩
theorem BView.of_row {w : World} {g n : Nat} {r : List Bool} (h : w.heap[g]? = some (.cells (bcellsB r) 4 (0, 0))) (hn : r.length = n) (hm : n ≤ 9223372036854775807) : BView w (.slice (some ⟨g, 0, none⟩) n n) r := by
  subst hn
  exact ⟨_, _, rfl, Nat.le_refl _, by unfold maxLen; omega, .inr ⟨g, 0, rfl, fun j x hj => by rw [Nat.zero_add]; exact bit_at h hj⟩⟩
set_option maxRecDepth 8000 in
set_option maxHeartbeats 4000000 in
theorem lives_any (g g' : Nat) (R : List (List Bool)) (n : Nat) (hR : R.length = n) (w : World) (hv : LLV w g R) (hu : LLV w g' R) (hn : R.length ≤ 1000000000000) :
    Calls Try.prog 15 #[.slice (some ⟨g, 0, none⟩) n n, .slice (some ⟨g', 0, none⟩) n n] w fun e w' => e = .returned (.bool true) ∧ Below w.heap.size w w' := by
  subst hR
  have HV := hidIt (fun W (b : Below w.heap.size w W) => hv.below b)
  have HU := hidIt (fun W (b : Below w.heap.size w W) => hu.below b)
  have GS := hidIt (fun v u l W hv hu => bsame_any v u l W hv hu)
  clear hv hu
  go_enter Try.func15, Try.ntmps15
  go_wp2_with fail
  go_loopw [5] (fun i wr => ∃ k : Nat, k ≤ R.length ∧ i = .int .i64 (k : Int) ∧ Below w.heap.size w wr) (fun i _ => R.length - (intOf i).toNat)
  case atStart => exact ⟨0, Nat.zero_le _, rfl, Below.refl _ w⟩
  case round =>
    obtain ⟨k, hk, rfl, hb⟩ := hrel
    have HB := hidIt hb
    clear hb
    by_cases hlt : k < R.length
    · have hlt' : (k : Int) < (R.length : Int) := by omega
      obtain ⟨r, hr⟩ : ∃ r, R[k]? = some r := ⟨R[k], List.getElem?_eq_getElem hlt⟩
      obtain ⟨u1, c1, v1⟩ := HV.out _ HB.out k r hr
      obtain ⟨u2, c2, v2⟩ := HU.out _ HB.out k r hr
      have V1 := hidIt v1
      have V2 := hidIt v2
      obtain ⟨a1, p1, rfl, -⟩ := v1
      obtain ⟨a2, p2, rfl, -⟩ := v2
      have S0 : Hid (wr.drew.cell? ⟨g, k, none⟩ = some (.slice a1 r.length p1) ∧ wr.drew.cell? ⟨g', k, none⟩ = some (.slice a2 r.length p2)) := ⟨c1, c2⟩
      have G := hidIt (GS.out _ _ _ wr.drew V1.out V2.out)
      clear hr c1 c2
      go_upto_region 6 with (fail)
      go_region_held3 (fun W => W.cell? ⟨g, k, none⟩ = some (.slice a1 r.length p1) ∧ W.cell? ⟨g', k, none⟩ = some (.slice a2 r.length p2)) (first | exact S0.out | exact S1.out)
        (first | (go_at_call 26; refine G.out.mono ?_; rintro e w2 ⟨rfl, q2, hq2⟩; have S1 : Hid (w2.cell? ⟨g, k, none⟩ = some (.slice a1 r.length p1) ∧ w2.cell? ⟨g', k, none⟩ = some (.slice a2 r.length p2)) := (by rw [hq2]; exact S0.out); have HB2 : Hid (Below w.heap.size w w2) := (by rw [hq2]; exact below_drewN HB.out.drew q2); clear hq2))
      go_wp2_with fail
      exact ⟨⟨k + 1, by omega, by go_num, HB2.out⟩, by simp [intOf]; omega⟩
    · have hlt' : ¬ (k : Int) < (R.length : Int) := by omega
      go_wp2_with fail
      go_ret
      exact ⟨rfl, HB.out⟩
def liveL (s : List (BitVec 16)) (n L : Nat) : List (List Bool) := (List.range n).map (fun (j : Nat) => bitsL (getS s (j : Int)) L)
theorem Lvs.llv {s : List (BitVec 16)} {n L g : Nat} {cs : Array Value} {w : World} (hg : w.heap[g]? = some (.cells cs 22 (0, 0))) (h : Lvs s n L n cs w) (hL : L ≤ 16) : LLV w g (liveL s n L) := fun j r hj => by
  have hlt : j < n := by
    have := (List.getElem?_eq_some_iff.1 hj).1
    simpa [liveL] using this
  obtain ⟨gb, h1, h2⟩ := h.2 j hlt
  have e : r = bitsL (getS s (j : Int)) L := by
    simp [liveL, hlt] at hj
    exact hj.symm
  subst e
  exact ⟨_, cell_row hg j h1, BView.of_row h2 (bitsL_len _ _) (by omega)⟩
theorem live_plain {l : List IN} {s : List (BitVec 16)} (h : LiveIs l [] s) (j : Nat) (x : IN) (hx : l[j]? = some x) (T : List Int) (hT : nextZ l (j : Int) = T) : getS s (j : Int) = rdS x ||| (orL s T 0#16 &&& ~~~ stS x) := by
  rw [← h.fx j x hx]
  unfold ahZ
  rw [hT]
  rfl
def lA : List IN := [⟨0, 21, 0, 0⟩, ⟨2, 172, 0, 0⟩]
def lB : List IN := [⟨0, 54, 0, 0⟩, ⟨2, 21, 0, 0⟩, ⟨4, 172, 0, 0⟩]
theorem live_A {s : List (BitVec 16)} (h : LiveIs lA [] s) : liveL s 2 1 = [[true], [false]] := by
  have h1 := live_plain h 1 ⟨2, 172, 0, 0⟩ rfl [] (by decide +kernel)
  have h0 := live_plain h 0 ⟨0, 21, 0, 0⟩ rfl [1] (by decide +kernel)
  have e1 : getS s 1 = 0#16 := h1.trans (by simp [orL, rdS])
  have e0 : getS s 0 = 1#16 := h0.trans (by simp only [orL]; rw [e1]; decide +kernel)
  show [bitsL (getS s 0) 1, bitsL (getS s 1) 1] = _
  rw [e0, e1]
  decide +kernel
theorem live_B {s : List (BitVec 16)} (h : LiveIs lB [] s) : liveL s 3 1 = [[false], [true], [false]] := by
  have h2 := live_plain h 2 ⟨4, 172, 0, 0⟩ rfl [] (by decide +kernel)
  have h1 := live_plain h 1 ⟨2, 21, 0, 0⟩ rfl [2] (by decide +kernel)
  have h0 := live_plain h 0 ⟨0, 54, 0, 0⟩ rfl [1] (by decide +kernel)
  have e2 : getS s 2 = 0#16 := h2.trans (by simp [orL, rdS])
  have e1 : getS s 1 = 1#16 := h1.trans (by simp only [orL]; rw [e2]; decide +kernel)
  have e0 : getS s 0 = 0#16 := h0.trans (by simp only [orL]; rw [e1]; decide +kernel)
  show [bitsL (getS s 0) 1, bitsL (getS s 1) 1, bitsL (getS s 2) 1] = _
  rw [e0, e1, e2]
  decide +kernel
end Go.Proofs.Ytlnapfeglbdecaa
namespace Go.Proofs.Ytlnapfeglbdecaa
open Go.RowKit

theorem IView.laidM (w : World) (l : List IN) (hm : l.length ≤ maxLen) : IView (w.alloc (.cells (icells l).toArray 52)) (.slice (some ⟨w.heap.size, 0, none⟩) l.length l.length) l :=
  ⟨_, _, rfl, Nat.le_refl _, hm, .inr ⟨_, _, rfl, ILies.of_block (heap_alloc_new w _) rfl (by rw [← icells_len]; simp)⟩⟩
theorem llv_cells {w : World} {g : Nat} {cs : Array Value} {R : List (List Bool)} (hg : w.heap[g]? = some (.cells cs 22 (0, 0))) (h : ∀ (j : Nat) (r : List Bool), R[j]? = some r → ∃ gb, cs[j]? = some (.slice (some ⟨gb, 0, none⟩) 1 1) ∧ r.length = 1 ∧ w.heap[gb]? = some (.cells (bcellsB r) 4 (0, 0))) : LLV w g R := fun j r hj => by
  obtain ⟨gb, h1, h2, h3⟩ := h j r hj
  exact ⟨_, cell_row hg j h1, BView.of_row h3 h2 (by omega)⟩
set_option maxRecDepth 8000 in
set_option maxHeartbeats 4000000 in
theorem knownM_any (w : World) : Calls Try.prog 8 #[] w fun e w' => e = .returned (.bool true) ∧ Below w.heap.size w w' := by
  have V1 := hidIt (IView.laidM w lA (by decide))
  have HA1 := hidIt (below_alloc w (.cells (icells lA).toArray 52))
  have GA := hidIt (live_any _ (.slice none 0 0) lA [] 1 _ V1.out (HView.nil _) (by decide) (by simp))
  have GL := hidIt (fun g g' R n hR W hv hu hn => lives_any g g' R n hR W hv hu hn)
  go_enter Try.func8, Try.ntmps8
  go_upto_region 2 with (go_at_call 11; refine GA.out.mono ?_; rintro e w1 ⟨ga, ca, sa, rfl, hs1, hg1, hl1, hz1, hb1⟩)
  have HB1 := hidIt (HA1.out.trans (hb1.mono HA1.out.size))
  have L1 := hidIt (hl1.llv hg1 (by decide))
  rw [show liveL sa lA.length (locZ 1) = [[true], [false]] from live_A hs1] at L1
  clear hs1 hg1 hl1 hz1 hb1 HA1 V1 GA
  have V2 := hidIt (IView.laidM w1 lB (by decide))
  have HA2 := hidIt (below_alloc w1 (.cells (icells lB).toArray 52))
  have GA := hidIt (live_any _ (.slice none 0 0) lB [] 1 _ V2.out (HView.nil _) (by decide) (by simp))
  have hlA : lA.length = 2 := rfl
  rw [hlA]
  clear hlA
  go_upto_region 3 with (go_at_call 11; refine GA.out.mono ?_; rintro e w2 ⟨gb, cb, sb, rfl, hs2, hg2, hl2, hz2, hb2⟩)
  have HB2 := hidIt (HA2.out.trans (hb2.mono HA2.out.size))
  have L2 := hidIt (hl2.llv hg2 (by decide))
  rw [show liveL sb lB.length (locZ 1) = [[false], [true], [false]] from live_B hs2] at L2
  have L1b := hidIt (L1.out.below HB2.out)
  have HB3 := hidIt (HB1.out.trans (HB2.out.mono HB1.out.size))
  clear hs2 hg2 hl2 hz2 hb2 HA2 V2 GA L1 HB1 HB2
  have hlB : lB.length = 3 := rfl
  rw [hlB]
  clear hlB
  have HC1 := hidIt (((below_alloc w2 (.cells #[.bool true] 4)).alloc (below_alloc w2 (.cells #[.bool true] 4)).size (.cells #[.bool false] 4)).alloc (Nat.le_trans (below_alloc w2 (.cells #[.bool true] 4)).size (below_alloc _ (.cells #[.bool false] 4)).size) (.cells #[.slice (some ⟨w2.heap.size, 0, none⟩) 1 1, .slice (some ⟨w2.heap.size + 1, 0, none⟩) 1 1] 22))
  have R1 : Hid (LLV (((w2.alloc (.cells #[.bool true] 4)).alloc (.cells #[.bool false] 4)).alloc (.cells #[.slice (some ⟨w2.heap.size, 0, none⟩) 1 1, .slice (some ⟨w2.heap.size + 1, 0, none⟩) 1 1] 22)) (w2.heap.size + 1 + 1) [[true], [false]]) := llv_cells (al2 rfl) (fun j r hj => by
    match j, hj with
    | 0, hj => cases hj; exact ⟨_, rfl, rfl, alo (alo (al _ _))⟩
    | 1, hj => cases hj; exact ⟨_, rfl, rfl, alo (al1 rfl)⟩)
  have GL1 := hidIt (GL.out ga (w2.heap.size + 1 + 1) _ 2 rfl _ (L1b.out.below HC1.out) R1.out (by decide))
  have HB4 := hidIt (HB3.out.trans (HC1.out.mono HB3.out.size))
  have L2b := hidIt (L2.out.below HC1.out)
  clear HB3 L2 L1b R1 HC1
  go_wp2_with fail
  refine GL1.out.mono ?_
  rintro e w3 ⟨rfl, hb3⟩
  have HB5 := hidIt (HB4.out.trans (hb3.mono HB4.out.size))
  have L2c := hidIt (L2b.out.below hb3)
  clear HB4 L2b hb3 GL1
  have HC1 := hidIt ((((below_alloc w3 (.cells #[.bool false] 4)).alloc (below_alloc w3 (.cells #[.bool false] 4)).size (.cells #[.bool true] 4)).alloc (Nat.le_trans (below_alloc w3 (.cells #[.bool false] 4)).size (below_alloc _ (.cells #[.bool true] 4)).size) (.cells #[.bool false] 4)).alloc (Nat.le_trans (Nat.le_trans (below_alloc w3 (.cells #[.bool false] 4)).size (below_alloc _ (.cells #[.bool true] 4)).size) (below_alloc _ (.cells #[.bool false] 4)).size) (.cells #[.slice (some ⟨w3.heap.size, 0, none⟩) 1 1, .slice (some ⟨w3.heap.size + 1, 0, none⟩) 1 1, .slice (some ⟨w3.heap.size + 1 + 1, 0, none⟩) 1 1] 22))
  have R1 : Hid (LLV ((((w3.alloc (.cells #[.bool false] 4)).alloc (.cells #[.bool true] 4)).alloc (.cells #[.bool false] 4)).alloc (.cells #[.slice (some ⟨w3.heap.size, 0, none⟩) 1 1, .slice (some ⟨w3.heap.size + 1, 0, none⟩) 1 1, .slice (some ⟨w3.heap.size + 1 + 1, 0, none⟩) 1 1] 22)) (w3.heap.size + 1 + 1 + 1) [[false], [true], [false]]) := llv_cells (al3 rfl) (fun j r hj => by
    match j, hj with
    | 0, hj => cases hj; exact ⟨_, rfl, rfl, alo (alo (alo (al _ _)))⟩
    | 1, hj => cases hj; exact ⟨_, rfl, rfl, alo (alo (al1 rfl))⟩
    | 2, hj => cases hj; exact ⟨_, rfl, rfl, alo (al2 rfl)⟩)
  have GL2 := hidIt (GL.out gb (w3.heap.size + 1 + 1 + 1) _ 3 rfl _ (L2c.out.below HC1.out) R1.out (by decide))
  have HB6 := hidIt (HB5.out.trans (HC1.out.mono HB5.out.size))
  clear HB5 L2c R1 HC1 GL
  go_wp2_with fail
  refine GL2.out.mono ?_
  rintro e w4 ⟨rfl, hb4⟩
  have HB7 := hidIt (HB6.out.trans (hb4.mono HB6.out.size))
  clear HB6 hb4 GL2
  go_wp2_with fail
  go_ret
  exact ⟨rfl, HB7.out⟩
end Go.Proofs.Ytlnapfeglbdecaa
namespace Go.Proofs.Ytlnapfeglbdecaa
open Go.RowKit

def GView {α : Type} (k : Nat) (f : α → List Value) (w : World) (v : Value) (l : List α) : Prop :=
  ∃ ao cap, v = .slice ao l.length cap ∧ l.length ≤ cap ∧ cap ≤ maxLen ∧ (l = [] ∨ ∃ g off, ao = some ⟨g, off, none⟩ ∧ ∀ (j : Nat) (x : α), l[j]? = some x → ∀ (i : Nat) (u : Value), (f x)[i]? = some u → w.cell? ⟨g, off + j * k + i, none⟩ = some u)
theorem GView.below {α : Type} {k : Nat} {f : α → List Value} {w w' : World} {v : Value} {l : List α} (h : GView k f w v l) (hb : Below w.heap.size w w') : GView k f w' v l := by
  obtain ⟨ao, cap, e, hc, hm, hl⟩ := h
  refine ⟨ao, cap, e, hc, hm, ?_⟩
  rcases hl with h | ⟨g, off, e, hl⟩
  · exact .inl h
  · exact .inr ⟨g, off, e, fun j x hj i u hu => cell_later hb (hl j x hj i u hu)⟩
theorem GView.of_own {α : Type} {k T B : Nat} {f : α → List Value} {w : World} {v : Value} {l : List α} (hk : ∀ x, (f x).length = k) (h : w.ownsRow B T k v l.length (l.flatMap f)) : GView k f w v l := by
  rcases h.2 with ⟨rfl, h0⟩ | ⟨g, cap, cur, rfl, _, hg, h1, h2, h3, h4⟩
  · have : l = [] := List.length_eq_zero_iff.1 h0
    subst this
    exact ⟨none, 0, rfl, Nat.le_refl _, by unfold maxLen; omega, .inl rfl⟩
  · refine ⟨some ⟨g, 0, none⟩, cap, rfl, h1, h2, .inr ⟨g, 0, rfl, fun j x hj i u hu => ?_⟩⟩
    have hi : i < k := by have := (List.getElem?_eq_some_iff.1 hu).1; rwa [hk] at this
    have := h.cells (g := g) rfl (j * k + i) u (by rw [r5_get f k hk l j x i hj hi]; exact hu)
    have e : (⟨g, 0, none⟩ : Addr).add (j * k + i) = ⟨g, 0 + j * k + i, none⟩ := by unfold Addr.add; split <;> simp_all
    rw [e] at this
    exact this
theorem GView.take {α : Type} {k n m cap : Nat} {f : α → List Value} {w : World} {ao : Option Addr} {l : List α} (h : GView k f w (.slice ao n cap) l) (hm : m ≤ n) : GView k f w (.slice ao m cap) (l.take m) := by
  obtain ⟨ao', cap', e, hc, hmx, hl⟩ := h
  cases e
  have hlen : (l.take m).length = m := by rw [List.length_take]; omega
  refine ⟨ao, cap, by rw [hlen], by rw [hlen]; omega, hmx, ?_⟩
  rcases hl with h | ⟨g, off, e, hl⟩
  · exact .inl (by rw [h]; simp)
  · refine .inr ⟨g, off, e, fun j x hj => hl j x ?_⟩
    have hlt := (List.getElem?_eq_some_iff.1 hj).1
    rw [hlen] at hlt
    rwa [List.getElem?_take, if_pos hlt] at hj
theorem own_empty (w : World) (B T k : Nat) (hB : B ≤ w.heap.size) : (w.alloc (.cells #[] T)).ownsRow B T k (.slice (some ⟨w.heap.size, 0, none⟩) 0 0) 0 [] :=
  ⟨by simp, .inr ⟨w.heap.size, 0, #[], rfl, hB, heap_alloc_new w _, Nat.le_refl _, by unfold maxLen; omega, by simp, by simp⟩⟩
theorem HView.g {w : World} {v : Value} {l : List HN} (h : HView w v l) : GView 4 hrow w v l := by
  obtain ⟨ao, cap, e, hc, hm, hl⟩ := h
  refine ⟨ao, cap, e, hc, hm, ?_⟩
  rcases hl with h | ⟨g, off, e, hl⟩
  · exact .inl h
  · refine .inr ⟨g, off, e, fun j x hj i u hu => ?_⟩
    obtain ⟨c0, c1, c2, c3⟩ := hl j x hj
    match i, hu with
    | 0, hu => cases hu; exact c0
    | 1, hu => cases hu; exact c1
    | 2, hu => cases hu; exact c2
    | 3, hu => cases hu; exact c3
theorem GView.h {w : World} {v : Value} {l : List HN} (h : GView 4 hrow w v l) : HView w v l := by
  obtain ⟨ao, cap, e, hc, hm, hl⟩ := h
  refine ⟨ao, cap, e, hc, hm, ?_⟩
  rcases hl with h | ⟨g, off, e, hl⟩
  · exact .inl h
  · exact .inr ⟨g, off, e, fun j x hj => ⟨hl j x hj 0 _ rfl, hl j x hj 1 _ rfl, hl j x hj 2 _ rfl, hl j x hj 3 _ rfl⟩⟩
theorem FView.g {w : World} {v : Value} {l : List FN} (h : FView w v l) : GView 3 frow w v l := by
  obtain ⟨ao, cap, e, hc, hm, hl⟩ := h
  refine ⟨ao, cap, e, hc, hm, ?_⟩
  rcases hl with h | ⟨g, off, e, hl⟩
  · exact .inl h
  · refine .inr ⟨g, off, e, fun j x hj i u hu => ?_⟩
    obtain ⟨c0, c1, c2⟩ := hl j x hj
    match i, hu with
    | 0, hu => cases hu; exact c0
    | 1, hu => cases hu; exact c1
    | 2, hu => cases hu; exact c2
theorem GView.f {w : World} {v : Value} {l : List FN} (h : GView 3 frow w v l) : FView w v l := by
  obtain ⟨ao, cap, e, hc, hm, hl⟩ := h
  refine ⟨ao, cap, e, hc, hm, ?_⟩
  rcases hl with h | ⟨g, off, e, hl⟩
  · exact .inl h
  · exact .inr ⟨g, off, e, fun j x hj => ⟨hl j x hj 0 _ rfl, hl j x hj 1 _ rfl, hl j x hj 2 _ rfl⟩⟩
theorem hrow_one (x : HN) : ∀ u ∈ hrow x, u.oneCell' = true := by
  intro u hu
  simp [hrow] at hu
  rcases hu with rfl | rfl | rfl | rfl <;> rfl
end Go.Proofs.Ytlnapfeglbdecaa
