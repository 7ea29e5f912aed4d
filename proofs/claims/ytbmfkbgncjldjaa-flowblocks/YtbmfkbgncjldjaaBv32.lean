/- Texts FG FR FT FU FCk. -/
import Derived.Test.YtbmfkbgncjldjaaBv28
import Derived.Test.YtbmfkbgncjldjaaBv02
import Derived.Deep.RegionHeld3
import Derived.Test.YtbmfkbgncjldjaaBv31
import Derived.Test.YtbmfkbgncjldjaaBv27
import Derived.Test.YtbmfkbgncjldjaaBv25
import Derived.Test.YtbmfkbgncjldjaaBv26
namespace Go.Proofs.Ytbmfkbgncjldjaa
open Go.RowKit

theorem nextL_put (l : List IN) (k : Nat) (x : IN) : nextL l k x = (if tgtZ l x < 0 then (if !endsB x.op && decide (k + 1 < l.length) then putS ((k : Int) + 1) [] false else []) else putS (tgtZ l x) (if !endsB x.op && decide (k + 1 < l.length) then putS ((k : Int) + 1) [] false else []) false) := by
  unfold nextL
  by_cases h1 : (!endsB x.op && decide (k + 1 < l.length)) = true
  · simp only [if_pos h1]
    by_cases h2 : tgtZ l x < 0
    · simp only [if_pos h2]; rfl
    · simp only [if_neg h2]
      rw [show putS ((k : Int) + 1) [] false = [(k : Int) + 1] from rfl, putS_cons, putS_nil]
      by_cases h3 : tgtZ l x < (k : Int) + 1
      · rw [if_pos h3, decide_eq_true (show tgtZ l x ≤ (k : Int) + 1 by omega), if_neg (show ¬ (k : Int) + 1 = tgtZ l x by omega)]; rfl
      · rw [if_neg h3]
        by_cases h4 : tgtZ l x = (k : Int) + 1
        · rw [if_pos h4, decide_eq_true (show tgtZ l x ≤ (k : Int) + 1 by omega), if_pos h4.symm, h4]; rfl
        · rw [if_neg h4, decide_eq_false (show ¬ tgtZ l x ≤ (k : Int) + 1 by omega), if_neg (show ¬ (k : Int) + 1 = tgtZ l x by omega)]; rfl
  · simp only [if_neg h1]
    by_cases h2 : tgtZ l x < 0
    · simp only [if_pos h2]
    · simp only [if_neg h2]; rfl
set_option maxRecDepth 8000 in
set_option maxHeartbeats 4000000 in
theorem rnext_any (v : Value) (l : List IN) (n : Int) (w : World) (hv : IView w v l) :
    Calls Try.prog 17 #[v, .int .i64 n] w fun e w' => ∃ v', e = .returned v' ∧ NOwn w' w.heap.size v' (nextZ l n) ∧ Below w.heap.size w w' := by
  have HV := hidIt hv
  obtain ⟨ao, cap, rfl, hc, hm, _⟩ := hv
  unfold maxLen at hm
  by_cases h0 : n < 0
  · rw [nextZ_out (.inl h0)]
    go_enter Try.func17, Try.ntmps17
    go_wp2
    go_ret
    exact ⟨_, rfl, NOwn.nil _ _, Below.refl _ _⟩
  by_cases h1 : (l.length : Int) ≤ n
  · rw [nextZ_out (.inr h1)]
    go_enter Try.func17, Try.ntmps17
    go_wp2
    go_ret
    exact ⟨_, rfl, NOwn.nil _ _, Below.refl _ _⟩
  obtain ⟨k, rfl⟩ := Int.eq_ofNat_of_zero_le (Int.not_lt.1 h0)
  have hk : k < l.length := by omega
  have hk' : (k : Int) < (l.length : Int) := by omega
  obtain ⟨x, hx⟩ : ∃ x, l[k]? = some x := ⟨l[k], List.getElem?_eq_getElem hk⟩
  rw [nextZ_at hx, nextL_put]
  obtain ⟨g, off, rfl, c0, c1, c2, c3⟩ := HV.out.row hx
  have GE := hidIt (fun W => rends x.op W)
  have GB := hidIt (fun W => rbranch x.op W)
  have GF := hidIt (fun W (h : Below w.heap.size w W) => rfind_any _ l x.a W (HV.out.below h))
  have GP := hidIt (fun v l n w => rput_any v l n w)
  have HT : Hid (tgtZ l x = if kd x.op = 6 then findZ l x.a else -1) := by show _ = _; rfl
  clear hx HV
  generalize findZ l x.a = F at *
  generalize tgtZ l x = t at *
  have C0 := hidIt c0
  have C1 := hidIt c1
  have C2 := hidIt c2
  have C3 := hidIt c3
  have HB := hidIt (Below.refl w.heap.size w)
  have HO := hidIt (NOwn.nil w w.heap.size)
  have hz : w.heap.size ≤ w.heap.size := Nat.le_refl _
  have hlast := Nat.lt_or_ge (k + 1) l.length
  rcases hlast with hlast | hlast
  · have hlast' : (k : Int) + 1 < (l.length : Int) := by omega
    rw [decide_eq_true (show k + 1 < l.length by omega)]
    cases he : endsB x.op with
    | true =>
      rw [he] at GE
      rw [if_neg (show ¬ (!true && true) = true by decide)]
      by_cases h6 : kd x.op = 6
      · rw [decide_eq_true h6] at GB
        rw [if_pos h6] at HT
        obtain rfl : t = F := HT.out
        rcases Int.lt_or_le t 0 with htn | htn
        · have htn' : ¬ 0 ≤ t := by omega
          rw [if_pos (show t < 0 by omega)]
          go_enter Try.func17, Try.ntmps17
          go_wp2_with (first | (go_at_call 44; refine (GE.out _).mono ?_; rintro e w' ⟨rfl, hww⟩; cases hww) | (go_at_call 43; refine (GB.out _).mono ?_; rintro e w' ⟨rfl, hww⟩; cases hww) | (go_at_call 19; refine (GF.out _ HB.out).mono ?_; rintro e w' ⟨rfl, hww⟩; cases hww) | (go_at_call 50; refine (GP.out _ _ _ _ HO.out.view (by first | exact Nat.zero_le _ | exact Nat.le_trans (putS_len _ _ _) (by simp))).mono ?_; clear c0 c1 c2 c3 hz; rintro e w1 ⟨v1, rfl, ho1, hb1⟩; have HB2 := hidIt (HB.out.trans (hb1.mono HB.out.size)); have HO2 := hidIt (NOwn.wk ho1 HB.out.size); clear HB HO hb1 ho1; have HB := HB2; have HO := HO2; clear HB2 HO2; have c0 := cell_later HB.out C0.out; have c1 := cell_later HB.out C1.out; have c2 := cell_later HB.out C2.out; have c3 := cell_later HB.out C3.out; have hz := HB.out.size))
          go_ret
          exact ⟨_, rfl, HO.out, HB.out⟩
        · have htn' : 0 ≤ t := by omega
          rw [if_neg (show ¬ t < 0 by omega)]
          go_enter Try.func17, Try.ntmps17
          go_wp2_with (first | (go_at_call 44; refine (GE.out _).mono ?_; rintro e w' ⟨rfl, hww⟩; cases hww) | (go_at_call 43; refine (GB.out _).mono ?_; rintro e w' ⟨rfl, hww⟩; cases hww) | (go_at_call 19; refine (GF.out _ HB.out).mono ?_; rintro e w' ⟨rfl, hww⟩; cases hww) | (go_at_call 50; refine (GP.out _ _ _ _ HO.out.view (by first | exact Nat.zero_le _ | exact Nat.le_trans (putS_len _ _ _) (by simp))).mono ?_; clear c0 c1 c2 c3 hz; rintro e w1 ⟨v1, rfl, ho1, hb1⟩; have HB2 := hidIt (HB.out.trans (hb1.mono HB.out.size)); have HO2 := hidIt (NOwn.wk ho1 HB.out.size); clear HB HO hb1 ho1; have HB := HB2; have HO := HO2; clear HB2 HO2; have c0 := cell_later HB.out C0.out; have c1 := cell_later HB.out C1.out; have c2 := cell_later HB.out C2.out; have c3 := cell_later HB.out C3.out; have hz := HB.out.size))
          go_ret
          exact ⟨_, rfl, HO.out, HB.out⟩
      · rw [decide_eq_false h6] at GB
        rw [if_neg h6] at HT
        obtain rfl : t = -1 := HT.out
        rw [if_pos (show (-1 : Int) < 0 by decide)]
        go_enter Try.func17, Try.ntmps17
        go_wp2_with (first | (go_at_call 44; refine (GE.out _).mono ?_; rintro e w' ⟨rfl, hww⟩; cases hww) | (go_at_call 43; refine (GB.out _).mono ?_; rintro e w' ⟨rfl, hww⟩; cases hww) | (go_at_call 19; refine (GF.out _ HB.out).mono ?_; rintro e w' ⟨rfl, hww⟩; cases hww) | (go_at_call 50; refine (GP.out _ _ _ _ HO.out.view (by first | exact Nat.zero_le _ | exact Nat.le_trans (putS_len _ _ _) (by simp))).mono ?_; clear c0 c1 c2 c3 hz; rintro e w1 ⟨v1, rfl, ho1, hb1⟩; have HB2 := hidIt (HB.out.trans (hb1.mono HB.out.size)); have HO2 := hidIt (NOwn.wk ho1 HB.out.size); clear HB HO hb1 ho1; have HB := HB2; have HO := HO2; clear HB2 HO2; have c0 := cell_later HB.out C0.out; have c1 := cell_later HB.out C1.out; have c2 := cell_later HB.out C2.out; have c3 := cell_later HB.out C3.out; have hz := HB.out.size))
        go_ret
        exact ⟨_, rfl, HO.out, HB.out⟩
    | false =>
      rw [he] at GE
      rw [if_pos (show (!false && true) = true by decide)]
      by_cases h6 : kd x.op = 6
      · rw [decide_eq_true h6] at GB
        rw [if_pos h6] at HT
        obtain rfl : t = F := HT.out
        rcases Int.lt_or_le t 0 with htn | htn
        · have htn' : ¬ 0 ≤ t := by omega
          rw [if_pos (show t < 0 by omega)]
          go_enter Try.func17, Try.ntmps17
          go_wp2_with (first | (go_at_call 44; refine (GE.out _).mono ?_; rintro e w' ⟨rfl, hww⟩; cases hww) | (go_at_call 43; refine (GB.out _).mono ?_; rintro e w' ⟨rfl, hww⟩; cases hww) | (go_at_call 19; refine (GF.out _ HB.out).mono ?_; rintro e w' ⟨rfl, hww⟩; cases hww) | (go_at_call 50; refine (GP.out _ _ _ _ HO.out.view (by first | exact Nat.zero_le _ | exact Nat.le_trans (putS_len _ _ _) (by simp))).mono ?_; clear c0 c1 c2 c3 hz; rintro e w1 ⟨v1, rfl, ho1, hb1⟩; have HB2 := hidIt (HB.out.trans (hb1.mono HB.out.size)); have HO2 := hidIt (NOwn.wk ho1 HB.out.size); clear HB HO hb1 ho1; have HB := HB2; have HO := HO2; clear HB2 HO2; have c0 := cell_later HB.out C0.out; have c1 := cell_later HB.out C1.out; have c2 := cell_later HB.out C2.out; have c3 := cell_later HB.out C3.out; have hz := HB.out.size))
          go_ret
          exact ⟨_, rfl, HO.out, HB.out⟩
        · have htn' : 0 ≤ t := by omega
          rw [if_neg (show ¬ t < 0 by omega)]
          go_enter Try.func17, Try.ntmps17
          go_wp2_with (first | (go_at_call 44; refine (GE.out _).mono ?_; rintro e w' ⟨rfl, hww⟩; cases hww) | (go_at_call 43; refine (GB.out _).mono ?_; rintro e w' ⟨rfl, hww⟩; cases hww) | (go_at_call 19; refine (GF.out _ HB.out).mono ?_; rintro e w' ⟨rfl, hww⟩; cases hww) | (go_at_call 50; refine (GP.out _ _ _ _ HO.out.view (by first | exact Nat.zero_le _ | exact Nat.le_trans (putS_len _ _ _) (by simp))).mono ?_; clear c0 c1 c2 c3 hz; rintro e w1 ⟨v1, rfl, ho1, hb1⟩; have HB2 := hidIt (HB.out.trans (hb1.mono HB.out.size)); have HO2 := hidIt (NOwn.wk ho1 HB.out.size); clear HB HO hb1 ho1; have HB := HB2; have HO := HO2; clear HB2 HO2; have c0 := cell_later HB.out C0.out; have c1 := cell_later HB.out C1.out; have c2 := cell_later HB.out C2.out; have c3 := cell_later HB.out C3.out; have hz := HB.out.size))
          go_ret
          exact ⟨_, rfl, HO.out, HB.out⟩
      · rw [decide_eq_false h6] at GB
        rw [if_neg h6] at HT
        obtain rfl : t = -1 := HT.out
        rw [if_pos (show (-1 : Int) < 0 by decide)]
        go_enter Try.func17, Try.ntmps17
        go_wp2_with (first | (go_at_call 44; refine (GE.out _).mono ?_; rintro e w' ⟨rfl, hww⟩; cases hww) | (go_at_call 43; refine (GB.out _).mono ?_; rintro e w' ⟨rfl, hww⟩; cases hww) | (go_at_call 19; refine (GF.out _ HB.out).mono ?_; rintro e w' ⟨rfl, hww⟩; cases hww) | (go_at_call 50; refine (GP.out _ _ _ _ HO.out.view (by first | exact Nat.zero_le _ | exact Nat.le_trans (putS_len _ _ _) (by simp))).mono ?_; clear c0 c1 c2 c3 hz; rintro e w1 ⟨v1, rfl, ho1, hb1⟩; have HB2 := hidIt (HB.out.trans (hb1.mono HB.out.size)); have HO2 := hidIt (NOwn.wk ho1 HB.out.size); clear HB HO hb1 ho1; have HB := HB2; have HO := HO2; clear HB2 HO2; have c0 := cell_later HB.out C0.out; have c1 := cell_later HB.out C1.out; have c2 := cell_later HB.out C2.out; have c3 := cell_later HB.out C3.out; have hz := HB.out.size))
        go_ret
        exact ⟨_, rfl, HO.out, HB.out⟩
  · have hlast' : ¬ (k : Int) + 1 < (l.length : Int) := by omega
    rw [decide_eq_false (show ¬ k + 1 < l.length by omega)]
    cases he : endsB x.op with
    | true =>
      rw [he] at GE
      rw [if_neg (show ¬ (!true && false) = true by decide)]
      by_cases h6 : kd x.op = 6
      · rw [decide_eq_true h6] at GB
        rw [if_pos h6] at HT
        obtain rfl : t = F := HT.out
        rcases Int.lt_or_le t 0 with htn | htn
        · have htn' : ¬ 0 ≤ t := by omega
          rw [if_pos (show t < 0 by omega)]
          go_enter Try.func17, Try.ntmps17
          go_wp2_with (first | (go_at_call 44; refine (GE.out _).mono ?_; rintro e w' ⟨rfl, hww⟩; cases hww) | (go_at_call 43; refine (GB.out _).mono ?_; rintro e w' ⟨rfl, hww⟩; cases hww) | (go_at_call 19; refine (GF.out _ HB.out).mono ?_; rintro e w' ⟨rfl, hww⟩; cases hww) | (go_at_call 50; refine (GP.out _ _ _ _ HO.out.view (by first | exact Nat.zero_le _ | exact Nat.le_trans (putS_len _ _ _) (by simp))).mono ?_; clear c0 c1 c2 c3 hz; rintro e w1 ⟨v1, rfl, ho1, hb1⟩; have HB2 := hidIt (HB.out.trans (hb1.mono HB.out.size)); have HO2 := hidIt (NOwn.wk ho1 HB.out.size); clear HB HO hb1 ho1; have HB := HB2; have HO := HO2; clear HB2 HO2; have c0 := cell_later HB.out C0.out; have c1 := cell_later HB.out C1.out; have c2 := cell_later HB.out C2.out; have c3 := cell_later HB.out C3.out; have hz := HB.out.size))
          go_ret
          exact ⟨_, rfl, HO.out, HB.out⟩
        · have htn' : 0 ≤ t := by omega
          rw [if_neg (show ¬ t < 0 by omega)]
          go_enter Try.func17, Try.ntmps17
          go_wp2_with (first | (go_at_call 44; refine (GE.out _).mono ?_; rintro e w' ⟨rfl, hww⟩; cases hww) | (go_at_call 43; refine (GB.out _).mono ?_; rintro e w' ⟨rfl, hww⟩; cases hww) | (go_at_call 19; refine (GF.out _ HB.out).mono ?_; rintro e w' ⟨rfl, hww⟩; cases hww) | (go_at_call 50; refine (GP.out _ _ _ _ HO.out.view (by first | exact Nat.zero_le _ | exact Nat.le_trans (putS_len _ _ _) (by simp))).mono ?_; clear c0 c1 c2 c3 hz; rintro e w1 ⟨v1, rfl, ho1, hb1⟩; have HB2 := hidIt (HB.out.trans (hb1.mono HB.out.size)); have HO2 := hidIt (NOwn.wk ho1 HB.out.size); clear HB HO hb1 ho1; have HB := HB2; have HO := HO2; clear HB2 HO2; have c0 := cell_later HB.out C0.out; have c1 := cell_later HB.out C1.out; have c2 := cell_later HB.out C2.out; have c3 := cell_later HB.out C3.out; have hz := HB.out.size))
          go_ret
          exact ⟨_, rfl, HO.out, HB.out⟩
      · rw [decide_eq_false h6] at GB
        rw [if_neg h6] at HT
        obtain rfl : t = -1 := HT.out
        rw [if_pos (show (-1 : Int) < 0 by decide)]
        go_enter Try.func17, Try.ntmps17
        go_wp2_with (first | (go_at_call 44; refine (GE.out _).mono ?_; rintro e w' ⟨rfl, hww⟩; cases hww) | (go_at_call 43; refine (GB.out _).mono ?_; rintro e w' ⟨rfl, hww⟩; cases hww) | (go_at_call 19; refine (GF.out _ HB.out).mono ?_; rintro e w' ⟨rfl, hww⟩; cases hww) | (go_at_call 50; refine (GP.out _ _ _ _ HO.out.view (by first | exact Nat.zero_le _ | exact Nat.le_trans (putS_len _ _ _) (by simp))).mono ?_; clear c0 c1 c2 c3 hz; rintro e w1 ⟨v1, rfl, ho1, hb1⟩; have HB2 := hidIt (HB.out.trans (hb1.mono HB.out.size)); have HO2 := hidIt (NOwn.wk ho1 HB.out.size); clear HB HO hb1 ho1; have HB := HB2; have HO := HO2; clear HB2 HO2; have c0 := cell_later HB.out C0.out; have c1 := cell_later HB.out C1.out; have c2 := cell_later HB.out C2.out; have c3 := cell_later HB.out C3.out; have hz := HB.out.size))
        go_ret
        exact ⟨_, rfl, HO.out, HB.out⟩
    | false =>
      rw [he] at GE
      rw [if_neg (show ¬ (!false && false) = true by decide)]
      by_cases h6 : kd x.op = 6
      · rw [decide_eq_true h6] at GB
        rw [if_pos h6] at HT
        obtain rfl : t = F := HT.out
        rcases Int.lt_or_le t 0 with htn | htn
        · have htn' : ¬ 0 ≤ t := by omega
          rw [if_pos (show t < 0 by omega)]
          go_enter Try.func17, Try.ntmps17
          go_wp2_with (first | (go_at_call 44; refine (GE.out _).mono ?_; rintro e w' ⟨rfl, hww⟩; cases hww) | (go_at_call 43; refine (GB.out _).mono ?_; rintro e w' ⟨rfl, hww⟩; cases hww) | (go_at_call 19; refine (GF.out _ HB.out).mono ?_; rintro e w' ⟨rfl, hww⟩; cases hww) | (go_at_call 50; refine (GP.out _ _ _ _ HO.out.view (by first | exact Nat.zero_le _ | exact Nat.le_trans (putS_len _ _ _) (by simp))).mono ?_; clear c0 c1 c2 c3 hz; rintro e w1 ⟨v1, rfl, ho1, hb1⟩; have HB2 := hidIt (HB.out.trans (hb1.mono HB.out.size)); have HO2 := hidIt (NOwn.wk ho1 HB.out.size); clear HB HO hb1 ho1; have HB := HB2; have HO := HO2; clear HB2 HO2; have c0 := cell_later HB.out C0.out; have c1 := cell_later HB.out C1.out; have c2 := cell_later HB.out C2.out; have c3 := cell_later HB.out C3.out; have hz := HB.out.size))
          go_ret
          exact ⟨_, rfl, HO.out, HB.out⟩
        · have htn' : 0 ≤ t := by omega
          rw [if_neg (show ¬ t < 0 by omega)]
          go_enter Try.func17, Try.ntmps17
          go_wp2_with (first | (go_at_call 44; refine (GE.out _).mono ?_; rintro e w' ⟨rfl, hww⟩; cases hww) | (go_at_call 43; refine (GB.out _).mono ?_; rintro e w' ⟨rfl, hww⟩; cases hww) | (go_at_call 19; refine (GF.out _ HB.out).mono ?_; rintro e w' ⟨rfl, hww⟩; cases hww) | (go_at_call 50; refine (GP.out _ _ _ _ HO.out.view (by first | exact Nat.zero_le _ | exact Nat.le_trans (putS_len _ _ _) (by simp))).mono ?_; clear c0 c1 c2 c3 hz; rintro e w1 ⟨v1, rfl, ho1, hb1⟩; have HB2 := hidIt (HB.out.trans (hb1.mono HB.out.size)); have HO2 := hidIt (NOwn.wk ho1 HB.out.size); clear HB HO hb1 ho1; have HB := HB2; have HO := HO2; clear HB2 HO2; have c0 := cell_later HB.out C0.out; have c1 := cell_later HB.out C1.out; have c2 := cell_later HB.out C2.out; have c3 := cell_later HB.out C3.out; have hz := HB.out.size))
          go_ret
          exact ⟨_, rfl, HO.out, HB.out⟩
      · rw [decide_eq_false h6] at GB
        rw [if_neg h6] at HT
        obtain rfl : t = -1 := HT.out
        rw [if_pos (show (-1 : Int) < 0 by decide)]
        go_enter Try.func17, Try.ntmps17
        go_wp2_with (first | (go_at_call 44; refine (GE.out _).mono ?_; rintro e w' ⟨rfl, hww⟩; cases hww) | (go_at_call 43; refine (GB.out _).mono ?_; rintro e w' ⟨rfl, hww⟩; cases hww) | (go_at_call 19; refine (GF.out _ HB.out).mono ?_; rintro e w' ⟨rfl, hww⟩; cases hww) | (go_at_call 50; refine (GP.out _ _ _ _ HO.out.view (by first | exact Nat.zero_le _ | exact Nat.le_trans (putS_len _ _ _) (by simp))).mono ?_; clear c0 c1 c2 c3 hz; rintro e w1 ⟨v1, rfl, ho1, hb1⟩; have HB2 := hidIt (HB.out.trans (hb1.mono HB.out.size)); have HO2 := hidIt (NOwn.wk ho1 HB.out.size); clear HB HO hb1 ho1; have HB := HB2; have HO := HO2; clear HB2 HO2; have c0 := cell_later HB.out C0.out; have c1 := cell_later HB.out C1.out; have c2 := cell_later HB.out C2.out; have c3 := cell_later HB.out C3.out; have hz := HB.out.size))
        go_ret
        exact ⟨_, rfl, HO.out, HB.out⟩
set_option maxRecDepth 8000 in
set_option maxHeartbeats 2000000 in
theorem rlay_any (B : Nat) (v u : Value) (l : List IN) (d : List Int) (n : Int) (w : World) (hv : NOwn w B v d) (hu : IView w u l) (hd : d.length ≤ 1000000000000) (hB : B ≤ w.heap.size) :
    Calls Try.prog 55 #[v, u, .int .i64 n] w fun e w' => ∃ v', e = .returned v' ∧ NOwn w' B v' (if 0 ≤ n ∧ n < l.length then putS n d false else d) ∧ Below w.heap.size w w' := by
  have GP := hidIt (rput_any v d n w hv.view hd)
  have HO := hidIt hv
  obtain ⟨ao, cap, rfl⟩ := own_slice hv
  obtain ⟨ao2, cap2, rfl, hc, hm, _⟩ := hu
  clear hv
  by_cases h0 : n < 0
  · rw [if_neg (by omega)]
    go_enter Try.func55, Try.ntmps55
    go_wp2
    go_ret
    exact ⟨_, rfl, HO.out, Below.refl _ _⟩
  by_cases h1 : (l.length : Int) ≤ n
  · rw [if_neg (by omega)]
    go_enter Try.func55, Try.ntmps55
    go_wp2
    go_ret
    exact ⟨_, rfl, HO.out, Below.refl _ _⟩
  rw [if_pos (by omega)]
  go_enter Try.func55, Try.ntmps55
  go_wp2_with (go_at_call 50; refine GP.out.mono ?_; rintro e w1 ⟨v1, rfl, ho1, hb1⟩)
  go_ret
  exact ⟨_, rfl, own_wk ho1 hB, hb1⟩
set_option maxRecDepth 8000 in
set_option maxHeartbeats 2000000 in
theorem nsame_any (v u : Value) (l : List Int) (w : World) (hv : NView w v l) (hu : NView w u l) :
    Calls Try.prog 15 #[v, u] w fun e w' => e = .returned (.bool true) ∧ ∃ q, w' = w.drewN q := by
  have HV := hidIt hv
  have HU := hidIt hu
  obtain ⟨ao, cap, rfl, hc, hm, _⟩ := hv
  obtain ⟨ao2, cap2, rfl, hc2, hm2, _⟩ := hu
  unfold maxLen at hm hm2
  go_enter Try.func15, Try.ntmps15
  go_wp2
  go_loopw [5] (fun i wr => ∃ k q : Nat, i = .int .i64 (k : Int) ∧ k ≤ l.length ∧ wr = w.drewN q) (fun i _ => l.length - (intOf i).toNat)
  case atStart => exact ⟨0, 0, rfl, Nat.zero_le _, rfl⟩
  case round =>
    obtain ⟨k, q, rfl, hk, rfl⟩ := hrel
    by_cases hlt : k < l.length
    · have hlt' : (k : Int) < (l.length : Int) := by omega
      obtain ⟨x, hx⟩ : ∃ x, l[k]? = some x := ⟨l[k], List.getElem?_eq_getElem hlt⟩
      obtain ⟨g, off, rfl, c0⟩ := HV.out.row hx
      obtain ⟨g', off', rfl, d0⟩ := HU.out.row hx
      clear hx
      go_wp2
      go_quiet (fail)
      go_wp2
      exact ⟨⟨k + 1, _, by go_num, by omega, rfl⟩, by simp [intOf]; omega⟩
    · have hlt' : ¬ (k : Int) < (l.length : Int) := by omega
      go_wp2
      go_ret
      exact ⟨rfl, _, rfl⟩
def BView (w : World) (v : Value) (l : List Bool) : Prop :=
  ∃ ao cap, v = .slice ao l.length cap ∧ l.length ≤ cap ∧ cap ≤ maxLen ∧ (l = [] ∨ ∃ g off, ao = some ⟨g, off, none⟩ ∧ ∀ (j : Nat) (x : Bool), l[j]? = some x → w.cell? ⟨g, off + j, none⟩ = some (.bool x))
theorem BView.below {w w' : World} {v : Value} {l : List Bool} (h : BView w v l) (hb : Below w.heap.size w w') : BView w' v l := by
  obtain ⟨ao, cap, e, hc, hm, hl⟩ := h
  refine ⟨ao, cap, e, hc, hm, ?_⟩
  rcases hl with h | ⟨g, off, e, hl⟩
  · exact .inl h
  · exact .inr ⟨g, off, e, fun j x hj => cell_later hb (hl j x hj)⟩
theorem BView.row {w : World} {ao : Option Addr} {n cap : Nat} {l : List Bool} (h : BView w (.slice ao n cap) l) {j : Nat} {x : Bool} (hj : l[j]? = some x) : ∃ g off, ao = some ⟨g, off, none⟩ ∧ w.cell? ⟨g, off + j, none⟩ = some (.bool x) := by
  obtain ⟨ao', cap', e, hc, hm, hl⟩ := h
  cases e
  rcases hl with rfl | ⟨g, off, rfl, hl⟩
  · simp at hj
  · exact ⟨g, off, rfl, hl j x hj⟩
set_option maxRecDepth 8000 in
set_option maxHeartbeats 2000000 in
theorem bsame_any (v u : Value) (l : List Bool) (w : World) (hv : BView w v l) (hu : BView w u l) :
    Calls Try.prog 24 #[v, u] w fun e w' => e = .returned (.bool true) ∧ ∃ q, w' = w.drewN q := by
  have HV := hidIt hv
  have HU := hidIt hu
  obtain ⟨ao, cap, rfl, hc, hm, _⟩ := hv
  obtain ⟨ao2, cap2, rfl, hc2, hm2, _⟩ := hu
  unfold maxLen at hm hm2
  go_enter Try.func24, Try.ntmps24
  go_wp2
  go_loopw [5] (fun i wr => ∃ k q : Nat, i = .int .i64 (k : Int) ∧ k ≤ l.length ∧ wr = w.drewN q) (fun i _ => l.length - (intOf i).toNat)
  case atStart => exact ⟨0, 0, rfl, Nat.zero_le _, rfl⟩
  case round =>
    obtain ⟨k, q, rfl, hk, rfl⟩ := hrel
    by_cases hlt : k < l.length
    · have hlt' : (k : Int) < (l.length : Int) := by omega
      obtain ⟨x, hx⟩ : ∃ x, l[k]? = some x := ⟨l[k], List.getElem?_eq_getElem hlt⟩
      obtain ⟨g, off, rfl, c0⟩ := HV.out.row hx
      obtain ⟨g', off', rfl, d0⟩ := HU.out.row hx
      clear hx
      go_wp2
      go_quiet (fail)
      go_wp2
      exact ⟨⟨k + 1, _, by go_num, by omega, rfl⟩, by simp [intOf]; omega⟩
    · have hlt' : ¬ (k : Int) < (l.length : Int) := by omega
      go_wp2
      go_ret
      exact ⟨rfl, _, rfl⟩
end Go.Proofs.Ytbmfkbgncjldjaa
namespace Go.Proofs.Ytbmfkbgncjldjaa
open Go.RowKit

set_option maxRecDepth 8000 in
set_option maxHeartbeats 1000000 in
theorem inst_any (p op a : Int) (w : World) : Calls Try.prog 53 #[.int .i64 p, .int .i64 op, .int .i64 a] w fun e w' => e = .returned (.agg #[.int .i64 p, .int .i64 op, .int .i64 a, .int .i64 0]) ∧ Below w.heap.size w w' := by
  go_enter Try.func53, Try.ntmps53
  go_wp2
  exact bodyPost_ret (results_cell_row rfl _ _ w.heap.size 81 _ (0, 0) _ rfl (heap_alloc_new w _) Try.underlying81 rfl (by kernel_rfl)) rfl ⟨rfl, below_alloc _ _⟩
def PV (w : World) (v : Value) (bl : List (Nat × Nat)) (nx : Nat × Nat → List Int) : Prop :=
  ∃ ao cap, v = .slice ao bl.length cap ∧ bl.length ≤ 1000000000000 ∧ ∀ (j : Nat) (x : Nat × Nat), bl[j]? = some x → ∃ g off u, ao = some ⟨g, off, none⟩ ∧ w.cell? ⟨g, off + j * 3, none⟩ = some (.int .i64 (x.1 : Int)) ∧ w.cell? ⟨g, off + j * 3 + 1, none⟩ = some (.int .i64 (x.2 : Int)) ∧ w.cell? ⟨g, off + j * 3 + 2, none⟩ = some u ∧ NView w u (nx x)
theorem NView.drewN {w : World} {v : Value} {l : List Int} (h : NView w v l) (q : Nat) : NView (w.drewN q) v l := h
set_option maxRecDepth 8000 in
set_option maxHeartbeats 4000000 in
theorem same_any (v u : Value) (bl : List (Nat × Nat)) (nx : Nat × Nat → List Int) (w : World) (hv : PV w v bl nx) (hu : PV w u bl nx) :
    Calls Try.prog 21 #[v, u] w fun e w' => e = .returned (.bool true) ∧ ∃ q, w' = w.drewN q := by
  obtain ⟨ao, cap, rfl, hb, hv⟩ := hv
  obtain ⟨ao2, cap2, rfl, -, hu⟩ := hu
  have HV := hidIt hv
  have HU := hidIt hu
  clear hv hu
  go_enter Try.func21, Try.ntmps21
  go_wp2
  go_loopw [5] (fun i wr => ∃ k q : Nat, i = .int .i64 (k : Int) ∧ k ≤ bl.length ∧ wr = w.drewN q) (fun i _ => bl.length - (intOf i).toNat)
  case atStart => exact ⟨0, 0, rfl, Nat.zero_le _, rfl⟩
  case round =>
    obtain ⟨k, q, rfl, hk, rfl⟩ := hrel
    by_cases hlt : k < bl.length
    · have hlt' : (k : Int) < (bl.length : Int) := by omega
      obtain ⟨x, hx⟩ : ∃ x, bl[k]? = some x := ⟨bl[k], List.getElem?_eq_getElem hlt⟩
      obtain ⟨g, off, va, rfl, c0, c1, c2, na⟩ := HV.out k x hx
      obtain ⟨g', off', vb, rfl, d0, d1, d2, nb⟩ := HU.out k x hx
      obtain ⟨W, hW⟩ : ∃ W, W = w.drewN q := ⟨_, rfl⟩
      have c0 : W.cell? ⟨g, off + k * 3, none⟩ = some (.int .i64 (x.1 : Int)) := by rw [hW]; exact c0
      have c1 : W.cell? ⟨g, off + k * 3 + 1, none⟩ = some (.int .i64 (x.2 : Int)) := by rw [hW]; exact c1
      have c2 : W.cell? ⟨g, off + k * 3 + 2, none⟩ = some va := by rw [hW]; exact c2
      have d0 : W.cell? ⟨g', off' + k * 3, none⟩ = some (.int .i64 (x.1 : Int)) := by rw [hW]; exact d0
      have d1 : W.cell? ⟨g', off' + k * 3 + 1, none⟩ = some (.int .i64 (x.2 : Int)) := by rw [hW]; exact d1
      have d2 : W.cell? ⟨g', off' + k * 3 + 2, none⟩ = some vb := by rw [hW]; exact d2
      have na : NView W va (nx x) := by rw [hW]; exact na
      have nb : NView W vb (nx x) := by rw [hW]; exact nb
      rw [← hW]
      have HW := hidIt hW
      have GS := hidIt (fun n => nsame_any va vb (nx x) (W.drewN n) (na.drewN n) (nb.drewN n))
      obtain ⟨aoa, capa, rfl, -⟩ := na
      obtain ⟨aob, capb, rfl, -⟩ := nb
      clear hx hW
      go_wp2
      go_quiet ((go_at_call 15; exact Calls.quiet_of (GS.out _)))
      go_wp2
      refine ⟨⟨k + 1, q + nq, by go_num, by omega, ?_⟩, by simp [intOf]; omega⟩
      rw [HW.out, World.drewN_drewN]
    · have hlt' : ¬ (k : Int) < (bl.length : Int) := by omega
      go_wp2
      go_ret
      exact ⟨rfl, _, rfl⟩
end Go.Proofs.Ytbmfkbgncjldjaa
namespace Go.Proofs.Ytbmfkbgncjldjaa
open Go.RowKit

theorem IView.laidN (w : World) (l : List IN) (hm : l.length ≤ maxLen) : IView (w.alloc (.cells (icells l).toArray 81)) (.slice (some ⟨w.heap.size, 0, none⟩) l.length l.length) l :=
  ⟨_, _, rfl, Nat.le_refl _, hm, .inr ⟨_, _, rfl, ILies.of_block (heap_alloc_new w _) rfl (by rw [← icells_len]; simp)⟩⟩
def lNop : List IN := [⟨0, 0, 0, 0⟩]
def lGo : List IN := [⟨0, 167, 3, 0⟩, ⟨3, 167, 0, 0⟩]
def lRet : List IN := [⟨0, 177, 0, 0⟩, ⟨1, 177, 0, 0⟩]
theorem chk_nop : checkZ lNop [] [] = (17, 0) := by kernel_rfl
theorem lead_go : leadZ lGo [] = [true, true] := by kernel_rfl
theorem next_go0 : nextZ lGo 0 = [1] := by kernel_rfl
theorem next_go1 : nextZ lGo 1 = [0] := by kernel_rfl
theorem next_ret0 : nextZ lRet 0 = [] := by kernel_rfl
theorem blk_go {bl : List (Nat × Nat)} (h : Blk (leadZ lGo []) lGo.length 0 bl) : bl = [(0, 1), (1, 2)] := by
  refine h.unique ?_
  rw [lead_go]
  exact .cons (by decide) (by decide) (fun q h1 h2 => by omega) (.inr rfl) (.cons (by decide) (by decide) (fun q h1 h2 => by omega) (.inl rfl) .nil)
theorem nx_go {nu : List Int} (hn : Numb [(0, 1), (1, 2)] nu) : (nextZ lGo (((1 : Nat) : Int) - 1)).map (fun m => (nu[m.toNat]?).getD 0) = [1] ∧ (nextZ lGo (((2 : Nat) : Int) - 1)).map (fun m => (nu[m.toNat]?).getD 0) = [0] := by
  have h0 := hn 0 (0, 1) rfl
  have h1 := hn 1 (1, 2) rfl
  rw [show ((1 : Nat) : Int) - 1 = 0 by omega, show ((2 : Nat) : Int) - 1 = 1 by omega, next_go0, next_go1]
  simp only [List.map_cons, List.map_nil]
  rw [show (1 : Int).toNat = 1 from rfl, show (0 : Int).toNat = 0 from rfl, h0, h1]
  exact ⟨rfl, rfl⟩
theorem reach_ret {r : List Bool} (h : ReachIs lRet [] r) : r = [true, false] := by
  refine h.unique ⟨rfl, fun k hk => ?_⟩
  have hz : ∀ k, Rch lRet [] k → k = 0 := by
    intro k hr
    induction hr with
    | zero => rfl
    | step _ hs ih =>
      subst ih
      rcases hs with hs | ⟨i, x, _, hx, _⟩
      · rw [show ((0 : Nat) : Int) = 0 from rfl, next_ret0] at hs; simp at hs
      · simp at hx
  have hk2 : k < 2 := hk
  match k, hk2 with
  | 0, _ => exact ⟨fun _ => .zero (by decide), fun _ => rfl⟩
  | 1, _ => exact ⟨fun h => by simp at h, fun h => by have := hz 1 h; omega⟩
theorem places_of (l : List IN) (h : l.all (fun x => decide (-4611686018427387904 ≤ x.pl) && decide (x.pl ≤ 4611686018427387904)) = true) : Places l := fun x hx => by
  have := List.all_eq_true.1 h x hx
  simpa using this
theorem pv_go {w : World} {ao : Option Addr} {cap : Nat} {bl : List (Nat × Nat)} {nu : List Int} (hb : Blk (leadZ lGo []) lGo.length 0 bl) (hn : Numb bl nu) (hk : bl = [] ∨ ∃ g cs, ao = some ⟨g, 0, none⟩ ∧ KL w g bl (fun x => (nextZ lGo ((x.2 : Int) - 1)).map (fun m => (nu[m.toNat]?).getD 0)) bl.length cs) :
    bl = [(0, 1), (1, 2)] ∧ PV w (.slice ao 2 cap) [(0, 1), (1, 2)] (fun x => if x.1 = 0 then [1] else [0]) := by
  have e := blk_go hb
  subst e
  refine ⟨rfl, ao, cap, rfl, by decide, fun j x hj => ?_⟩
  rcases hk with h | ⟨g, cs, rfl, hk⟩
  · cases h
  · obtain ⟨h1, h2, _⟩ := hk.fst j x hj
    obtain ⟨u, h3, h4⟩ := hk.lst j x hj (List.getElem?_eq_some_iff.1 hj).1
    refine ⟨g, 0, u, rfl, cell_row hk.row _ (by rw [Nat.zero_add]; exact h1), cell_row hk.row _ (by rw [Nat.zero_add]; exact h2), cell_row hk.row _ (by rw [Nat.zero_add]; exact h3), ?_⟩
    have hnx := nx_go hn
    match j, hj with
    | 0, hj => simp at hj; subst hj; have := h4.view; dsimp only at this; rw [hnx.1] at this; exact this
    | 1, hj => simp at hj; subst hj; have := h4.view; dsimp only at this; rw [hnx.2] at this; exact this
    | j + 2, hj => simp at hj
theorem NView.laid1 (w : World) (y : Int) : NView (w.alloc (.cells #[.int .i64 y] 3)) (.slice (some ⟨w.heap.size, 0, none⟩) 1 1) [y] := by
  refine ⟨_, _, rfl, Nat.le_refl _, by decide, .inr ⟨_, _, rfl, fun j x hj => ?_⟩⟩
  match j, hj with
  | 0, hj => simp at hj; subst hj; exact cell_row (heap_alloc_new w _) 0 rfl
  | j + 1, hj => simp at hj
theorem PV.below {w w' : World} {v : Value} {bl : List (Nat × Nat)} {nx : Nat × Nat → List Int} (h : PV w v bl nx) (hb : Below w.heap.size w w') : PV w' v bl nx := by
  obtain ⟨ao, cap, e, h1, h2⟩ := h
  refine ⟨ao, cap, e, h1, fun j x hj => ?_⟩
  obtain ⟨g, off, u, e, c0, c1, c2, n⟩ := h2 j x hj
  exact ⟨g, off, u, e, cell_later hb c0, cell_later hb c1, cell_later hb c2, n.below hb⟩
theorem pv_lit (w : World) : PV (((w.alloc (.cells #[.int .i64 1] 3)).alloc (.cells #[.int .i64 0] 3)).alloc (.cells #[.int .i64 0, .int .i64 1, .slice (some ⟨w.heap.size, 0, none⟩) 1 1, .int .i64 1, .int .i64 2, .slice (some ⟨w.heap.size + 1, 0, none⟩) 1 1] 93)) (.slice (some ⟨w.heap.size + 1 + 1, 0, none⟩) 2 2) [(0, 1), (1, 2)] (fun x => if x.1 = 0 then [1] else [0]) := by
  have hr := heap_alloc_new' (w := (w.alloc (.cells #[.int .i64 1] 3)).alloc (.cells #[.int .i64 0] 3)) (o := .cells #[.int .i64 0, .int .i64 1, .slice (some ⟨w.heap.size, 0, none⟩) 1 1, .int .i64 1, .int .i64 2, .slice (some ⟨w.heap.size + 1, 0, none⟩) 1 1] 93) (k := w.heap.size + 1 + 1) (by simp)
  have n1 := ((NView.laid1 w 1).below (below_alloc _ (.cells #[.int .i64 0] 3))).below (below_alloc _ (.cells #[.int .i64 0, .int .i64 1, .slice (some ⟨w.heap.size, 0, none⟩) 1 1, .int .i64 1, .int .i64 2, .slice (some ⟨w.heap.size + 1, 0, none⟩) 1 1] 93))
  have n2 := (NView.laid1 (w.alloc (.cells #[.int .i64 1] 3)) 0).below (below_alloc _ (.cells #[.int .i64 0, .int .i64 1, .slice (some ⟨w.heap.size, 0, none⟩) 1 1, .int .i64 1, .int .i64 2, .slice (some ⟨w.heap.size + 1, 0, none⟩) 1 1] 93))
  rw [show (w.alloc (.cells #[.int .i64 1] 3)).heap.size = w.heap.size + 1 by simp] at n2
  refine ⟨_, 2, rfl, by decide, fun j x hj => ⟨w.heap.size + 1 + 1, 0, ?_⟩⟩
  match j, hj with
  | 0, hj => simp at hj; subst hj; exact ⟨_, rfl, cell_row hr 0 rfl, cell_row hr 1 rfl, cell_row hr 2 rfl, n1⟩
  | 1, hj => simp at hj; subst hj; exact ⟨_, rfl, cell_row hr 3 rfl, cell_row hr 4 rfl, cell_row hr 5 rfl, n2⟩
  | j + 2, hj => simp at hj
theorem BView.laidN (w : World) (d : List Bool) (hm : d.length ≤ maxLen) : BView (w.alloc (.cells (bcellsB d) 4)) (.slice (some ⟨w.heap.size, 0, none⟩) d.length d.length) d :=
  ⟨_, _, rfl, Nat.le_refl _, hm, .inr ⟨_, _, rfl, fun j x hj => cell_row (heap_alloc_new w _) _ (by rw [Nat.zero_add]; simp [bcellsB, hj])⟩⟩
theorem BView.row_of {w : World} {g n : Nat} {d : List Bool} (h : w.heap[g]? = some (.cells (bcellsB d) 4 (0, 0))) (hn : d.length = n) (hm : d.length ≤ maxLen) : BView w (.slice (some ⟨g, 0, none⟩) n n) d := by
  subst hn
  exact ⟨_, _, rfl, Nat.le_refl _, hm, .inr ⟨_, _, rfl, fun j x hj => cell_row h _ (by rw [Nat.zero_add]; simp [bcellsB, hj])⟩⟩
end Go.Proofs.Ytbmfkbgncjldjaa
namespace Go.Proofs.Ytbmfkbgncjldjaa
open Go.RowKit

set_option maxRecDepth 8000 in
set_option maxHeartbeats 4000000 in
theorem known_any (w : World) : Calls Try.prog 20 #[] w fun e w' => e = .returned (.bool true) ∧ Below w.heap.size w w' := by
  have GI := hidIt (fun (p op a : Int) W => inst_any p op a W)
  have HB := hidIt (Below.refl w.heap.size w)
  go_enter Try.func20, Try.ntmps20
  go_wp2_with fail
  refine (GI.out _ _ _ _).mono ?_
  rintro e w1 ⟨rfl, b1⟩
  have HB1 := hidIt (HB.out.trans (b1.mono HB.out.size))
  clear HB b1
  have V1 : IView (w1.alloc (.cells #[.int .i64 0, .int .i64 0, .int .i64 0, .int .i64 0] 81)) (.slice (some ⟨w1.heap.size, 0, none⟩) 1 1) lNop := IView.laidN w1 lNop (by decide)
  have G1 := hidIt (check_any _ _ _ lNop [] [] _ V1 (HView.nil _) (FView.nil _) (places_of _ (by kernel_rfl)))
  rw [chk_nop] at G1
  unfold Ans at G1
  have HB2 := hidIt (HB1.out.trans ((below_alloc w1 (.cells #[.int .i64 0, .int .i64 0, .int .i64 0, .int .i64 0] 81)).mono HB1.out.size))
  clear V1 HB1
  go_wp2_with fail
  refine G1.out.mono ?_
  rintro e w2 ⟨rfl, b2⟩
  have HB3 := hidIt (HB2.out.trans (b2.mono HB2.out.size))
  clear HB2 b2 G1
  go_wp2_with fail
  refine (GI.out _ _ _ _).mono ?_
  rintro e w3 ⟨rfl, b3⟩
  have HB4 := hidIt (HB3.out.trans (b3.mono HB3.out.size))
  clear HB3 b3
  go_wp2_with fail
  refine (GI.out _ _ _ _).mono ?_
  rintro e w4 ⟨rfl, b4⟩
  have HB5 := hidIt (HB4.out.trans (b4.mono HB4.out.size))
  clear HB4 b4
  have V2 : IView (w4.alloc (.cells #[.int .i64 0, .int .i64 167, .int .i64 3, .int .i64 0, .int .i64 3, .int .i64 167, .int .i64 0, .int .i64 0] 81)) (.slice (some ⟨w4.heap.size, 0, none⟩) 2 2) lGo := IView.laidN w4 lGo (by decide)
  have G2 := hidIt (blocks_any _ _ lGo [] _ V2 (HView.nil _) (by decide))
  have HB6 := hidIt (HB5.out.trans ((below_alloc w4 (.cells #[.int .i64 0, .int .i64 167, .int .i64 3, .int .i64 0, .int .i64 3, .int .i64 167, .int .i64 0, .int .i64 0] 81)).mono HB5.out.size))
  clear V2 HB5
  go_wp2_with fail
  refine G2.out.mono ?_
  rintro e w5 ⟨ao, cap, bl, nu, rfl, hbk, hnb, hnl, b5, hkl⟩
  obtain ⟨e5, hpv⟩ := pv_go (cap := cap) hbk hnb hkl
  subst e5
  have HB7 := hidIt (HB6.out.trans (b5.mono HB6.out.size))
  have HPV := hidIt (hpv.below (((below_alloc w5 (.cells #[.int .i64 1] 3)).alloc (below_alloc w5 (.cells #[.int .i64 1] 3)).size (.cells #[.int .i64 0] 3)).alloc (Nat.le_trans (below_alloc w5 (.cells #[.int .i64 1] 3)).size (below_alloc _ (.cells #[.int .i64 0] 3)).size) (.cells #[.int .i64 0, .int .i64 1, .slice (some ⟨w5.heap.size, 0, none⟩) 1 1, .int .i64 1, .int .i64 2, .slice (some ⟨w5.heap.size + 1, 0, none⟩) 1 1] 93)))
  have GS := hidIt (same_any _ _ _ _ _ HPV.out (pv_lit w5))
  have hlen2 : ([(0, 1), (1, 2)] : List (Nat × Nat)).length = 2 := rfl
  clear HB6 b5 G2 hpv hkl hnb hbk hnl HPV
  rw [hlen2]
  clear hlen2
  have HB8 := hidIt (HB7.out.trans ((((below_alloc w5 (.cells #[.int .i64 1] 3)).alloc (below_alloc w5 (.cells #[.int .i64 1] 3)).size (.cells #[.int .i64 0] 3)).alloc (Nat.le_trans (below_alloc w5 (.cells #[.int .i64 1] 3)).size (below_alloc _ (.cells #[.int .i64 0] 3)).size) (.cells #[.int .i64 0, .int .i64 1, .slice (some ⟨w5.heap.size, 0, none⟩) 1 1, .int .i64 1, .int .i64 2, .slice (some ⟨w5.heap.size + 1, 0, none⟩) 1 1] 93)).mono HB7.out.size))
  clear HB7
  go_wp2_with fail
  refine GS.out.mono ?_
  rintro e w6 ⟨rfl, q, hq⟩
  have HB9 := hidIt (below_drewN HB8.out q)
  rw [← hq] at HB9
  clear hq HB8 GS
  go_wp2_with fail
  refine (GI.out _ _ _ _).mono ?_
  rintro e w7 ⟨rfl, b7⟩
  have HB10 := hidIt (HB9.out.trans (b7.mono HB9.out.size))
  clear HB9 b7
  go_wp2_with fail
  refine (GI.out _ _ _ _).mono ?_
  rintro e w8 ⟨rfl, b8⟩
  have HB11 := hidIt (HB10.out.trans (b8.mono HB10.out.size))
  clear HB10 b8 GI
  have V3 : IView (w8.alloc (.cells #[.int .i64 0, .int .i64 177, .int .i64 0, .int .i64 0, .int .i64 1, .int .i64 177, .int .i64 0, .int .i64 0] 81)) (.slice (some ⟨w8.heap.size, 0, none⟩) 2 2) lRet := IView.laidN w8 lRet (by decide)
  have G3 := hidIt (reach_any _ _ lRet [] _ V3 (HView.nil _) (by decide))
  have HB12 := hidIt (HB11.out.trans ((below_alloc w8 (.cells #[.int .i64 0, .int .i64 177, .int .i64 0, .int .i64 0, .int .i64 1, .int .i64 177, .int .i64 0, .int .i64 0] 81)).mono HB11.out.size))
  clear V3 HB11
  go_wp2_with fail
  refine G3.out.mono ?_
  rintro e w9 ⟨g, r, rfl, hg, hrow, hri, b9⟩
  have er := reach_ret hri
  subst er
  have HB13 := hidIt (HB12.out.trans (b9.mono HB12.out.size))
  have BV := (BView.row_of (n := 2) hrow rfl (by decide)).below (below_alloc w9 (.cells #[.bool true, .bool false] 4))
  have BL : BView (w9.alloc (.cells #[.bool true, .bool false] 4)) (.slice (some ⟨w9.heap.size, 0, none⟩) 2 2) [true, false] := BView.laidN w9 [true, false] (by decide)
  have GB := hidIt (bsame_any _ _ _ _ BV BL)
  have HB14 := hidIt (HB13.out.trans ((below_alloc w9 (.cells #[.bool true, .bool false] 4)).mono HB13.out.size))
  have hl2 : lRet.length = 2 := rfl
  rw [hl2]
  clear HB12 HB13 b9 hg hrow hri BV BL hl2 G3
  go_wp2_with fail
  refine GB.out.mono ?_
  rintro e w10 ⟨rfl, q2, hq2⟩
  have HB15 := hidIt (below_drewN HB14.out q2)
  rw [← hq2] at HB15
  clear hq2 HB14 GB
  go_wp2_with fail
  go_ret
  exact ⟨rfl, HB15.out⟩
end Go.Proofs.Ytbmfkbgncjldjaa
namespace Go.Proofs.Ytbmfkbgncjldjaa
open Go.RowKit

theorem own_join {α : Type} {k T B : Nat} {f : α → List Value} {w : World} {v : Value} {a c : List α} (hk : ∀ x, (f x).length = k) (h : w.ownsRow B T k v (0 + a.length + c.length) ([] ++ a.flatMap f ++ c.flatMap f)) : GView k f w v (a ++ c) := by
  refine GView.of_own (T := T) (B := B) hk ?_
  rw [List.flatMap_append, List.length_append]
  simpa using h
end Go.Proofs.Ytbmfkbgncjldjaa
