/- Texts FE FF FM. -/
import Derived.Test.YtbmfkbgncjldjabBv26
namespace Go.Proofs.Ytbmfkbgncjldjab
open Go.RowKit

set_option maxRecDepth 8000 in
set_option maxHeartbeats 4000000 in
theorem next_any (v : Value) (l : List IN) (n : Int) (w : World) (hv : IView w v l) :
    Calls Try.prog 10 #[v, .int .i64 n] w fun e w' => ∃ v', e = .returned v' ∧ NOwn w' w.heap.size v' (nextZ l n) ∧ Below w.heap.size w w' := by
  have HV := hidIt hv
  obtain ⟨ao, cap, rfl, hc, hm, _⟩ := hv
  unfold maxLen at hm
  by_cases h0 : n < 0
  · rw [nextZ_out (.inl h0)]
    go_enter Try.func10, Try.ntmps10
    go_wp2
    go_ret
    exact ⟨_, rfl, NOwn.nil _ _, Below.refl _ _⟩
  by_cases h1 : (l.length : Int) ≤ n
  · rw [nextZ_out (.inr h1)]
    go_enter Try.func10, Try.ntmps10
    go_wp2
    go_ret
    exact ⟨_, rfl, NOwn.nil _ _, Below.refl _ _⟩
  obtain ⟨k, rfl⟩ := Int.eq_ofNat_of_zero_le (Int.not_lt.1 h0)
  have hk : k < l.length := by omega
  have hk' : (k : Int) < (l.length : Int) := by omega
  obtain ⟨x, hx⟩ : ∃ x, l[k]? = some x := ⟨l[k], List.getElem?_eq_getElem hk⟩
  rw [nextZ_at hx, nextL_sorted]
  obtain ⟨g, off, rfl, c0, c1, c2, c3⟩ := HV.out.row hx
  have GE := hidIt (fun W => ends_any x.op W)
  have GT := hidIt (fun W (h : Below w.heap.size w W) => target_any _ l x W (HV.out.below h))
  have GS := hidIt (fun B v l w => sortN B v l w)
  have GC := hidIt (fun B v l w => compactN B v l w)
  have ht := tgtZ_lt l x
  unfold IN.val at GT
  clear hx HV
  generalize tgtZ l x = t at *
  obtain ⟨ht0, ht1⟩ := ht
  have C0 := hidIt c0
  have C1 := hidIt c1
  have C2 := hidIt c2
  have C3 := hidIt c3
  have HB := hidIt (Below.refl w.heap.size w)
  have HO := hidIt (NOwn.nil w w.heap.size)
  have hz : w.heap.size ≤ w.heap.size := Nat.le_refl _
  have hlast := Nat.lt_or_ge (k + 1) l.length
  rcases hlast with hlast | hlast
  · have hlast' : (k : Int) + 1 < (l.length : Int) := by omega
    rw [decide_eq_true (show k + 1 < l.length by omega)]
    rcases Int.lt_or_le t 0 with htn | htn
    · have htn' : ¬ 0 ≤ t := by omega
      rw [if_pos (show t < 0 by omega)]
      cases he : endsB x.op with
      | true =>
        rw [he] at GE
        rw [if_neg (by decide)]
        go_enter Try.func10, Try.ntmps10
        go_upto_region 4 with (fail)
        generalize hv0 : Value.slice none 0 0 = v0 at *
        clear hv0
        obtain ⟨ao0, cap0, rfl⟩ := own_slice HO.out
        go_wp2_with (first | (go_at_call 20; refine (GE.out _).mono ?_; rintro e w' ⟨rfl, hww⟩; cases hww) | (go_at_call 21; refine (GT.out _ HB.out).mono ?_; clear c0 c1 c2 c3; clear hz; rintro e w1 ⟨rfl, hb1⟩; have HB2 := hidIt (HB.out.trans (hb1.mono HB.out.size)); have HO2 := hidIt (HO.out.step hb1); clear HB HO hb1; have HB := HB2; have HO := HO2; clear HB2 HO2; have c0 := cell_later HB.out C0.out; have c1 := cell_later HB.out C1.out; have c2 := cell_later HB.out C2.out; have c3 := cell_later HB.out C3.out; have hz := HB.out.size) | (at_builtin; refine wpList_nappend rfl _ _ rfl w.heap.size _ _ _ HO.out rfl rfl (by simp) HB.out.size ?_; clear c0 c1 c2 c3; intro ao2 cap2 w2 ho2 st2; have HB2 := hidIt ((HB.out.trans ((below_alloc _ _).mono HB.out.size)).trans (st2.below (Nat.le_trans HB.out.size (below_alloc _ _).size) (fun k hk => (HO.out.lt k hk).1))); have HO2 := hidIt ho2; clear HB HO ho2 st2 hz; have HB := HB2; have HO := HO2; clear HB2 HO2; have c0 := cell_later HB.out C0.out; have c1 := cell_later HB.out C1.out; have c2 := cell_later HB.out C2.out; have c3 := cell_later HB.out C3.out; have hz := HB.out.size) | (go_at_call 22; refine (GS.out w.heap.size _ _ _ HO.out (by simp)).mono ?_; clear c0 c1 c2 c3; clear hz; rintro e w3 ⟨rfl, ho3, hb3⟩; have HB2 := hidIt (HB.out.trans hb3); have HO2 := hidIt ho3; clear HB HO ho3 hb3; have HB := HB2; have HO := HO2; clear HB2 HO2; have c0 := cell_later HB.out C0.out; have c1 := cell_later HB.out C1.out; have c2 := cell_later HB.out C2.out; have c3 := cell_later HB.out C3.out; have hz := HB.out.size) | (go_at_call 23; refine (GC.out w.heap.size _ _ _ HO.out (by rw [sortL_len]; simp)).mono ?_; clear c0 c1 c2 c3; clear hz; rintro e w4 ⟨v4, rfl, ho4, hb4⟩; have HB2 := hidIt (HB.out.trans hb4); have HO2 := hidIt ho4; clear HB HO ho4 hb4; have HB := HB2; have HO := HO2; clear HB2 HO2; have c0 := cell_later HB.out C0.out; have c1 := cell_later HB.out C1.out; have c2 := cell_later HB.out C2.out; have c3 := cell_later HB.out C3.out; have hz := HB.out.size))
        go_ret
        exact ⟨_, rfl, HO.out, HB.out⟩
      | false =>
        rw [he] at GE
        rw [if_pos (by decide)]
        go_enter Try.func10, Try.ntmps10
        go_upto_region 4 with (fail)
        generalize hv0 : Value.slice none 0 0 = v0 at *
        clear hv0
        obtain ⟨ao0, cap0, rfl⟩ := own_slice HO.out
        go_wp2_with (first | (go_at_call 20; refine (GE.out _).mono ?_; rintro e w' ⟨rfl, hww⟩; cases hww) | (go_at_call 21; refine (GT.out _ HB.out).mono ?_; clear c0 c1 c2 c3; clear hz; rintro e w1 ⟨rfl, hb1⟩; have HB2 := hidIt (HB.out.trans (hb1.mono HB.out.size)); have HO2 := hidIt (HO.out.step hb1); clear HB HO hb1; have HB := HB2; have HO := HO2; clear HB2 HO2; have c0 := cell_later HB.out C0.out; have c1 := cell_later HB.out C1.out; have c2 := cell_later HB.out C2.out; have c3 := cell_later HB.out C3.out; have hz := HB.out.size) | (at_builtin; refine wpList_nappend rfl _ _ rfl w.heap.size _ _ _ HO.out rfl rfl (by simp) HB.out.size ?_; clear c0 c1 c2 c3; intro ao2 cap2 w2 ho2 st2; have HB2 := hidIt ((HB.out.trans ((below_alloc _ _).mono HB.out.size)).trans (st2.below (Nat.le_trans HB.out.size (below_alloc _ _).size) (fun k hk => (HO.out.lt k hk).1))); have HO2 := hidIt ho2; clear HB HO ho2 st2 hz; have HB := HB2; have HO := HO2; clear HB2 HO2; have c0 := cell_later HB.out C0.out; have c1 := cell_later HB.out C1.out; have c2 := cell_later HB.out C2.out; have c3 := cell_later HB.out C3.out; have hz := HB.out.size) | (go_at_call 22; refine (GS.out w.heap.size _ _ _ HO.out (by simp)).mono ?_; clear c0 c1 c2 c3; clear hz; rintro e w3 ⟨rfl, ho3, hb3⟩; have HB2 := hidIt (HB.out.trans hb3); have HO2 := hidIt ho3; clear HB HO ho3 hb3; have HB := HB2; have HO := HO2; clear HB2 HO2; have c0 := cell_later HB.out C0.out; have c1 := cell_later HB.out C1.out; have c2 := cell_later HB.out C2.out; have c3 := cell_later HB.out C3.out; have hz := HB.out.size) | (go_at_call 23; refine (GC.out w.heap.size _ _ _ HO.out (by rw [sortL_len]; simp)).mono ?_; clear c0 c1 c2 c3; clear hz; rintro e w4 ⟨v4, rfl, ho4, hb4⟩; have HB2 := hidIt (HB.out.trans hb4); have HO2 := hidIt ho4; clear HB HO ho4 hb4; have HB := HB2; have HO := HO2; clear HB2 HO2; have c0 := cell_later HB.out C0.out; have c1 := cell_later HB.out C1.out; have c2 := cell_later HB.out C2.out; have c3 := cell_later HB.out C3.out; have hz := HB.out.size))
        go_ret
        exact ⟨_, rfl, HO.out, HB.out⟩
    · have htn' : 0 ≤ t := by omega
      rw [if_neg (show ¬ t < 0 by omega)]
      cases he : endsB x.op with
      | true =>
        rw [he] at GE
        rw [if_neg (by decide)]
        go_enter Try.func10, Try.ntmps10
        go_upto_region 4 with (fail)
        generalize hv0 : Value.slice none 0 0 = v0 at *
        clear hv0
        obtain ⟨ao0, cap0, rfl⟩ := own_slice HO.out
        go_wp2_with (first | (go_at_call 20; refine (GE.out _).mono ?_; rintro e w' ⟨rfl, hww⟩; cases hww) | (go_at_call 21; refine (GT.out _ HB.out).mono ?_; clear c0 c1 c2 c3; clear hz; rintro e w1 ⟨rfl, hb1⟩; have HB2 := hidIt (HB.out.trans (hb1.mono HB.out.size)); have HO2 := hidIt (HO.out.step hb1); clear HB HO hb1; have HB := HB2; have HO := HO2; clear HB2 HO2; have c0 := cell_later HB.out C0.out; have c1 := cell_later HB.out C1.out; have c2 := cell_later HB.out C2.out; have c3 := cell_later HB.out C3.out; have hz := HB.out.size) | (at_builtin; refine wpList_nappend rfl _ _ rfl w.heap.size _ _ _ HO.out rfl rfl (by simp) HB.out.size ?_; clear c0 c1 c2 c3; intro ao2 cap2 w2 ho2 st2; have HB2 := hidIt ((HB.out.trans ((below_alloc _ _).mono HB.out.size)).trans (st2.below (Nat.le_trans HB.out.size (below_alloc _ _).size) (fun k hk => (HO.out.lt k hk).1))); have HO2 := hidIt ho2; clear HB HO ho2 st2 hz; have HB := HB2; have HO := HO2; clear HB2 HO2; have c0 := cell_later HB.out C0.out; have c1 := cell_later HB.out C1.out; have c2 := cell_later HB.out C2.out; have c3 := cell_later HB.out C3.out; have hz := HB.out.size) | (go_at_call 22; refine (GS.out w.heap.size _ _ _ HO.out (by simp)).mono ?_; clear c0 c1 c2 c3; clear hz; rintro e w3 ⟨rfl, ho3, hb3⟩; have HB2 := hidIt (HB.out.trans hb3); have HO2 := hidIt ho3; clear HB HO ho3 hb3; have HB := HB2; have HO := HO2; clear HB2 HO2; have c0 := cell_later HB.out C0.out; have c1 := cell_later HB.out C1.out; have c2 := cell_later HB.out C2.out; have c3 := cell_later HB.out C3.out; have hz := HB.out.size) | (go_at_call 23; refine (GC.out w.heap.size _ _ _ HO.out (by rw [sortL_len]; simp)).mono ?_; clear c0 c1 c2 c3; clear hz; rintro e w4 ⟨v4, rfl, ho4, hb4⟩; have HB2 := hidIt (HB.out.trans hb4); have HO2 := hidIt ho4; clear HB HO ho4 hb4; have HB := HB2; have HO := HO2; clear HB2 HO2; have c0 := cell_later HB.out C0.out; have c1 := cell_later HB.out C1.out; have c2 := cell_later HB.out C2.out; have c3 := cell_later HB.out C3.out; have hz := HB.out.size))
        go_ret
        exact ⟨_, rfl, HO.out, HB.out⟩
      | false =>
        rw [he] at GE
        rw [if_pos (by decide)]
        go_enter Try.func10, Try.ntmps10
        go_upto_region 4 with (fail)
        generalize hv0 : Value.slice none 0 0 = v0 at *
        clear hv0
        obtain ⟨ao0, cap0, rfl⟩ := own_slice HO.out
        go_wp2_with (first | (go_at_call 20; refine (GE.out _).mono ?_; rintro e w' ⟨rfl, hww⟩; cases hww) | (go_at_call 21; refine (GT.out _ HB.out).mono ?_; clear c0 c1 c2 c3; clear hz; rintro e w1 ⟨rfl, hb1⟩; have HB2 := hidIt (HB.out.trans (hb1.mono HB.out.size)); have HO2 := hidIt (HO.out.step hb1); clear HB HO hb1; have HB := HB2; have HO := HO2; clear HB2 HO2; have c0 := cell_later HB.out C0.out; have c1 := cell_later HB.out C1.out; have c2 := cell_later HB.out C2.out; have c3 := cell_later HB.out C3.out; have hz := HB.out.size) | (at_builtin; refine wpList_nappend rfl _ _ rfl w.heap.size _ _ _ HO.out rfl rfl (by simp) HB.out.size ?_; clear c0 c1 c2 c3; intro ao2 cap2 w2 ho2 st2; have HB2 := hidIt ((HB.out.trans ((below_alloc _ _).mono HB.out.size)).trans (st2.below (Nat.le_trans HB.out.size (below_alloc _ _).size) (fun k hk => (HO.out.lt k hk).1))); have HO2 := hidIt ho2; clear HB HO ho2 st2 hz; have HB := HB2; have HO := HO2; clear HB2 HO2; have c0 := cell_later HB.out C0.out; have c1 := cell_later HB.out C1.out; have c2 := cell_later HB.out C2.out; have c3 := cell_later HB.out C3.out; have hz := HB.out.size) | (go_at_call 22; refine (GS.out w.heap.size _ _ _ HO.out (by simp)).mono ?_; clear c0 c1 c2 c3; clear hz; rintro e w3 ⟨rfl, ho3, hb3⟩; have HB2 := hidIt (HB.out.trans hb3); have HO2 := hidIt ho3; clear HB HO ho3 hb3; have HB := HB2; have HO := HO2; clear HB2 HO2; have c0 := cell_later HB.out C0.out; have c1 := cell_later HB.out C1.out; have c2 := cell_later HB.out C2.out; have c3 := cell_later HB.out C3.out; have hz := HB.out.size) | (go_at_call 23; refine (GC.out w.heap.size _ _ _ HO.out (by rw [sortL_len]; simp)).mono ?_; clear c0 c1 c2 c3; clear hz; rintro e w4 ⟨v4, rfl, ho4, hb4⟩; have HB2 := hidIt (HB.out.trans hb4); have HO2 := hidIt ho4; clear HB HO ho4 hb4; have HB := HB2; have HO := HO2; clear HB2 HO2; have c0 := cell_later HB.out C0.out; have c1 := cell_later HB.out C1.out; have c2 := cell_later HB.out C2.out; have c3 := cell_later HB.out C3.out; have hz := HB.out.size))
        go_ret
        exact ⟨_, rfl, HO.out, HB.out⟩
  · have hlast' : ¬ (k : Int) + 1 < (l.length : Int) := by omega
    rw [decide_eq_false (show ¬ k + 1 < l.length by omega)]
    rcases Int.lt_or_le t 0 with htn | htn
    · have htn' : ¬ 0 ≤ t := by omega
      rw [if_pos (show t < 0 by omega)]
      cases he : endsB x.op with
      | true =>
        rw [he] at GE
        rw [if_neg (by decide)]
        go_enter Try.func10, Try.ntmps10
        go_upto_region 4 with (fail)
        generalize hv0 : Value.slice none 0 0 = v0 at *
        clear hv0
        obtain ⟨ao0, cap0, rfl⟩ := own_slice HO.out
        go_wp2_with (first | (go_at_call 20; refine (GE.out _).mono ?_; rintro e w' ⟨rfl, hww⟩; cases hww) | (go_at_call 21; refine (GT.out _ HB.out).mono ?_; clear c0 c1 c2 c3; clear hz; rintro e w1 ⟨rfl, hb1⟩; have HB2 := hidIt (HB.out.trans (hb1.mono HB.out.size)); have HO2 := hidIt (HO.out.step hb1); clear HB HO hb1; have HB := HB2; have HO := HO2; clear HB2 HO2; have c0 := cell_later HB.out C0.out; have c1 := cell_later HB.out C1.out; have c2 := cell_later HB.out C2.out; have c3 := cell_later HB.out C3.out; have hz := HB.out.size) | (at_builtin; refine wpList_nappend rfl _ _ rfl w.heap.size _ _ _ HO.out rfl rfl (by simp) HB.out.size ?_; clear c0 c1 c2 c3; intro ao2 cap2 w2 ho2 st2; have HB2 := hidIt ((HB.out.trans ((below_alloc _ _).mono HB.out.size)).trans (st2.below (Nat.le_trans HB.out.size (below_alloc _ _).size) (fun k hk => (HO.out.lt k hk).1))); have HO2 := hidIt ho2; clear HB HO ho2 st2 hz; have HB := HB2; have HO := HO2; clear HB2 HO2; have c0 := cell_later HB.out C0.out; have c1 := cell_later HB.out C1.out; have c2 := cell_later HB.out C2.out; have c3 := cell_later HB.out C3.out; have hz := HB.out.size) | (go_at_call 22; refine (GS.out w.heap.size _ _ _ HO.out (by simp)).mono ?_; clear c0 c1 c2 c3; clear hz; rintro e w3 ⟨rfl, ho3, hb3⟩; have HB2 := hidIt (HB.out.trans hb3); have HO2 := hidIt ho3; clear HB HO ho3 hb3; have HB := HB2; have HO := HO2; clear HB2 HO2; have c0 := cell_later HB.out C0.out; have c1 := cell_later HB.out C1.out; have c2 := cell_later HB.out C2.out; have c3 := cell_later HB.out C3.out; have hz := HB.out.size) | (go_at_call 23; refine (GC.out w.heap.size _ _ _ HO.out (by rw [sortL_len]; simp)).mono ?_; clear c0 c1 c2 c3; clear hz; rintro e w4 ⟨v4, rfl, ho4, hb4⟩; have HB2 := hidIt (HB.out.trans hb4); have HO2 := hidIt ho4; clear HB HO ho4 hb4; have HB := HB2; have HO := HO2; clear HB2 HO2; have c0 := cell_later HB.out C0.out; have c1 := cell_later HB.out C1.out; have c2 := cell_later HB.out C2.out; have c3 := cell_later HB.out C3.out; have hz := HB.out.size))
        go_ret
        exact ⟨_, rfl, HO.out, HB.out⟩
      | false =>
        rw [he] at GE
        rw [if_neg (by decide)]
        go_enter Try.func10, Try.ntmps10
        go_upto_region 4 with (fail)
        generalize hv0 : Value.slice none 0 0 = v0 at *
        clear hv0
        obtain ⟨ao0, cap0, rfl⟩ := own_slice HO.out
        go_wp2_with (first | (go_at_call 20; refine (GE.out _).mono ?_; rintro e w' ⟨rfl, hww⟩; cases hww) | (go_at_call 21; refine (GT.out _ HB.out).mono ?_; clear c0 c1 c2 c3; clear hz; rintro e w1 ⟨rfl, hb1⟩; have HB2 := hidIt (HB.out.trans (hb1.mono HB.out.size)); have HO2 := hidIt (HO.out.step hb1); clear HB HO hb1; have HB := HB2; have HO := HO2; clear HB2 HO2; have c0 := cell_later HB.out C0.out; have c1 := cell_later HB.out C1.out; have c2 := cell_later HB.out C2.out; have c3 := cell_later HB.out C3.out; have hz := HB.out.size) | (at_builtin; refine wpList_nappend rfl _ _ rfl w.heap.size _ _ _ HO.out rfl rfl (by simp) HB.out.size ?_; clear c0 c1 c2 c3; intro ao2 cap2 w2 ho2 st2; have HB2 := hidIt ((HB.out.trans ((below_alloc _ _).mono HB.out.size)).trans (st2.below (Nat.le_trans HB.out.size (below_alloc _ _).size) (fun k hk => (HO.out.lt k hk).1))); have HO2 := hidIt ho2; clear HB HO ho2 st2 hz; have HB := HB2; have HO := HO2; clear HB2 HO2; have c0 := cell_later HB.out C0.out; have c1 := cell_later HB.out C1.out; have c2 := cell_later HB.out C2.out; have c3 := cell_later HB.out C3.out; have hz := HB.out.size) | (go_at_call 22; refine (GS.out w.heap.size _ _ _ HO.out (by simp)).mono ?_; clear c0 c1 c2 c3; clear hz; rintro e w3 ⟨rfl, ho3, hb3⟩; have HB2 := hidIt (HB.out.trans hb3); have HO2 := hidIt ho3; clear HB HO ho3 hb3; have HB := HB2; have HO := HO2; clear HB2 HO2; have c0 := cell_later HB.out C0.out; have c1 := cell_later HB.out C1.out; have c2 := cell_later HB.out C2.out; have c3 := cell_later HB.out C3.out; have hz := HB.out.size) | (go_at_call 23; refine (GC.out w.heap.size _ _ _ HO.out (by rw [sortL_len]; simp)).mono ?_; clear c0 c1 c2 c3; clear hz; rintro e w4 ⟨v4, rfl, ho4, hb4⟩; have HB2 := hidIt (HB.out.trans hb4); have HO2 := hidIt ho4; clear HB HO ho4 hb4; have HB := HB2; have HO := HO2; clear HB2 HO2; have c0 := cell_later HB.out C0.out; have c1 := cell_later HB.out C1.out; have c2 := cell_later HB.out C2.out; have c3 := cell_later HB.out C3.out; have hz := HB.out.size))
        go_ret
        exact ⟨_, rfl, HO.out, HB.out⟩
    · have htn' : 0 ≤ t := by omega
      rw [if_neg (show ¬ t < 0 by omega)]
      cases he : endsB x.op with
      | true =>
        rw [he] at GE
        rw [if_neg (by decide)]
        go_enter Try.func10, Try.ntmps10
        go_upto_region 4 with (fail)
        generalize hv0 : Value.slice none 0 0 = v0 at *
        clear hv0
        obtain ⟨ao0, cap0, rfl⟩ := own_slice HO.out
        go_wp2_with (first | (go_at_call 20; refine (GE.out _).mono ?_; rintro e w' ⟨rfl, hww⟩; cases hww) | (go_at_call 21; refine (GT.out _ HB.out).mono ?_; clear c0 c1 c2 c3; clear hz; rintro e w1 ⟨rfl, hb1⟩; have HB2 := hidIt (HB.out.trans (hb1.mono HB.out.size)); have HO2 := hidIt (HO.out.step hb1); clear HB HO hb1; have HB := HB2; have HO := HO2; clear HB2 HO2; have c0 := cell_later HB.out C0.out; have c1 := cell_later HB.out C1.out; have c2 := cell_later HB.out C2.out; have c3 := cell_later HB.out C3.out; have hz := HB.out.size) | (at_builtin; refine wpList_nappend rfl _ _ rfl w.heap.size _ _ _ HO.out rfl rfl (by simp) HB.out.size ?_; clear c0 c1 c2 c3; intro ao2 cap2 w2 ho2 st2; have HB2 := hidIt ((HB.out.trans ((below_alloc _ _).mono HB.out.size)).trans (st2.below (Nat.le_trans HB.out.size (below_alloc _ _).size) (fun k hk => (HO.out.lt k hk).1))); have HO2 := hidIt ho2; clear HB HO ho2 st2 hz; have HB := HB2; have HO := HO2; clear HB2 HO2; have c0 := cell_later HB.out C0.out; have c1 := cell_later HB.out C1.out; have c2 := cell_later HB.out C2.out; have c3 := cell_later HB.out C3.out; have hz := HB.out.size) | (go_at_call 22; refine (GS.out w.heap.size _ _ _ HO.out (by simp)).mono ?_; clear c0 c1 c2 c3; clear hz; rintro e w3 ⟨rfl, ho3, hb3⟩; have HB2 := hidIt (HB.out.trans hb3); have HO2 := hidIt ho3; clear HB HO ho3 hb3; have HB := HB2; have HO := HO2; clear HB2 HO2; have c0 := cell_later HB.out C0.out; have c1 := cell_later HB.out C1.out; have c2 := cell_later HB.out C2.out; have c3 := cell_later HB.out C3.out; have hz := HB.out.size) | (go_at_call 23; refine (GC.out w.heap.size _ _ _ HO.out (by rw [sortL_len]; simp)).mono ?_; clear c0 c1 c2 c3; clear hz; rintro e w4 ⟨v4, rfl, ho4, hb4⟩; have HB2 := hidIt (HB.out.trans hb4); have HO2 := hidIt ho4; clear HB HO ho4 hb4; have HB := HB2; have HO := HO2; clear HB2 HO2; have c0 := cell_later HB.out C0.out; have c1 := cell_later HB.out C1.out; have c2 := cell_later HB.out C2.out; have c3 := cell_later HB.out C3.out; have hz := HB.out.size))
        go_ret
        exact ⟨_, rfl, HO.out, HB.out⟩
      | false =>
        rw [he] at GE
        rw [if_neg (by decide)]
        go_enter Try.func10, Try.ntmps10
        go_upto_region 4 with (fail)
        generalize hv0 : Value.slice none 0 0 = v0 at *
        clear hv0
        obtain ⟨ao0, cap0, rfl⟩ := own_slice HO.out
        go_wp2_with (first | (go_at_call 20; refine (GE.out _).mono ?_; rintro e w' ⟨rfl, hww⟩; cases hww) | (go_at_call 21; refine (GT.out _ HB.out).mono ?_; clear c0 c1 c2 c3; clear hz; rintro e w1 ⟨rfl, hb1⟩; have HB2 := hidIt (HB.out.trans (hb1.mono HB.out.size)); have HO2 := hidIt (HO.out.step hb1); clear HB HO hb1; have HB := HB2; have HO := HO2; clear HB2 HO2; have c0 := cell_later HB.out C0.out; have c1 := cell_later HB.out C1.out; have c2 := cell_later HB.out C2.out; have c3 := cell_later HB.out C3.out; have hz := HB.out.size) | (at_builtin; refine wpList_nappend rfl _ _ rfl w.heap.size _ _ _ HO.out rfl rfl (by simp) HB.out.size ?_; clear c0 c1 c2 c3; intro ao2 cap2 w2 ho2 st2; have HB2 := hidIt ((HB.out.trans ((below_alloc _ _).mono HB.out.size)).trans (st2.below (Nat.le_trans HB.out.size (below_alloc _ _).size) (fun k hk => (HO.out.lt k hk).1))); have HO2 := hidIt ho2; clear HB HO ho2 st2 hz; have HB := HB2; have HO := HO2; clear HB2 HO2; have c0 := cell_later HB.out C0.out; have c1 := cell_later HB.out C1.out; have c2 := cell_later HB.out C2.out; have c3 := cell_later HB.out C3.out; have hz := HB.out.size) | (go_at_call 22; refine (GS.out w.heap.size _ _ _ HO.out (by simp)).mono ?_; clear c0 c1 c2 c3; clear hz; rintro e w3 ⟨rfl, ho3, hb3⟩; have HB2 := hidIt (HB.out.trans hb3); have HO2 := hidIt ho3; clear HB HO ho3 hb3; have HB := HB2; have HO := HO2; clear HB2 HO2; have c0 := cell_later HB.out C0.out; have c1 := cell_later HB.out C1.out; have c2 := cell_later HB.out C2.out; have c3 := cell_later HB.out C3.out; have hz := HB.out.size) | (go_at_call 23; refine (GC.out w.heap.size _ _ _ HO.out (by rw [sortL_len]; simp)).mono ?_; clear c0 c1 c2 c3; clear hz; rintro e w4 ⟨v4, rfl, ho4, hb4⟩; have HB2 := hidIt (HB.out.trans hb4); have HO2 := hidIt ho4; clear HB HO ho4 hb4; have HB := HB2; have HO := HO2; clear HB2 HO2; have c0 := cell_later HB.out C0.out; have c1 := cell_later HB.out C1.out; have c2 := cell_later HB.out C2.out; have c3 := cell_later HB.out C3.out; have hz := HB.out.size))
        go_ret
        exact ⟨_, rfl, HO.out, HB.out⟩
end Go.Proofs.Ytbmfkbgncjldjab
namespace Go.Proofs.Ytbmfkbgncjldjab
open Go.RowKit

def NView (w : World) (v : Value) (l : List Int) : Prop :=
  ∃ ao cap, v = .slice ao l.length cap ∧ l.length ≤ cap ∧ cap ≤ maxLen ∧ (l = [] ∨ ∃ g off, ao = some ⟨g, off, none⟩ ∧ ∀ (j : Nat) (x : Int), l[j]? = some x → w.cell? ⟨g, off + j, none⟩ = some (.int .i64 x))
theorem NView.below {w w' : World} {v : Value} {l : List Int} (h : NView w v l) (hb : Below w.heap.size w w') : NView w' v l := by
  obtain ⟨ao, cap, e, hc, hm, hl⟩ := h
  refine ⟨ao, cap, e, hc, hm, ?_⟩
  rcases hl with h | ⟨g, off, e, hl⟩
  · exact .inl h
  · exact .inr ⟨g, off, e, fun j x hj => cell_later hb (hl j x hj)⟩
theorem NView.row {w : World} {ao : Option Addr} {n cap : Nat} {l : List Int} (h : NView w (.slice ao n cap) l) {j : Nat} {x : Int} (hj : l[j]? = some x) : ∃ g off, ao = some ⟨g, off, none⟩ ∧ w.cell? ⟨g, off + j, none⟩ = some (.int .i64 x) := by
  obtain ⟨ao', cap', e, hc, hm, hl⟩ := h
  cases e
  rcases hl with rfl | ⟨g, off, rfl, hl⟩
  · simp at hj
  · exact ⟨g, off, rfl, hl j x hj⟩
theorem NOwn.view {w : World} {B : Nat} {v : Value} {l : List Int} (h : NOwn w B v l) : NView w v l := by
  by_cases hl : l = []
  · subst hl
    rcases h.2 with ⟨rfl, _⟩ | ⟨g, cap, cur, rfl, _, _, h1, h2, _⟩
    · exact ⟨none, 0, rfl, Nat.le_refl _, by unfold maxLen; omega, .inl rfl⟩
    · exact ⟨_, cap, rfl, h1, h2, .inl rfl⟩
  · obtain ⟨g, cap, cs, rfl, hB, hg, h1, h2, h3, h4⟩ := h.block hl
    exact ⟨_, cap, rfl, h1, h2, .inr ⟨g, 0, rfl, fun j x hj => cell_row hg _ (by rw [Nat.zero_add]; exact h4 j x hj)⟩⟩
theorem NOwn.wk {w : World} {B B' : Nat} {v : Value} {l : List Int} (h : NOwn w B v l) (hB : B' ≤ B) : NOwn w B' v l := own_wk h hB
def putS (n : Int) : List Int → Bool → List Int
  | [], d => if d then [] else [n]
  | y :: r, d => (if decide (n ≤ y) && !d then [n] else []) ++ ((if y = n then [] else [y]) ++ putS n r (d || decide (n ≤ y)))
end Go.Proofs.Ytbmfkbgncjldjab
namespace Go.Proofs.Ytbmfkbgncjldjab
open Go.RowKit

structure RcP (B bl bb gl bs : Nat) (v : Value) (l : List IN) (r : List Bool) (vs : Value) (st : List Int) (w : World) : Prop where
  box : w.heap[bl]? = some (.cells #[v] 23 (0, 0))
  bit : w.heap[bb]? = some (.cells #[.slice (some ⟨gl, 0, none⟩) l.length l.length] 41 (0, 0))
  row : w.heap[gl]? = some (.cells (bcellsB r) 4 (0, 0))
  stk : w.heap[bs]? = some (.cells #[vs] 22 (0, 0))
  own : NOwn w B vs st
  len : r.length = l.length
  hgl : B ≤ gl
  hbs : B ≤ bs
structure Rk (gl bs : Nat) (vs : Value) (w : World) (vs' : Value) (w' : World) : Prop where
  os : w'.os = w.os
  tape : w'.tape = w.tape
  output : w'.output = w.output
  size : w.heap.size ≤ w'.heap.size
  block : ∀ k, k < w.heap.size → k ≠ gl → k ≠ bs → some k ≠ vs.ownBlock → w'.heap[k]? = w.heap[k]?
  moved : Moved w.heap.size vs vs'
theorem Rk.refl (gl bs : Nat) (vs : Value) (w : World) : Rk gl bs vs w vs w := ⟨rfl, rfl, rfl, Nat.le_refl _, fun _ _ _ _ _ => rfl, .inl rfl⟩
theorem Rk.trans {gl bs : Nat} {v1 v2 v3 : Value} {w1 w2 w3 : World} (h : Rk gl bs v1 w1 v2 w2) (k : Rk gl bs v2 w2 v3 w3) : Rk gl bs v1 w1 v3 w3 := by
  refine ⟨k.os.trans h.os, k.tape.trans h.tape, k.output.trans h.output, Nat.le_trans h.size k.size, fun i hi h1 h2 h3 => ?_, ?_⟩
  · rw [k.block i (Nat.lt_of_lt_of_le hi h.size) h1 h2 ?_, h.block i hi h1 h2 h3]
    rcases h.moved with e | ⟨g, e, hg⟩
    · rw [e]; exact h3
    · rw [e]; intro e2; cases e2; omega
  · rcases k.moved with e | ⟨g, e, hg⟩
    · rcases h.moved with e1 | ⟨g1, e1, hg1⟩
      · exact .inl (e.trans e1)
      · exact .inr ⟨g1, e.trans e1, hg1⟩
    · exact .inr ⟨g, e, Nat.le_trans h.size hg⟩
theorem Rk.below {gl bs B : Nat} {v1 v2 : Value} {w1 w2 : World} (h : Rk gl bs v1 w1 v2 w2) (hB : B ≤ w1.heap.size) (h1 : B ≤ gl) (h2 : B ≤ bs) (h3 : ∀ k, v1.ownBlock = some k → B ≤ k) : Below B w1 w2 :=
  ⟨h.os, h.tape, h.output, h.size, fun k hk => h.block k (by omega) (by omega) (by omega) (fun e => by have := h3 k e.symm; omega)⟩
theorem Rk.of_below {gl bs : Nat} {v : Value} {w w' : World} (h : Below w.heap.size w w') : Rk gl bs v w v w' := ⟨h.os, h.tape, h.output, h.size, fun k hk _ _ _ => h.block k hk, .inl rfl⟩
theorem RcP.below {B bl bb gl bs : Nat} {v : Value} {l : List IN} {r : List Bool} {vs : Value} {st : List Int} {w w' : World} (h : RcP B bl bb gl bs v l r vs st w) (hb : Below w.heap.size w w') : RcP B bl bb gl bs v l r vs st w' :=
  ⟨(hb.block _ (Array.getElem?_eq_some_iff.1 h.box).1).trans h.box, (hb.block _ (Array.getElem?_eq_some_iff.1 h.bit).1).trans h.bit, (hb.block _ (Array.getElem?_eq_some_iff.1 h.row).1).trans h.row, (hb.block _ (Array.getElem?_eq_some_iff.1 h.stk).1).trans h.stk, h.own.step hb, h.len, h.hgl, h.hbs⟩
theorem RcP.drewN {B bl bb gl bs : Nat} {v : Value} {l : List IN} {r : List Bool} {vs : Value} {st : List Int} {w : World} (h : RcP B bl bb gl bs v l r vs st w) (q : Nat) : RcP B bl bb gl bs v l r vs st (w.drewN q) := ⟨h.box, h.bit, h.row, h.stk, h.own, h.len, h.hgl, h.hbs⟩
def rchZ (p : List Bool × List Int) (n : Int) : List Bool × List Int := if 0 ≤ n ∧ p.1[n.toNat]? = some false then (p.1.set n.toNat true, p.2 ++ [n]) else p
theorem own_set {w : World} {B g o T U s n : Nat} {cs : Array Value} {u v : Value} {xs : List Value} (h : w.ownsRow B T s v n xs) (hg : w.heap[g]? = some (.cells cs U (0, 0))) (hT : T ≠ U) : (w.setCell ⟨g, o, none⟩ u).ownsRow B T s v n xs := by
  refine ⟨h.1, ?_⟩
  rcases h.2 with x | ⟨g', cap, cur, rfl, hB, hg', r⟩
  · exact .inl x
  · refine .inr ⟨g', cap, cur, rfl, hB, ?_, r⟩
    rw [Below.heap_setCell _ _ _ _ (other_block hg' hg hT)]
    exact hg'
theorem own_ne {w : World} {B g T U s n : Nat} {cs : Array Value} {v : Value} {xs : List Value} (h : w.ownsRow B T s v n xs) (hg : w.heap[g]? = some (.cells cs U (0, 0))) (hT : T ≠ U) : some g ≠ v.ownBlock := by
  intro e
  rcases h.2 with ⟨rfl, _⟩ | ⟨g', cap, cur, rfl, hB, hg', r⟩
  · cases e
  · cases e
    exact other_block hg' hg hT rfl
theorem step_keeps {w w' : World} {o : Obj} {B : Nat} {v v' : Value} {l : List Int} (st : Step v (w.alloc o) v' w') (h : NOwn w B v l) (k : Nat) (cs : Array Value) (U : TypeId) (hU : 3 ≠ U) (hk : w.heap[k]? = some (.cells cs U (0, 0))) : w'.heap[k]? = some (.cells cs U (0, 0)) := by
  have hlt := (Array.getElem?_eq_some_iff.1 hk).1
  rw [st.grown.block k (Nat.lt_of_lt_of_le hlt (below_alloc w o).size) (own_ne h hk hU), (below_alloc w o).block k hlt]
  exact hk
set_option maxRecDepth 8000 in
set_option maxHeartbeats 4000000 in
theorem rch_any (B bl bb gl bs : Nat) (v : Value) (l : List IN) (r : List Bool) (vs : Value) (st : List Int) (n : Int) (w : World) (h : RcP B bl bb gl bs v l r vs st w) (hv : ∃ ao cap, v = .slice ao l.length cap) (hst : st.length ≤ 10000000000000) (hB : B ≤ w.heap.size) :
    Calls Try.prog 27 #[.int .i64 n, .pointer (some ⟨bl, 0, none⟩), .pointer (some ⟨bb, 0, none⟩), .pointer (some ⟨bs, 0, none⟩)] w fun e w' => e = .returned (.tuple #[]) ∧ ∃ vs', RcP B bl bb gl bs v l (rchZ (r, st) n).1 vs' (rchZ (r, st) n).2 w' ∧ Rk gl bs vs w vs' w' := by
  have HP := hidIt h
  obtain ⟨ao, cap, rfl⟩ := hv
  have c0 := cell_row h.box 0 rfl
  have c1 := cell_row h.bit 0 rfl
  have c2 := cell_row h.stk 0 rfl
  have hf := frozen_row h.row
  have hf2 := frozen_row h.stk
  have hlen := h.len
  have hN : ∀ (h : ¬ (0 ≤ n ∧ r[n.toNat]? = some false)), rchZ (r, st) n = (r, st) := fun h => by unfold rchZ; rw [if_neg h]
  by_cases h0 : 0 ≤ n
  · by_cases h1 : n < (l.length : Int)
    · obtain ⟨k, rfl⟩ := Int.eq_ofNat_of_zero_le h0
      have hk : k < r.length := by omega
      have ck : w.cell? ⟨gl, k, none⟩ = some (.bool r[k]) := cell_row h.row k (by simp [bcellsB, hk])
      cases hr : r[k] with
      | true =>
        rw [hr] at ck
        rw [hN (by rw [Int.toNat_natCast, List.getElem?_eq_getElem hk, hr]; simp)]
        clear hN h
        go_enter Try.func27, Try.ntmps27
        go_wp2
        go_end0
        exact ⟨rfl, vs, HP.out, Rk.refl _ _ _ _⟩
      | false =>
        rw [hr] at ck
        have e1 : rchZ (r, st) (k : Int) = (r.set k true, st ++ [(k : Int)]) := by
          unfold rchZ
          rw [if_pos ⟨h0, by rw [Int.toNat_natCast, List.getElem?_eq_getElem hk, hr]⟩, Int.toNat_natCast]
        rw [e1]
        have ho1 : OnlyG gl w (w.setCell ⟨gl, k, none⟩ (.bool true)) := (OnlyG.refl gl w).set
        have X1 : Hid ((w.setCell ⟨gl, k, none⟩ (.bool true)).heap[gl]? = some (.cells (bcellsB (r.set k true)) 4 (0, 0))) := by
          show _ = _
          rw [set_row h.row]
          congr 2
          simp [bcellsB, List.map_set]
        have X2 := hidIt ((ho1.block _ (other_block h.box h.row (by decide))).trans h.box)
        have X3 := hidIt ((ho1.block _ (other_block h.bit h.row (by decide))).trans h.bit)
        have X4 := hidIt ((ho1.block _ (other_block h.stk h.row (by decide))).trans h.stk)
        have X5 : Hid (NOwn (w.setCell ⟨gl, k, none⟩ (.bool true)) B vs st) := own_set h.own h.row (by decide)
        have HO1 := hidIt ho1
        obtain ⟨aos, caps, rfl⟩ := own_slice h.own
        clear hN h e1 ho1
        go_enter Try.func27, Try.ntmps27
        go_upto_region 2 with (fail)
        generalize w.setCell ⟨gl, k, none⟩ (.bool true) = w1 at *
        have q2 := cell_row X4.out 0 rfl
        have qf := frozen_row X4.out
        have hB1 : B ≤ w1.heap.size := by rw [HO1.out.size]; exact hB
        clear c0 c1 c2 ck hf hf2
        go_wp2_with (at_builtin; refine wpList_nappend rfl _ _ rfl B _ _ _ X5.out rfl rfl hst hB1 ?_; intro ao2 cap2 w2 ho2 st2; have HO2 := hidIt ho2; have ST2 := hidIt st2; have hA := below_alloc w1 (.cells #[.int .i64 (k : Int)] 3); have Y4 := hidIt ((st2.grown.block _ (Nat.lt_of_lt_of_le (Array.getElem?_eq_some_iff.1 X4.out).1 hA.size) (own_ne X5.out X4.out (by decide))).trans ((hA.block _ (Array.getElem?_eq_some_iff.1 X4.out).1).trans X4.out)); have r2 := cell_row Y4.out 0 rfl; have rf := frozen_row Y4.out; clear q2 qf ho2 st2 hA)
        go_end0
        refine ⟨rfl, .slice ao2 (st.length + 1) cap2, ?_, ?_⟩
        · have S := step_keeps ST2.out X5.out
          have S1 := S _ _ _ (by decide) X1.out
          have S2 := S _ _ _ (by decide) X2.out
          have S3 := S _ _ _ (by decide) X3.out
          refine ⟨?_, ?_, ?_, ?_, own_set HO2.out Y4.out (by decide), by rw [List.length_set]; exact hlen, HP.out.hgl, HP.out.hbs⟩
          · rw [Below.heap_setCell _ _ _ _ (other_block S2 Y4.out (by decide))]; exact S2
          · rw [Below.heap_setCell _ _ _ _ (other_block S3 Y4.out (by decide))]; exact S3
          · rw [Below.heap_setCell _ _ _ _ (other_block S1 Y4.out (by decide))]; exact S1
          · rw [set_row Y4.out]; simp
        · have G := ST2.out.grown
          have hA := below_alloc w1 (.cells #[.int .i64 (k : Int)] 3)
          refine ⟨G.os.trans HO1.out.os, G.tape.trans HO1.out.tape, G.output.trans HO1.out.output, ?_, fun i hi hi1 hi2 hi3 => ?_, ?_⟩
          · have := G.size
            have := hA.size
            have e := HO1.out.size
            simp only [World.setCell, Array.size_modify]
            omega
          · rw [Below.heap_setCell _ _ _ _ hi2, G.block i (by have := hA.size; have := HO1.out.size; omega) hi3, hA.block i (by rw [HO1.out.size]; exact hi), HO1.out.block i hi1]
          · rcases ST2.out.moved with e | ⟨g, e, hg⟩
            · exact .inl e
            · refine .inr ⟨g, e, ?_⟩
              have := hA.size
              have := HO1.out.size
              omega
    · rw [hN (by rw [List.getElem?_eq_none (by omega)]; simp)]
      clear hN h
      go_enter Try.func27, Try.ntmps27
      go_wp2
      go_end0
      exact ⟨rfl, vs, HP.out, Rk.refl _ _ _ _⟩
  · rw [hN (by omega)]
    clear hN h
    go_enter Try.func27, Try.ntmps27
    go_wp2
    go_end0
    exact ⟨rfl, vs, HP.out, Rk.refl _ _ _ _⟩
end Go.Proofs.Ytbmfkbgncjldjab
