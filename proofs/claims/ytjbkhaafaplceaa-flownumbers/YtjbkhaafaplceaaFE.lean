/- Next of package flow: walked. -/
import Derived.Test.YtjbkhaafaplceaaFD
namespace Go.Proofs.Ytjbkhaafaplceaa
open Go.RowKit

set_option maxRecDepth 8000 in
set_option maxHeartbeats 4000000 in
theorem next_any (v : Value) (l : List IN) (n : Int) (w : World) (hv : IView w v l) :
    Calls Try.prog 11 #[v, .int .i64 n] w fun e w' => ∃ v', e = .returned v' ∧ NOwn w' w.heap.size v' (nextZ l n) ∧ Below w.heap.size w w' := by
  have HV := hidIt hv
  obtain ⟨ao, cap, rfl, hc, hm, _⟩ := hv
  unfold maxLen at hm
  by_cases h0 : n < 0
  · rw [nextZ_out (.inl h0)]
    go_enter Try.func11, Try.ntmps11
    go_wp2
    go_ret
    exact ⟨_, rfl, NOwn.nil _ _, Below.refl _ _⟩
  by_cases h1 : (l.length : Int) ≤ n
  · rw [nextZ_out (.inr h1)]
    go_enter Try.func11, Try.ntmps11
    go_wp2
    go_ret
    exact ⟨_, rfl, NOwn.nil _ _, Below.refl _ _⟩
  obtain ⟨k, rfl⟩ := Int.eq_ofNat_of_zero_le (Int.not_lt.1 h0)
  have hk : k < l.length := by omega
  have hk' : (k : Int) < (l.length : Int) := by omega
  obtain ⟨x, hx⟩ : ∃ x, l[k]? = some x := ⟨l[k], List.getElem?_eq_getElem hk⟩
  rw [nextZ_at hx, nextL_sorted]
  obtain ⟨g, off, rfl, c0, c1, c2, c3⟩ := HV.out.row hx
  have GE := hidIt (fun W => ends_any x.op W)
  have GT := hidIt (fun W (h : Below w.heap.size w W) => target_any _ l x W (HV.out.below h))
  have GS := hidIt (fun B v l w => sortN B v l w)
  have GC := hidIt (fun B v l w => compactN B v l w)
  have ht := tgtZ_lt l x
  unfold IN.val at GT
  clear hx HV
  generalize tgtZ l x = t at *
  obtain ⟨ht0, ht1⟩ := ht
  have C0 := hidIt c0
  have C1 := hidIt c1
  have C2 := hidIt c2
  have C3 := hidIt c3
  have HB := hidIt (Below.refl w.heap.size w)
  have HO := hidIt (NOwn.nil w w.heap.size)
  have hz : w.heap.size ≤ w.heap.size := Nat.le_refl _
  have hlast := Nat.lt_or_ge (k + 1) l.length
  rcases hlast with hlast | hlast
  · have hlast' : (k : Int) + 1 < (l.length : Int) := by omega
    rw [decide_eq_true (show k + 1 < l.length by omega)]
    rcases Int.lt_or_le t 0 with htn | htn
    · have htn' : ¬ 0 ≤ t := by omega
      rw [if_pos (show t < 0 by omega)]
      cases he : endsB x.op with
      | true =>
        rw [he] at GE
        rw [if_neg (by decide)]
        go_enter Try.func11, Try.ntmps11
        go_upto_region 4 with (fail)
        generalize hv0 : Value.slice none 0 0 = v0 at *
        clear hv0
        obtain ⟨ao0, cap0, rfl⟩ := own_slice HO.out
        go_wp2_with (first | (go_at_call 29; refine (GE.out _).mono ?_; rintro e w' ⟨rfl, hww⟩; cases hww) | (go_at_call 30; refine (GT.out _ HB.out).mono ?_; clear c0 c1 c2 c3; clear hz; rintro e w1 ⟨rfl, hb1⟩; have HB2 := hidIt (HB.out.trans (hb1.mono HB.out.size)); have HO2 := hidIt (HO.out.step hb1); clear HB HO hb1; have HB := HB2; have HO := HO2; clear HB2 HO2; have c0 := cell_later HB.out C0.out; have c1 := cell_later HB.out C1.out; have c2 := cell_later HB.out C2.out; have c3 := cell_later HB.out C3.out; have hz := HB.out.size) | (at_builtin; refine wpList_nappend rfl _ _ rfl w.heap.size _ _ _ HO.out rfl rfl (by simp) HB.out.size ?_; clear c0 c1 c2 c3; intro ao2 cap2 w2 ho2 st2; have HB2 := hidIt ((HB.out.trans ((below_alloc _ _).mono HB.out.size)).trans (st2.below (Nat.le_trans HB.out.size (below_alloc _ _).size) (fun k hk => (HO.out.lt k hk).1))); have HO2 := hidIt ho2; clear HB HO ho2 st2 hz; have HB := HB2; have HO := HO2; clear HB2 HO2; have c0 := cell_later HB.out C0.out; have c1 := cell_later HB.out C1.out; have c2 := cell_later HB.out C2.out; have c3 := cell_later HB.out C3.out; have hz := HB.out.size) | (go_at_call 31; refine (GS.out w.heap.size _ _ _ HO.out (by simp)).mono ?_; clear c0 c1 c2 c3; clear hz; rintro e w3 ⟨rfl, ho3, hb3⟩; have HB2 := hidIt (HB.out.trans hb3); have HO2 := hidIt ho3; clear HB HO ho3 hb3; have HB := HB2; have HO := HO2; clear HB2 HO2; have c0 := cell_later HB.out C0.out; have c1 := cell_later HB.out C1.out; have c2 := cell_later HB.out C2.out; have c3 := cell_later HB.out C3.out; have hz := HB.out.size) | (go_at_call 32; refine (GC.out w.heap.size _ _ _ HO.out (by rw [sortL_len]; simp)).mono ?_; clear c0 c1 c2 c3; clear hz; rintro e w4 ⟨v4, rfl, ho4, hb4⟩; have HB2 := hidIt (HB.out.trans hb4); have HO2 := hidIt ho4; clear HB HO ho4 hb4; have HB := HB2; have HO := HO2; clear HB2 HO2; have c0 := cell_later HB.out C0.out; have c1 := cell_later HB.out C1.out; have c2 := cell_later HB.out C2.out; have c3 := cell_later HB.out C3.out; have hz := HB.out.size))
        go_ret
        exact ⟨_, rfl, HO.out, HB.out⟩
      | false =>
        rw [he] at GE
        rw [if_pos (by decide)]
        go_enter Try.func11, Try.ntmps11
        go_upto_region 4 with (fail)
        generalize hv0 : Value.slice none 0 0 = v0 at *
        clear hv0
        obtain ⟨ao0, cap0, rfl⟩ := own_slice HO.out
        go_wp2_with (first | (go_at_call 29; refine (GE.out _).mono ?_; rintro e w' ⟨rfl, hww⟩; cases hww) | (go_at_call 30; refine (GT.out _ HB.out).mono ?_; clear c0 c1 c2 c3; clear hz; rintro e w1 ⟨rfl, hb1⟩; have HB2 := hidIt (HB.out.trans (hb1.mono HB.out.size)); have HO2 := hidIt (HO.out.step hb1); clear HB HO hb1; have HB := HB2; have HO := HO2; clear HB2 HO2; have c0 := cell_later HB.out C0.out; have c1 := cell_later HB.out C1.out; have c2 := cell_later HB.out C2.out; have c3 := cell_later HB.out C3.out; have hz := HB.out.size) | (at_builtin; refine wpList_nappend rfl _ _ rfl w.heap.size _ _ _ HO.out rfl rfl (by simp) HB.out.size ?_; clear c0 c1 c2 c3; intro ao2 cap2 w2 ho2 st2; have HB2 := hidIt ((HB.out.trans ((below_alloc _ _).mono HB.out.size)).trans (st2.below (Nat.le_trans HB.out.size (below_alloc _ _).size) (fun k hk => (HO.out.lt k hk).1))); have HO2 := hidIt ho2; clear HB HO ho2 st2 hz; have HB := HB2; have HO := HO2; clear HB2 HO2; have c0 := cell_later HB.out C0.out; have c1 := cell_later HB.out C1.out; have c2 := cell_later HB.out C2.out; have c3 := cell_later HB.out C3.out; have hz := HB.out.size) | (go_at_call 31; refine (GS.out w.heap.size _ _ _ HO.out (by simp)).mono ?_; clear c0 c1 c2 c3; clear hz; rintro e w3 ⟨rfl, ho3, hb3⟩; have HB2 := hidIt (HB.out.trans hb3); have HO2 := hidIt ho3; clear HB HO ho3 hb3; have HB := HB2; have HO := HO2; clear HB2 HO2; have c0 := cell_later HB.out C0.out; have c1 := cell_later HB.out C1.out; have c2 := cell_later HB.out C2.out; have c3 := cell_later HB.out C3.out; have hz := HB.out.size) | (go_at_call 32; refine (GC.out w.heap.size _ _ _ HO.out (by rw [sortL_len]; simp)).mono ?_; clear c0 c1 c2 c3; clear hz; rintro e w4 ⟨v4, rfl, ho4, hb4⟩; have HB2 := hidIt (HB.out.trans hb4); have HO2 := hidIt ho4; clear HB HO ho4 hb4; have HB := HB2; have HO := HO2; clear HB2 HO2; have c0 := cell_later HB.out C0.out; have c1 := cell_later HB.out C1.out; have c2 := cell_later HB.out C2.out; have c3 := cell_later HB.out C3.out; have hz := HB.out.size))
        go_ret
        exact ⟨_, rfl, HO.out, HB.out⟩
    · have htn' : 0 ≤ t := by omega
      rw [if_neg (show ¬ t < 0 by omega)]
      cases he : endsB x.op with
      | true =>
        rw [he] at GE
        rw [if_neg (by decide)]
        go_enter Try.func11, Try.ntmps11
        go_upto_region 4 with (fail)
        generalize hv0 : Value.slice none 0 0 = v0 at *
        clear hv0
        obtain ⟨ao0, cap0, rfl⟩ := own_slice HO.out
        go_wp2_with (first | (go_at_call 29; refine (GE.out _).mono ?_; rintro e w' ⟨rfl, hww⟩; cases hww) | (go_at_call 30; refine (GT.out _ HB.out).mono ?_; clear c0 c1 c2 c3; clear hz; rintro e w1 ⟨rfl, hb1⟩; have HB2 := hidIt (HB.out.trans (hb1.mono HB.out.size)); have HO2 := hidIt (HO.out.step hb1); clear HB HO hb1; have HB := HB2; have HO := HO2; clear HB2 HO2; have c0 := cell_later HB.out C0.out; have c1 := cell_later HB.out C1.out; have c2 := cell_later HB.out C2.out; have c3 := cell_later HB.out C3.out; have hz := HB.out.size) | (at_builtin; refine wpList_nappend rfl _ _ rfl w.heap.size _ _ _ HO.out rfl rfl (by simp) HB.out.size ?_; clear c0 c1 c2 c3; intro ao2 cap2 w2 ho2 st2; have HB2 := hidIt ((HB.out.trans ((below_alloc _ _).mono HB.out.size)).trans (st2.below (Nat.le_trans HB.out.size (below_alloc _ _).size) (fun k hk => (HO.out.lt k hk).1))); have HO2 := hidIt ho2; clear HB HO ho2 st2 hz; have HB := HB2; have HO := HO2; clear HB2 HO2; have c0 := cell_later HB.out C0.out; have c1 := cell_later HB.out C1.out; have c2 := cell_later HB.out C2.out; have c3 := cell_later HB.out C3.out; have hz := HB.out.size) | (go_at_call 31; refine (GS.out w.heap.size _ _ _ HO.out (by simp)).mono ?_; clear c0 c1 c2 c3; clear hz; rintro e w3 ⟨rfl, ho3, hb3⟩; have HB2 := hidIt (HB.out.trans hb3); have HO2 := hidIt ho3; clear HB HO ho3 hb3; have HB := HB2; have HO := HO2; clear HB2 HO2; have c0 := cell_later HB.out C0.out; have c1 := cell_later HB.out C1.out; have c2 := cell_later HB.out C2.out; have c3 := cell_later HB.out C3.out; have hz := HB.out.size) | (go_at_call 32; refine (GC.out w.heap.size _ _ _ HO.out (by rw [sortL_len]; simp)).mono ?_; clear c0 c1 c2 c3; clear hz; rintro e w4 ⟨v4, rfl, ho4, hb4⟩; have HB2 := hidIt (HB.out.trans hb4); have HO2 := hidIt ho4; clear HB HO ho4 hb4; have HB := HB2; have HO := HO2; clear HB2 HO2; have c0 := cell_later HB.out C0.out; have c1 := cell_later HB.out C1.out; have c2 := cell_later HB.out C2.out; have c3 := cell_later HB.out C3.out; have hz := HB.out.size))
        go_ret
        exact ⟨_, rfl, HO.out, HB.out⟩
      | false =>
        rw [he] at GE
        rw [if_pos (by decide)]
        go_enter Try.func11, Try.ntmps11
        go_upto_region 4 with (fail)
        generalize hv0 : Value.slice none 0 0 = v0 at *
        clear hv0
        obtain ⟨ao0, cap0, rfl⟩ := own_slice HO.out
        go_wp2_with (first | (go_at_call 29; refine (GE.out _).mono ?_; rintro e w' ⟨rfl, hww⟩; cases hww) | (go_at_call 30; refine (GT.out _ HB.out).mono ?_; clear c0 c1 c2 c3; clear hz; rintro e w1 ⟨rfl, hb1⟩; have HB2 := hidIt (HB.out.trans (hb1.mono HB.out.size)); have HO2 := hidIt (HO.out.step hb1); clear HB HO hb1; have HB := HB2; have HO := HO2; clear HB2 HO2; have c0 := cell_later HB.out C0.out; have c1 := cell_later HB.out C1.out; have c2 := cell_later HB.out C2.out; have c3 := cell_later HB.out C3.out; have hz := HB.out.size) | (at_builtin; refine wpList_nappend rfl _ _ rfl w.heap.size _ _ _ HO.out rfl rfl (by simp) HB.out.size ?_; clear c0 c1 c2 c3; intro ao2 cap2 w2 ho2 st2; have HB2 := hidIt ((HB.out.trans ((below_alloc _ _).mono HB.out.size)).trans (st2.below (Nat.le_trans HB.out.size (below_alloc _ _).size) (fun k hk => (HO.out.lt k hk).1))); have HO2 := hidIt ho2; clear HB HO ho2 st2 hz; have HB := HB2; have HO := HO2; clear HB2 HO2; have c0 := cell_later HB.out C0.out; have c1 := cell_later HB.out C1.out; have c2 := cell_later HB.out C2.out; have c3 := cell_later HB.out C3.out; have hz := HB.out.size) | (go_at_call 31; refine (GS.out w.heap.size _ _ _ HO.out (by simp)).mono ?_; clear c0 c1 c2 c3; clear hz; rintro e w3 ⟨rfl, ho3, hb3⟩; have HB2 := hidIt (HB.out.trans hb3); have HO2 := hidIt ho3; clear HB HO ho3 hb3; have HB := HB2; have HO := HO2; clear HB2 HO2; have c0 := cell_later HB.out C0.out; have c1 := cell_later HB.out C1.out; have c2 := cell_later HB.out C2.out; have c3 := cell_later HB.out C3.out; have hz := HB.out.size) | (go_at_call 32; refine (GC.out w.heap.size _ _ _ HO.out (by rw [sortL_len]; simp)).mono ?_; clear c0 c1 c2 c3; clear hz; rintro e w4 ⟨v4, rfl, ho4, hb4⟩; have HB2 := hidIt (HB.out.trans hb4); have HO2 := hidIt ho4; clear HB HO ho4 hb4; have HB := HB2; have HO := HO2; clear HB2 HO2; have c0 := cell_later HB.out C0.out; have c1 := cell_later HB.out C1.out; have c2 := cell_later HB.out C2.out; have c3 := cell_later HB.out C3.out; have hz := HB.out.size))
        go_ret
        exact ⟨_, rfl, HO.out, HB.out⟩
  · have hlast' : ¬ (k : Int) + 1 < (l.length : Int) := by omega
    rw [decide_eq_false (show ¬ k + 1 < l.length by omega)]
    rcases Int.lt_or_le t 0 with htn | htn
    · have htn' : ¬ 0 ≤ t := by omega
      rw [if_pos (show t < 0 by omega)]
      cases he : endsB x.op with
      | true =>
        rw [he] at GE
        rw [if_neg (by decide)]
        go_enter Try.func11, Try.ntmps11
        go_upto_region 4 with (fail)
        generalize hv0 : Value.slice none 0 0 = v0 at *
        clear hv0
        obtain ⟨ao0, cap0, rfl⟩ := own_slice HO.out
        go_wp2_with (first | (go_at_call 29; refine (GE.out _).mono ?_; rintro e w' ⟨rfl, hww⟩; cases hww) | (go_at_call 30; refine (GT.out _ HB.out).mono ?_; clear c0 c1 c2 c3; clear hz; rintro e w1 ⟨rfl, hb1⟩; have HB2 := hidIt (HB.out.trans (hb1.mono HB.out.size)); have HO2 := hidIt (HO.out.step hb1); clear HB HO hb1; have HB := HB2; have HO := HO2; clear HB2 HO2; have c0 := cell_later HB.out C0.out; have c1 := cell_later HB.out C1.out; have c2 := cell_later HB.out C2.out; have c3 := cell_later HB.out C3.out; have hz := HB.out.size) | (at_builtin; refine wpList_nappend rfl _ _ rfl w.heap.size _ _ _ HO.out rfl rfl (by simp) HB.out.size ?_; clear c0 c1 c2 c3; intro ao2 cap2 w2 ho2 st2; have HB2 := hidIt ((HB.out.trans ((below_alloc _ _).mono HB.out.size)).trans (st2.below (Nat.le_trans HB.out.size (below_alloc _ _).size) (fun k hk => (HO.out.lt k hk).1))); have HO2 := hidIt ho2; clear HB HO ho2 st2 hz; have HB := HB2; have HO := HO2; clear HB2 HO2; have c0 := cell_later HB.out C0.out; have c1 := cell_later HB.out C1.out; have c2 := cell_later HB.out C2.out; have c3 := cell_later HB.out C3.out; have hz := HB.out.size) | (go_at_call 31; refine (GS.out w.heap.size _ _ _ HO.out (by simp)).mono ?_; clear c0 c1 c2 c3; clear hz; rintro e w3 ⟨rfl, ho3, hb3⟩; have HB2 := hidIt (HB.out.trans hb3); have HO2 := hidIt ho3; clear HB HO ho3 hb3; have HB := HB2; have HO := HO2; clear HB2 HO2; have c0 := cell_later HB.out C0.out; have c1 := cell_later HB.out C1.out; have c2 := cell_later HB.out C2.out; have c3 := cell_later HB.out C3.out; have hz := HB.out.size) | (go_at_call 32; refine (GC.out w.heap.size _ _ _ HO.out (by rw [sortL_len]; simp)).mono ?_; clear c0 c1 c2 c3; clear hz; rintro e w4 ⟨v4, rfl, ho4, hb4⟩; have HB2 := hidIt (HB.out.trans hb4); have HO2 := hidIt ho4; clear HB HO ho4 hb4; have HB := HB2; have HO := HO2; clear HB2 HO2; have c0 := cell_later HB.out C0.out; have c1 := cell_later HB.out C1.out; have c2 := cell_later HB.out C2.out; have c3 := cell_later HB.out C3.out; have hz := HB.out.size))
        go_ret
        exact ⟨_, rfl, HO.out, HB.out⟩
      | false =>
        rw [he] at GE
        rw [if_neg (by decide)]
        go_enter Try.func11, Try.ntmps11
        go_upto_region 4 with (fail)
        generalize hv0 : Value.slice none 0 0 = v0 at *
        clear hv0
        obtain ⟨ao0, cap0, rfl⟩ := own_slice HO.out
        go_wp2_with (first | (go_at_call 29; refine (GE.out _).mono ?_; rintro e w' ⟨rfl, hww⟩; cases hww) | (go_at_call 30; refine (GT.out _ HB.out).mono ?_; clear c0 c1 c2 c3; clear hz; rintro e w1 ⟨rfl, hb1⟩; have HB2 := hidIt (HB.out.trans (hb1.mono HB.out.size)); have HO2 := hidIt (HO.out.step hb1); clear HB HO hb1; have HB := HB2; have HO := HO2; clear HB2 HO2; have c0 := cell_later HB.out C0.out; have c1 := cell_later HB.out C1.out; have c2 := cell_later HB.out C2.out; have c3 := cell_later HB.out C3.out; have hz := HB.out.size) | (at_builtin; refine wpList_nappend rfl _ _ rfl w.heap.size _ _ _ HO.out rfl rfl (by simp) HB.out.size ?_; clear c0 c1 c2 c3; intro ao2 cap2 w2 ho2 st2; have HB2 := hidIt ((HB.out.trans ((below_alloc _ _).mono HB.out.size)).trans (st2.below (Nat.le_trans HB.out.size (below_alloc _ _).size) (fun k hk => (HO.out.lt k hk).1))); have HO2 := hidIt ho2; clear HB HO ho2 st2 hz; have HB := HB2; have HO := HO2; clear HB2 HO2; have c0 := cell_later HB.out C0.out; have c1 := cell_later HB.out C1.out; have c2 := cell_later HB.out C2.out; have c3 := cell_later HB.out C3.out; have hz := HB.out.size) | (go_at_call 31; refine (GS.out w.heap.size _ _ _ HO.out (by simp)).mono ?_; clear c0 c1 c2 c3; clear hz; rintro e w3 ⟨rfl, ho3, hb3⟩; have HB2 := hidIt (HB.out.trans hb3); have HO2 := hidIt ho3; clear HB HO ho3 hb3; have HB := HB2; have HO := HO2; clear HB2 HO2; have c0 := cell_later HB.out C0.out; have c1 := cell_later HB.out C1.out; have c2 := cell_later HB.out C2.out; have c3 := cell_later HB.out C3.out; have hz := HB.out.size) | (go_at_call 32; refine (GC.out w.heap.size _ _ _ HO.out (by rw [sortL_len]; simp)).mono ?_; clear c0 c1 c2 c3; clear hz; rintro e w4 ⟨v4, rfl, ho4, hb4⟩; have HB2 := hidIt (HB.out.trans hb4); have HO2 := hidIt ho4; clear HB HO ho4 hb4; have HB := HB2; have HO := HO2; clear HB2 HO2; have c0 := cell_later HB.out C0.out; have c1 := cell_later HB.out C1.out; have c2 := cell_later HB.out C2.out; have c3 := cell_later HB.out C3.out; have hz := HB.out.size))
        go_ret
        exact ⟨_, rfl, HO.out, HB.out⟩
    · have htn' : 0 ≤ t := by omega
      rw [if_neg (show ¬ t < 0 by omega)]
      cases he : endsB x.op with
      | true =>
        rw [he] at GE
        rw [if_neg (by decide)]
        go_enter Try.func11, Try.ntmps11
        go_upto_region 4 with (fail)
        generalize hv0 : Value.slice none 0 0 = v0 at *
        clear hv0
        obtain ⟨ao0, cap0, rfl⟩ := own_slice HO.out
        go_wp2_with (first | (go_at_call 29; refine (GE.out _).mono ?_; rintro e w' ⟨rfl, hww⟩; cases hww) | (go_at_call 30; refine (GT.out _ HB.out).mono ?_; clear c0 c1 c2 c3; clear hz; rintro e w1 ⟨rfl, hb1⟩; have HB2 := hidIt (HB.out.trans (hb1.mono HB.out.size)); have HO2 := hidIt (HO.out.step hb1); clear HB HO hb1; have HB := HB2; have HO := HO2; clear HB2 HO2; have c0 := cell_later HB.out C0.out; have c1 := cell_later HB.out C1.out; have c2 := cell_later HB.out C2.out; have c3 := cell_later HB.out C3.out; have hz := HB.out.size) | (at_builtin; refine wpList_nappend rfl _ _ rfl w.heap.size _ _ _ HO.out rfl rfl (by simp) HB.out.size ?_; clear c0 c1 c2 c3; intro ao2 cap2 w2 ho2 st2; have HB2 := hidIt ((HB.out.trans ((below_alloc _ _).mono HB.out.size)).trans (st2.below (Nat.le_trans HB.out.size (below_alloc _ _).size) (fun k hk => (HO.out.lt k hk).1))); have HO2 := hidIt ho2; clear HB HO ho2 st2 hz; have HB := HB2; have HO := HO2; clear HB2 HO2; have c0 := cell_later HB.out C0.out; have c1 := cell_later HB.out C1.out; have c2 := cell_later HB.out C2.out; have c3 := cell_later HB.out C3.out; have hz := HB.out.size) | (go_at_call 31; refine (GS.out w.heap.size _ _ _ HO.out (by simp)).mono ?_; clear c0 c1 c2 c3; clear hz; rintro e w3 ⟨rfl, ho3, hb3⟩; have HB2 := hidIt (HB.out.trans hb3); have HO2 := hidIt ho3; clear HB HO ho3 hb3; have HB := HB2; have HO := HO2; clear HB2 HO2; have c0 := cell_later HB.out C0.out; have c1 := cell_later HB.out C1.out; have c2 := cell_later HB.out C2.out; have c3 := cell_later HB.out C3.out; have hz := HB.out.size) | (go_at_call 32; refine (GC.out w.heap.size _ _ _ HO.out (by rw [sortL_len]; simp)).mono ?_; clear c0 c1 c2 c3; clear hz; rintro e w4 ⟨v4, rfl, ho4, hb4⟩; have HB2 := hidIt (HB.out.trans hb4); have HO2 := hidIt ho4; clear HB HO ho4 hb4; have HB := HB2; have HO := HO2; clear HB2 HO2; have c0 := cell_later HB.out C0.out; have c1 := cell_later HB.out C1.out; have c2 := cell_later HB.out C2.out; have c3 := cell_later HB.out C3.out; have hz := HB.out.size))
        go_ret
        exact ⟨_, rfl, HO.out, HB.out⟩
      | false =>
        rw [he] at GE
        rw [if_neg (by decide)]
        go_enter Try.func11, Try.ntmps11
        go_upto_region 4 with (fail)
        generalize hv0 : Value.slice none 0 0 = v0 at *
        clear hv0
        obtain ⟨ao0, cap0, rfl⟩ := own_slice HO.out
        go_wp2_with (first | (go_at_call 29; refine (GE.out _).mono ?_; rintro e w' ⟨rfl, hww⟩; cases hww) | (go_at_call 30; refine (GT.out _ HB.out).mono ?_; clear c0 c1 c2 c3; clear hz; rintro e w1 ⟨rfl, hb1⟩; have HB2 := hidIt (HB.out.trans (hb1.mono HB.out.size)); have HO2 := hidIt (HO.out.step hb1); clear HB HO hb1; have HB := HB2; have HO := HO2; clear HB2 HO2; have c0 := cell_later HB.out C0.out; have c1 := cell_later HB.out C1.out; have c2 := cell_later HB.out C2.out; have c3 := cell_later HB.out C3.out; have hz := HB.out.size) | (at_builtin; refine wpList_nappend rfl _ _ rfl w.heap.size _ _ _ HO.out rfl rfl (by simp) HB.out.size ?_; clear c0 c1 c2 c3; intro ao2 cap2 w2 ho2 st2; have HB2 := hidIt ((HB.out.trans ((below_alloc _ _).mono HB.out.size)).trans (st2.below (Nat.le_trans HB.out.size (below_alloc _ _).size) (fun k hk => (HO.out.lt k hk).1))); have HO2 := hidIt ho2; clear HB HO ho2 st2 hz; have HB := HB2; have HO := HO2; clear HB2 HO2; have c0 := cell_later HB.out C0.out; have c1 := cell_later HB.out C1.out; have c2 := cell_later HB.out C2.out; have c3 := cell_later HB.out C3.out; have hz := HB.out.size) | (go_at_call 31; refine (GS.out w.heap.size _ _ _ HO.out (by simp)).mono ?_; clear c0 c1 c2 c3; clear hz; rintro e w3 ⟨rfl, ho3, hb3⟩; have HB2 := hidIt (HB.out.trans hb3); have HO2 := hidIt ho3; clear HB HO ho3 hb3; have HB := HB2; have HO := HO2; clear HB2 HO2; have c0 := cell_later HB.out C0.out; have c1 := cell_later HB.out C1.out; have c2 := cell_later HB.out C2.out; have c3 := cell_later HB.out C3.out; have hz := HB.out.size) | (go_at_call 32; refine (GC.out w.heap.size _ _ _ HO.out (by rw [sortL_len]; simp)).mono ?_; clear c0 c1 c2 c3; clear hz; rintro e w4 ⟨v4, rfl, ho4, hb4⟩; have HB2 := hidIt (HB.out.trans hb4); have HO2 := hidIt ho4; clear HB HO ho4 hb4; have HB := HB2; have HO := HO2; clear HB2 HO2; have c0 := cell_later HB.out C0.out; have c1 := cell_later HB.out C1.out; have c2 := cell_later HB.out C2.out; have c3 := cell_later HB.out C3.out; have hz := HB.out.size))
        go_ret
        exact ⟨_, rfl, HO.out, HB.out⟩
end Go.Proofs.Ytjbkhaafaplceaa
