/- Texts FE FF. -/
import Derived.Test.YtbmfkbgncjldjaaBv27
namespace Go.Proofs.Ytbmfkbgncjldjaa
open Go.RowKit

set_option maxRecDepth 8000 in
set_option maxHeartbeats 4000000 in
theorem next_any (v : Value) (l : List IN) (n : Int) (w : World) (hv : IView w v l) :
    Calls Try.prog 16 #[v, .int .i64 n] w fun e w' => ∃ v', e = .returned v' ∧ NOwn w' w.heap.size v' (nextZ l n) ∧ Below w.heap.size w w' := by
  have HV := hidIt hv
  obtain ⟨ao, cap, rfl, hc, hm, _⟩ := hv
  unfold maxLen at hm
  by_cases h0 : n < 0
  · rw [nextZ_out (.inl h0)]
    go_enter Try.func16, Try.ntmps16
    go_wp2
    go_ret
    exact ⟨_, rfl, NOwn.nil _ _, Below.refl _ _⟩
  by_cases h1 : (l.length : Int) ≤ n
  · rw [nextZ_out (.inr h1)]
    go_enter Try.func16, Try.ntmps16
    go_wp2
    go_ret
    exact ⟨_, rfl, NOwn.nil _ _, Below.refl _ _⟩
  obtain ⟨k, rfl⟩ := Int.eq_ofNat_of_zero_le (Int.not_lt.1 h0)
  have hk : k < l.length := by omega
  have hk' : (k : Int) < (l.length : Int) := by omega
  obtain ⟨x, hx⟩ : ∃ x, l[k]? = some x := ⟨l[k], List.getElem?_eq_getElem hk⟩
  rw [nextZ_at hx, nextL_sorted]
  obtain ⟨g, off, rfl, c0, c1, c2, c3⟩ := HV.out.row hx
  have GE := hidIt (fun W => ends_any x.op W)
  have GT := hidIt (fun W (h : Below w.heap.size w W) => target_any _ l x W (HV.out.below h))
  have GS := hidIt (fun B v l w => sortN B v l w)
  have GC := hidIt (fun B v l w => compactN B v l w)
  have ht := tgtZ_lt l x
  unfold IN.val at GT
  clear hx HV
  generalize tgtZ l x = t at *
  obtain ⟨ht0, ht1⟩ := ht
  have C0 := hidIt c0
  have C1 := hidIt c1
  have C2 := hidIt c2
  have C3 := hidIt c3
  have HB := hidIt (Below.refl w.heap.size w)
  have HO := hidIt (NOwn.nil w w.heap.size)
  have hz : w.heap.size ≤ w.heap.size := Nat.le_refl _
  have hlast := Nat.lt_or_ge (k + 1) l.length
  rcases hlast with hlast | hlast
  · have hlast' : (k : Int) + 1 < (l.length : Int) := by omega
    rw [decide_eq_true (show k + 1 < l.length by omega)]
    rcases Int.lt_or_le t 0 with htn | htn
    · have htn' : ¬ 0 ≤ t := by omega
      rw [if_pos (show t < 0 by omega)]
      cases he : endsB x.op with
      | true =>
        rw [he] at GE
        rw [if_neg (by decide)]
        go_enter Try.func16, Try.ntmps16
        go_upto_region 4 with (fail)
        generalize hv0 : Value.slice none 0 0 = v0 at *
        clear hv0
        obtain ⟨ao0, cap0, rfl⟩ := own_slice HO.out
        go_wp2_with (first | (go_at_call 46; refine (GE.out _).mono ?_; rintro e w' ⟨rfl, hww⟩; cases hww) | (go_at_call 47; refine (GT.out _ HB.out).mono ?_; clear c0 c1 c2 c3; clear hz; rintro e w1 ⟨rfl, hb1⟩; have HB2 := hidIt (HB.out.trans (hb1.mono HB.out.size)); have HO2 := hidIt (HO.out.step hb1); clear HB HO hb1; have HB := HB2; have HO := HO2; clear HB2 HO2; have c0 := cell_later HB.out C0.out; have c1 := cell_later HB.out C1.out; have c2 := cell_later HB.out C2.out; have c3 := cell_later HB.out C3.out; have hz := HB.out.size) | (at_builtin; refine wpList_nappend rfl _ _ rfl w.heap.size _ _ _ HO.out rfl rfl (by simp) HB.out.size ?_; clear c0 c1 c2 c3; intro ao2 cap2 w2 ho2 st2; have HB2 := hidIt ((HB.out.trans ((below_alloc _ _).mono HB.out.size)).trans (st2.below (Nat.le_trans HB.out.size (below_alloc _ _).size) (fun k hk => (HO.out.lt k hk).1))); have HO2 := hidIt ho2; clear HB HO ho2 st2 hz; have HB := HB2; have HO := HO2; clear HB2 HO2; have c0 := cell_later HB.out C0.out; have c1 := cell_later HB.out C1.out; have c2 := cell_later HB.out C2.out; have c3 := cell_later HB.out C3.out; have hz := HB.out.size) | (go_at_call 48; refine (GS.out w.heap.size _ _ _ HO.out (by simp)).mono ?_; clear c0 c1 c2 c3; clear hz; rintro e w3 ⟨rfl, ho3, hb3⟩; have HB2 := hidIt (HB.out.trans hb3); have HO2 := hidIt ho3; clear HB HO ho3 hb3; have HB := HB2; have HO := HO2; clear HB2 HO2; have c0 := cell_later HB.out C0.out; have c1 := cell_later HB.out C1.out; have c2 := cell_later HB.out C2.out; have c3 := cell_later HB.out C3.out; have hz := HB.out.size) | (go_at_call 49; refine (GC.out w.heap.size _ _ _ HO.out (by rw [sortL_len]; simp)).mono ?_; clear c0 c1 c2 c3; clear hz; rintro e w4 ⟨v4, rfl, ho4, hb4⟩; have HB2 := hidIt (HB.out.trans hb4); have HO2 := hidIt ho4; clear HB HO ho4 hb4; have HB := HB2; have HO := HO2; clear HB2 HO2; have c0 := cell_later HB.out C0.out; have c1 := cell_later HB.out C1.out; have c2 := cell_later HB.out C2.out; have c3 := cell_later HB.out C3.out; have hz := HB.out.size))
        go_ret
        exact ⟨_, rfl, HO.out, HB.out⟩
      | false =>
        rw [he] at GE
        rw [if_pos (by decide)]
        go_enter Try.func16, Try.ntmps16
        go_upto_region 4 with (fail)
        generalize hv0 : Value.slice none 0 0 = v0 at *
        clear hv0
        obtain ⟨ao0, cap0, rfl⟩ := own_slice HO.out
        go_wp2_with (first | (go_at_call 46; refine (GE.out _).mono ?_; rintro e w' ⟨rfl, hww⟩; cases hww) | (go_at_call 47; refine (GT.out _ HB.out).mono ?_; clear c0 c1 c2 c3; clear hz; rintro e w1 ⟨rfl, hb1⟩; have HB2 := hidIt (HB.out.trans (hb1.mono HB.out.size)); have HO2 := hidIt (HO.out.step hb1); clear HB HO hb1; have HB := HB2; have HO := HO2; clear HB2 HO2; have c0 := cell_later HB.out C0.out; have c1 := cell_later HB.out C1.out; have c2 := cell_later HB.out C2.out; have c3 := cell_later HB.out C3.out; have hz := HB.out.size) | (at_builtin; refine wpList_nappend rfl _ _ rfl w.heap.size _ _ _ HO.out rfl rfl (by simp) HB.out.size ?_; clear c0 c1 c2 c3; intro ao2 cap2 w2 ho2 st2; have HB2 := hidIt ((HB.out.trans ((below_alloc _ _).mono HB.out.size)).trans (st2.below (Nat.le_trans HB.out.size (below_alloc _ _).size) (fun k hk => (HO.out.lt k hk).1))); have HO2 := hidIt ho2; clear HB HO ho2 st2 hz; have HB := HB2; have HO := HO2; clear HB2 HO2; have c0 := cell_later HB.out C0.out; have c1 := cell_later HB.out C1.out; have c2 := cell_later HB.out C2.out; have c3 := cell_later HB.out C3.out; have hz := HB.out.size) | (go_at_call 48; refine (GS.out w.heap.size _ _ _ HO.out (by simp)).mono ?_; clear c0 c1 c2 c3; clear hz; rintro e w3 ⟨rfl, ho3, hb3⟩; have HB2 := hidIt (HB.out.trans hb3); have HO2 := hidIt ho3; clear HB HO ho3 hb3; have HB := HB2; have HO := HO2; clear HB2 HO2; have c0 := cell_later HB.out C0.out; have c1 := cell_later HB.out C1.out; have c2 := cell_later HB.out C2.out; have c3 := cell_later HB.out C3.out; have hz := HB.out.size) | (go_at_call 49; refine (GC.out w.heap.size _ _ _ HO.out (by rw [sortL_len]; simp)).mono ?_; clear c0 c1 c2 c3; clear hz; rintro e w4 ⟨v4, rfl, ho4, hb4⟩; have HB2 := hidIt (HB.out.trans hb4); have HO2 := hidIt ho4; clear HB HO ho4 hb4; have HB := HB2; have HO := HO2; clear HB2 HO2; have c0 := cell_later HB.out C0.out; have c1 := cell_later HB.out C1.out; have c2 := cell_later HB.out C2.out; have c3 := cell_later HB.out C3.out; have hz := HB.out.size))
        go_ret
        exact ⟨_, rfl, HO.out, HB.out⟩
    · have htn' : 0 ≤ t := by omega
      rw [if_neg (show ¬ t < 0 by omega)]
      cases he : endsB x.op with
      | true =>
        rw [he] at GE
        rw [if_neg (by decide)]
        go_enter Try.func16, Try.ntmps16
        go_upto_region 4 with (fail)
        generalize hv0 : Value.slice none 0 0 = v0 at *
        clear hv0
        obtain ⟨ao0, cap0, rfl⟩ := own_slice HO.out
        go_wp2_with (first | (go_at_call 46; refine (GE.out _).mono ?_; rintro e w' ⟨rfl, hww⟩; cases hww) | (go_at_call 47; refine (GT.out _ HB.out).mono ?_; clear c0 c1 c2 c3; clear hz; rintro e w1 ⟨rfl, hb1⟩; have HB2 := hidIt (HB.out.trans (hb1.mono HB.out.size)); have HO2 := hidIt (HO.out.step hb1); clear HB HO hb1; have HB := HB2; have HO := HO2; clear HB2 HO2; have c0 := cell_later HB.out C0.out; have c1 := cell_later HB.out C1.out; have c2 := cell_later HB.out C2.out; have c3 := cell_later HB.out C3.out; have hz := HB.out.size) | (at_builtin; refine wpList_nappend rfl _ _ rfl w.heap.size _ _ _ HO.out rfl rfl (by simp) HB.out.size ?_; clear c0 c1 c2 c3; intro ao2 cap2 w2 ho2 st2; have HB2 := hidIt ((HB.out.trans ((below_alloc _ _).mono HB.out.size)).trans (st2.below (Nat.le_trans HB.out.size (below_alloc _ _).size) (fun k hk => (HO.out.lt k hk).1))); have HO2 := hidIt ho2; clear HB HO ho2 st2 hz; have HB := HB2; have HO := HO2; clear HB2 HO2; have c0 := cell_later HB.out C0.out; have c1 := cell_later HB.out C1.out; have c2 := cell_later HB.out C2.out; have c3 := cell_later HB.out C3.out; have hz := HB.out.size) | (go_at_call 48; refine (GS.out w.heap.size _ _ _ HO.out (by simp)).mono ?_; clear c0 c1 c2 c3; clear hz; rintro e w3 ⟨rfl, ho3, hb3⟩; have HB2 := hidIt (HB.out.trans hb3); have HO2 := hidIt ho3; clear HB HO ho3 hb3; have HB := HB2; have HO := HO2; clear HB2 HO2; have c0 := cell_later HB.out C0.out; have c1 := cell_later HB.out C1.out; have c2 := cell_later HB.out C2.out; have c3 := cell_later HB.out C3.out; have hz := HB.out.size) | (go_at_call 49; refine (GC.out w.heap.size _ _ _ HO.out (by rw [sortL_len]; simp)).mono ?_; clear c0 c1 c2 c3; clear hz; rintro e w4 ⟨v4, rfl, ho4, hb4⟩; have HB2 := hidIt (HB.out.trans hb4); have HO2 := hidIt ho4; clear HB HO ho4 hb4; have HB := HB2; have HO := HO2; clear HB2 HO2; have c0 := cell_later HB.out C0.out; have c1 := cell_later HB.out C1.out; have c2 := cell_later HB.out C2.out; have c3 := cell_later HB.out C3.out; have hz := HB.out.size))
        go_ret
        exact ⟨_, rfl, HO.out, HB.out⟩
      | false =>
        rw [he] at GE
        rw [if_pos (by decide)]
        go_enter Try.func16, Try.ntmps16
        go_upto_region 4 with (fail)
        generalize hv0 : Value.slice none 0 0 = v0 at *
        clear hv0
        obtain ⟨ao0, cap0, rfl⟩ := own_slice HO.out
        go_wp2_with (first | (go_at_call 46; refine (GE.out _).mono ?_; rintro e w' ⟨rfl, hww⟩; cases hww) | (go_at_call 47; refine (GT.out _ HB.out).mono ?_; clear c0 c1 c2 c3; clear hz; rintro e w1 ⟨rfl, hb1⟩; have HB2 := hidIt (HB.out.trans (hb1.mono HB.out.size)); have HO2 := hidIt (HO.out.step hb1); clear HB HO hb1; have HB := HB2; have HO := HO2; clear HB2 HO2; have c0 := cell_later HB.out C0.out; have c1 := cell_later HB.out C1.out; have c2 := cell_later HB.out C2.out; have c3 := cell_later HB.out C3.out; have hz := HB.out.size) | (at_builtin; refine wpList_nappend rfl _ _ rfl w.heap.size _ _ _ HO.out rfl rfl (by simp) HB.out.size ?_; clear c0 c1 c2 c3; intro ao2 cap2 w2 ho2 st2; have HB2 := hidIt ((HB.out.trans ((below_alloc _ _).mono HB.out.size)).trans (st2.below (Nat.le_trans HB.out.size (below_alloc _ _).size) (fun k hk => (HO.out.lt k hk).1))); have HO2 := hidIt ho2; clear HB HO ho2 st2 hz; have HB := HB2; have HO := HO2; clear HB2 HO2; have c0 := cell_later HB.out C0.out; have c1 := cell_later HB.out C1.out; have c2 := cell_later HB.out C2.out; have c3 := cell_later HB.out C3.out; have hz := HB.out.size) | (go_at_call 48; refine (GS.out w.heap.size _ _ _ HO.out (by simp)).mono ?_; clear c0 c1 c2 c3; clear hz; rintro e w3 ⟨rfl, ho3, hb3⟩; have HB2 := hidIt (HB.out.trans hb3); have HO2 := hidIt ho3; clear HB HO ho3 hb3; have HB := HB2; have HO := HO2; clear HB2 HO2; have c0 := cell_later HB.out C0.out; have c1 := cell_later HB.out C1.out; have c2 := cell_later HB.out C2.out; have c3 := cell_later HB.out C3.out; have hz := HB.out.size) | (go_at_call 49; refine (GC.out w.heap.size _ _ _ HO.out (by rw [sortL_len]; simp)).mono ?_; clear c0 c1 c2 c3; clear hz; rintro e w4 ⟨v4, rfl, ho4, hb4⟩; have HB2 := hidIt (HB.out.trans hb4); have HO2 := hidIt ho4; clear HB HO ho4 hb4; have HB := HB2; have HO := HO2; clear HB2 HO2; have c0 := cell_later HB.out C0.out; have c1 := cell_later HB.out C1.out; have c2 := cell_later HB.out C2.out; have c3 := cell_later HB.out C3.out; have hz := HB.out.size))
        go_ret
        exact ⟨_, rfl, HO.out, HB.out⟩
  · have hlast' : ¬ (k : Int) + 1 < (l.length : Int) := by omega
    rw [decide_eq_false (show ¬ k + 1 < l.length by omega)]
    rcases Int.lt_or_le t 0 with htn | htn
    · have htn' : ¬ 0 ≤ t := by omega
      rw [if_pos (show t < 0 by omega)]
      cases he : endsB x.op with
      | true =>
        rw [he] at GE
        rw [if_neg (by decide)]
        go_enter Try.func16, Try.ntmps16
        go_upto_region 4 with (fail)
        generalize hv0 : Value.slice none 0 0 = v0 at *
        clear hv0
        obtain ⟨ao0, cap0, rfl⟩ := own_slice HO.out
        go_wp2_with (first | (go_at_call 46; refine (GE.out _).mono ?_; rintro e w' ⟨rfl, hww⟩; cases hww) | (go_at_call 47; refine (GT.out _ HB.out).mono ?_; clear c0 c1 c2 c3; clear hz; rintro e w1 ⟨rfl, hb1⟩; have HB2 := hidIt (HB.out.trans (hb1.mono HB.out.size)); have HO2 := hidIt (HO.out.step hb1); clear HB HO hb1; have HB := HB2; have HO := HO2; clear HB2 HO2; have c0 := cell_later HB.out C0.out; have c1 := cell_later HB.out C1.out; have c2 := cell_later HB.out C2.out; have c3 := cell_later HB.out C3.out; have hz := HB.out.size) | (at_builtin; refine wpList_nappend rfl _ _ rfl w.heap.size _ _ _ HO.out rfl rfl (by simp) HB.out.size ?_; clear c0 c1 c2 c3; intro ao2 cap2 w2 ho2 st2; have HB2 := hidIt ((HB.out.trans ((below_alloc _ _).mono HB.out.size)).trans (st2.below (Nat.le_trans HB.out.size (below_alloc _ _).size) (fun k hk => (HO.out.lt k hk).1))); have HO2 := hidIt ho2; clear HB HO ho2 st2 hz; have HB := HB2; have HO := HO2; clear HB2 HO2; have c0 := cell_later HB.out C0.out; have c1 := cell_later HB.out C1.out; have c2 := cell_later HB.out C2.out; have c3 := cell_later HB.out C3.out; have hz := HB.out.size) | (go_at_call 48; refine (GS.out w.heap.size _ _ _ HO.out (by simp)).mono ?_; clear c0 c1 c2 c3; clear hz; rintro e w3 ⟨rfl, ho3, hb3⟩; have HB2 := hidIt (HB.out.trans hb3); have HO2 := hidIt ho3; clear HB HO ho3 hb3; have HB := HB2; have HO := HO2; clear HB2 HO2; have c0 := cell_later HB.out C0.out; have c1 := cell_later HB.out C1.out; have c2 := cell_later HB.out C2.out; have c3 := cell_later HB.out C3.out; have hz := HB.out.size) | (go_at_call 49; refine (GC.out w.heap.size _ _ _ HO.out (by rw [sortL_len]; simp)).mono ?_; clear c0 c1 c2 c3; clear hz; rintro e w4 ⟨v4, rfl, ho4, hb4⟩; have HB2 := hidIt (HB.out.trans hb4); have HO2 := hidIt ho4; clear HB HO ho4 hb4; have HB := HB2; have HO := HO2; clear HB2 HO2; have c0 := cell_later HB.out C0.out; have c1 := cell_later HB.out C1.out; have c2 := cell_later HB.out C2.out; have c3 := cell_later HB.out C3.out; have hz := HB.out.size))
        go_ret
        exact ⟨_, rfl, HO.out, HB.out⟩
      | false =>
        rw [he] at GE
        rw [if_neg (by decide)]
        go_enter Try.func16, Try.ntmps16
        go_upto_region 4 with (fail)
        generalize hv0 : Value.slice none 0 0 = v0 at *
        clear hv0
        obtain ⟨ao0, cap0, rfl⟩ := own_slice HO.out
        go_wp2_with (first | (go_at_call 46; refine (GE.out _).mono ?_; rintro e w' ⟨rfl, hww⟩; cases hww) | (go_at_call 47; refine (GT.out _ HB.out).mono ?_; clear c0 c1 c2 c3; clear hz; rintro e w1 ⟨rfl, hb1⟩; have HB2 := hidIt (HB.out.trans (hb1.mono HB.out.size)); have HO2 := hidIt (HO.out.step hb1); clear HB HO hb1; have HB := HB2; have HO := HO2; clear HB2 HO2; have c0 := cell_later HB.out C0.out; have c1 := cell_later HB.out C1.out; have c2 := cell_later HB.out C2.out; have c3 := cell_later HB.out C3.out; have hz := HB.out.size) | (at_builtin; refine wpList_nappend rfl _ _ rfl w.heap.size _ _ _ HO.out rfl rfl (by simp) HB.out.size ?_; clear c0 c1 c2 c3; intro ao2 cap2 w2 ho2 st2; have HB2 := hidIt ((HB.out.trans ((below_alloc _ _).mono HB.out.size)).trans (st2.below (Nat.le_trans HB.out.size (below_alloc _ _).size) (fun k hk => (HO.out.lt k hk).1))); have HO2 := hidIt ho2; clear HB HO ho2 st2 hz; have HB := HB2; have HO := HO2; clear HB2 HO2; have c0 := cell_later HB.out C0.out; have c1 := cell_later HB.out C1.out; have c2 := cell_later HB.out C2.out; have c3 := cell_later HB.out C3.out; have hz := HB.out.size) | (go_at_call 48; refine (GS.out w.heap.size _ _ _ HO.out (by simp)).mono ?_; clear c0 c1 c2 c3; clear hz; rintro e w3 ⟨rfl, ho3, hb3⟩; have HB2 := hidIt (HB.out.trans hb3); have HO2 := hidIt ho3; clear HB HO ho3 hb3; have HB := HB2; have HO := HO2; clear HB2 HO2; have c0 := cell_later HB.out C0.out; have c1 := cell_later HB.out C1.out; have c2 := cell_later HB.out C2.out; have c3 := cell_later HB.out C3.out; have hz := HB.out.size) | (go_at_call 49; refine (GC.out w.heap.size _ _ _ HO.out (by rw [sortL_len]; simp)).mono ?_; clear c0 c1 c2 c3; clear hz; rintro e w4 ⟨v4, rfl, ho4, hb4⟩; have HB2 := hidIt (HB.out.trans hb4); have HO2 := hidIt ho4; clear HB HO ho4 hb4; have HB := HB2; have HO := HO2; clear HB2 HO2; have c0 := cell_later HB.out C0.out; have c1 := cell_later HB.out C1.out; have c2 := cell_later HB.out C2.out; have c3 := cell_later HB.out C3.out; have hz := HB.out.size))
        go_ret
        exact ⟨_, rfl, HO.out, HB.out⟩
    · have htn' : 0 ≤ t := by omega
      rw [if_neg (show ¬ t < 0 by omega)]
      cases he : endsB x.op with
      | true =>
        rw [he] at GE
        rw [if_neg (by decide)]
        go_enter Try.func16, Try.ntmps16
        go_upto_region 4 with (fail)
        generalize hv0 : Value.slice none 0 0 = v0 at *
        clear hv0
        obtain ⟨ao0, cap0, rfl⟩ := own_slice HO.out
        go_wp2_with (first | (go_at_call 46; refine (GE.out _).mono ?_; rintro e w' ⟨rfl, hww⟩; cases hww) | (go_at_call 47; refine (GT.out _ HB.out).mono ?_; clear c0 c1 c2 c3; clear hz; rintro e w1 ⟨rfl, hb1⟩; have HB2 := hidIt (HB.out.trans (hb1.mono HB.out.size)); have HO2 := hidIt (HO.out.step hb1); clear HB HO hb1; have HB := HB2; have HO := HO2; clear HB2 HO2; have c0 := cell_later HB.out C0.out; have c1 := cell_later HB.out C1.out; have c2 := cell_later HB.out C2.out; have c3 := cell_later HB.out C3.out; have hz := HB.out.size) | (at_builtin; refine wpList_nappend rfl _ _ rfl w.heap.size _ _ _ HO.out rfl rfl (by simp) HB.out.size ?_; clear c0 c1 c2 c3; intro ao2 cap2 w2 ho2 st2; have HB2 := hidIt ((HB.out.trans ((below_alloc _ _).mono HB.out.size)).trans (st2.below (Nat.le_trans HB.out.size (below_alloc _ _).size) (fun k hk => (HO.out.lt k hk).1))); have HO2 := hidIt ho2; clear HB HO ho2 st2 hz; have HB := HB2; have HO := HO2; clear HB2 HO2; have c0 := cell_later HB.out C0.out; have c1 := cell_later HB.out C1.out; have c2 := cell_later HB.out C2.out; have c3 := cell_later HB.out C3.out; have hz := HB.out.size) | (go_at_call 48; refine (GS.out w.heap.size _ _ _ HO.out (by simp)).mono ?_; clear c0 c1 c2 c3; clear hz; rintro e w3 ⟨rfl, ho3, hb3⟩; have HB2 := hidIt (HB.out.trans hb3); have HO2 := hidIt ho3; clear HB HO ho3 hb3; have HB := HB2; have HO := HO2; clear HB2 HO2; have c0 := cell_later HB.out C0.out; have c1 := cell_later HB.out C1.out; have c2 := cell_later HB.out C2.out; have c3 := cell_later HB.out C3.out; have hz := HB.out.size) | (go_at_call 49; refine (GC.out w.heap.size _ _ _ HO.out (by rw [sortL_len]; simp)).mono ?_; clear c0 c1 c2 c3; clear hz; rintro e w4 ⟨v4, rfl, ho4, hb4⟩; have HB2 := hidIt (HB.out.trans hb4); have HO2 := hidIt ho4; clear HB HO ho4 hb4; have HB := HB2; have HO := HO2; clear HB2 HO2; have c0 := cell_later HB.out C0.out; have c1 := cell_later HB.out C1.out; have c2 := cell_later HB.out C2.out; have c3 := cell_later HB.out C3.out; have hz := HB.out.size))
        go_ret
        exact ⟨_, rfl, HO.out, HB.out⟩
      | false =>
        rw [he] at GE
        rw [if_neg (by decide)]
        go_enter Try.func16, Try.ntmps16
        go_upto_region 4 with (fail)
        generalize hv0 : Value.slice none 0 0 = v0 at *
        clear hv0
        obtain ⟨ao0, cap0, rfl⟩ := own_slice HO.out
        go_wp2_with (first | (go_at_call 46; refine (GE.out _).mono ?_; rintro e w' ⟨rfl, hww⟩; cases hww) | (go_at_call 47; refine (GT.out _ HB.out).mono ?_; clear c0 c1 c2 c3; clear hz; rintro e w1 ⟨rfl, hb1⟩; have HB2 := hidIt (HB.out.trans (hb1.mono HB.out.size)); have HO2 := hidIt (HO.out.step hb1); clear HB HO hb1; have HB := HB2; have HO := HO2; clear HB2 HO2; have c0 := cell_later HB.out C0.out; have c1 := cell_later HB.out C1.out; have c2 := cell_later HB.out C2.out; have c3 := cell_later HB.out C3.out; have hz := HB.out.size) | (at_builtin; refine wpList_nappend rfl _ _ rfl w.heap.size _ _ _ HO.out rfl rfl (by simp) HB.out.size ?_; clear c0 c1 c2 c3; intro ao2 cap2 w2 ho2 st2; have HB2 := hidIt ((HB.out.trans ((below_alloc _ _).mono HB.out.size)).trans (st2.below (Nat.le_trans HB.out.size (below_alloc _ _).size) (fun k hk => (HO.out.lt k hk).1))); have HO2 := hidIt ho2; clear HB HO ho2 st2 hz; have HB := HB2; have HO := HO2; clear HB2 HO2; have c0 := cell_later HB.out C0.out; have c1 := cell_later HB.out C1.out; have c2 := cell_later HB.out C2.out; have c3 := cell_later HB.out C3.out; have hz := HB.out.size) | (go_at_call 48; refine (GS.out w.heap.size _ _ _ HO.out (by simp)).mono ?_; clear c0 c1 c2 c3; clear hz; rintro e w3 ⟨rfl, ho3, hb3⟩; have HB2 := hidIt (HB.out.trans hb3); have HO2 := hidIt ho3; clear HB HO ho3 hb3; have HB := HB2; have HO := HO2; clear HB2 HO2; have c0 := cell_later HB.out C0.out; have c1 := cell_later HB.out C1.out; have c2 := cell_later HB.out C2.out; have c3 := cell_later HB.out C3.out; have hz := HB.out.size) | (go_at_call 49; refine (GC.out w.heap.size _ _ _ HO.out (by rw [sortL_len]; simp)).mono ?_; clear c0 c1 c2 c3; clear hz; rintro e w4 ⟨v4, rfl, ho4, hb4⟩; have HB2 := hidIt (HB.out.trans hb4); have HO2 := hidIt ho4; clear HB HO ho4 hb4; have HB := HB2; have HO := HO2; clear HB2 HO2; have c0 := cell_later HB.out C0.out; have c1 := cell_later HB.out C1.out; have c2 := cell_later HB.out C2.out; have c3 := cell_later HB.out C3.out; have hz := HB.out.size))
        go_ret
        exact ⟨_, rfl, HO.out, HB.out⟩
end Go.Proofs.Ytbmfkbgncjldjaa
namespace Go.Proofs.Ytbmfkbgncjldjaa
open Go.RowKit

def NView (w : World) (v : Value) (l : List Int) : Prop :=
  ∃ ao cap, v = .slice ao l.length cap ∧ l.length ≤ cap ∧ cap ≤ maxLen ∧ (l = [] ∨ ∃ g off, ao = some ⟨g, off, none⟩ ∧ ∀ (j : Nat) (x : Int), l[j]? = some x → w.cell? ⟨g, off + j, none⟩ = some (.int .i64 x))
theorem NView.below {w w' : World} {v : Value} {l : List Int} (h : NView w v l) (hb : Below w.heap.size w w') : NView w' v l := by
  obtain ⟨ao, cap, e, hc, hm, hl⟩ := h
  refine ⟨ao, cap, e, hc, hm, ?_⟩
  rcases hl with h | ⟨g, off, e, hl⟩
  · exact .inl h
  · exact .inr ⟨g, off, e, fun j x hj => cell_later hb (hl j x hj)⟩
theorem NView.row {w : World} {ao : Option Addr} {n cap : Nat} {l : List Int} (h : NView w (.slice ao n cap) l) {j : Nat} {x : Int} (hj : l[j]? = some x) : ∃ g off, ao = some ⟨g, off, none⟩ ∧ w.cell? ⟨g, off + j, none⟩ = some (.int .i64 x) := by
  obtain ⟨ao', cap', e, hc, hm, hl⟩ := h
  cases e
  rcases hl with rfl | ⟨g, off, rfl, hl⟩
  · simp at hj
  · exact ⟨g, off, rfl, hl j x hj⟩
theorem NOwn.view {w : World} {B : Nat} {v : Value} {l : List Int} (h : NOwn w B v l) : NView w v l := by
  by_cases hl : l = []
  · subst hl
    rcases h.2 with ⟨rfl, _⟩ | ⟨g, cap, cur, rfl, _, _, h1, h2, _⟩
    · exact ⟨none, 0, rfl, Nat.le_refl _, by unfold maxLen; omega, .inl rfl⟩
    · exact ⟨_, cap, rfl, h1, h2, .inl rfl⟩
  · obtain ⟨g, cap, cs, rfl, hB, hg, h1, h2, h3, h4⟩ := h.block hl
    exact ⟨_, cap, rfl, h1, h2, .inr ⟨g, 0, rfl, fun j x hj => cell_row hg _ (by rw [Nat.zero_add]; exact h4 j x hj)⟩⟩
theorem NOwn.wk {w : World} {B B' : Nat} {v : Value} {l : List Int} (h : NOwn w B v l) (hB : B' ≤ B) : NOwn w B' v l := own_wk h hB
def putS (n : Int) : List Int → Bool → List Int
  | [], d => if d then [] else [n]
  | y :: r, d => (if decide (n ≤ y) && !d then [n] else []) ++ ((if y = n then [] else [y]) ++ putS n r (d || decide (n ≤ y)))
theorem putS_nil (n : Int) (d : Bool) : putS n [] d = if d then [] else [n] := rfl
theorem putS_cons (n y : Int) (r : List Int) (d : Bool) : putS n (y :: r) d = (if decide (n ≤ y) && !d then [n] else []) ++ ((if y = n then [] else [y]) ++ putS n r (d || decide (n ≤ y))) := rfl
theorem putS_len (n : Int) (l : List Int) (d : Bool) : (putS n l d).length ≤ 2 * l.length + 1 := by
  induction l generalizing d with
  | nil => rw [putS_nil]; split <;> simp
  | cons y r ih =>
    rw [putS_cons, List.length_append, List.length_append]
    have := ih (d || decide (n ≤ y))
    have h1 : (if (decide (n ≤ y) && !d) = true then [n] else ([] : List Int)).length ≤ 1 := by split <;> simp
    have h2 : (if y = n then ([] : List Int) else [y]).length ≤ 1 := by split <;> simp
    simp only [List.length_cons]
    omega
set_option maxRecDepth 8000 in
set_option maxHeartbeats 4000000 in
theorem rput_any (v : Value) (l : List Int) (n : Int) (w : World) (hv : NView w v l) (hl : l.length ≤ 1000000000000) :
    Calls Try.prog 50 #[v, .int .i64 n] w fun e w' => ∃ v', e = .returned v' ∧ NOwn w' w.heap.size v' (putS n l false) ∧ Below w.heap.size w w' := by
  have HV := hidIt hv
  obtain ⟨ao, cap, rfl, hc, hm, _⟩ := hv
  unfold maxLen at hm
  go_enter Try.func50, Try.ntmps50
  go_wp2
  go_loopw [5, 6, 7] (fun o d i wr => ∃ (k : Nat) (acc : List Int) (b : Bool), k ≤ l.length ∧ acc.length ≤ 2 * k ∧ i = .int .i64 (k : Int) ∧ d = .bool b ∧ NOwn wr w.heap.size o acc ∧ Below w.heap.size w wr ∧ acc ++ putS n (l.drop k) b = putS n l false) (fun _ _ i _ => l.length - (intOf i).toNat)
  case atStart => exact ⟨0, [], false, Nat.zero_le _, Nat.le_refl _, rfl, rfl, NOwn.nil _ _, Below.refl _ w, rfl⟩
  case round =>
    obtain ⟨k, acc, b, hk, hacc, rfl, rfl, ho, hb, he⟩ := hrel
    have HO := hidIt ho
    have HB := hidIt hb
    have HE := hidIt he
    have hz := hb.size
    obtain ⟨ao1, cap1, rfl⟩ := own_slice ho
    clear ho hb he
    by_cases hlt : k < l.length
    · have hlt' : (k : Int) < (l.length : Int) := by omega
      obtain ⟨y, hy⟩ : ∃ y, l[k]? = some y := ⟨l[k], List.getElem?_eq_getElem hlt⟩
      obtain ⟨g, off, rfl, c0⟩ := (HV.out.below HB.out).row hy
      have hd : l.drop k = y :: l.drop (k + 1) := by
        rw [List.getElem?_eq_getElem hlt] at hy
        cases hy
        exact List.drop_eq_getElem_cons hlt
      rw [hd] at HE
      have hgl : g < w.heap.size := by
        obtain ⟨ao', cap', e, _, _, hl⟩ := HV.out
        cases e
        rcases hl with rfl | ⟨g', off', e, hl⟩
        · simp at hlt
        · cases e
          exact cell_lt (hl k y hy)
      have HY := hidIt hy
      clear hy hd
      rw [putS_cons] at HE
      have C0 : Hid (w.cell? ⟨g, off + k, none⟩ = some (.int .i64 y)) := (World.cell?_of_block (HB.out.block _ hgl)).symm.trans c0
      clear HV
      by_cases h1 : n ≤ y
      · rw [decide_eq_true h1] at HE
        by_cases h2 : y = n
        · rw [if_pos h2] at HE
          cases b
          all_goals
            go_wp2_with (at_builtin; refine wpList_nappend rfl _ _ rfl w.heap.size _ _ _ HO.out rfl rfl (by first | omega | (simp; omega)) HB.out.size ?_; intro ao1 cap1 w2 ho2 st2; have HB2 := hidIt ((HB.out.trans ((below_alloc _ _).mono HB.out.size)).trans (st2.below (Nat.le_trans HB.out.size (below_alloc _ _).size) (fun k hk => (HO.out.lt k hk).1))); have HO2 := hidIt ho2; (try simp only [List.length_append, List.length_cons, List.length_nil, Nat.zero_add] at HO2); clear HB HO ho2 st2 hz c0; have HB := HB2; have HO := HO2; clear HB2 HO2; have hz := HB.out.size; have c0 := (World.cell?_of_block (HB.out.block _ hgl)).trans C0.out)
            exact ⟨⟨k + 1, _, _, by omega, by first | omega | (simp; omega), by go_num, rfl, HO.out, HB.out, by have := HE.out; simpa using this⟩, by simp [intOf]; omega⟩
        · rw [if_neg h2] at HE
          cases b
          all_goals
            go_wp2_with (at_builtin; refine wpList_nappend rfl _ _ rfl w.heap.size _ _ _ HO.out rfl rfl (by first | omega | (simp; omega)) HB.out.size ?_; intro ao1 cap1 w2 ho2 st2; have HB2 := hidIt ((HB.out.trans ((below_alloc _ _).mono HB.out.size)).trans (st2.below (Nat.le_trans HB.out.size (below_alloc _ _).size) (fun k hk => (HO.out.lt k hk).1))); have HO2 := hidIt ho2; (try simp only [List.length_append, List.length_cons, List.length_nil, Nat.zero_add] at HO2); clear HB HO ho2 st2 hz c0; have HB := HB2; have HO := HO2; clear HB2 HO2; have hz := HB.out.size; have c0 := (World.cell?_of_block (HB.out.block _ hgl)).trans C0.out)
            exact ⟨⟨k + 1, _, _, by omega, by first | omega | (simp; omega), by go_num, rfl, HO.out, HB.out, by have := HE.out; simpa using this⟩, by simp [intOf]; omega⟩
      · rw [decide_eq_false h1] at HE
        have h2 : ¬ y = n := by omega
        rw [if_neg h2] at HE
        cases b
        all_goals
          go_wp2_with (at_builtin; refine wpList_nappend rfl _ _ rfl w.heap.size _ _ _ HO.out rfl rfl (by first | omega | (simp; omega)) HB.out.size ?_; intro ao1 cap1 w2 ho2 st2; have HB2 := hidIt ((HB.out.trans ((below_alloc _ _).mono HB.out.size)).trans (st2.below (Nat.le_trans HB.out.size (below_alloc _ _).size) (fun k hk => (HO.out.lt k hk).1))); have HO2 := hidIt ho2; (try simp only [List.length_append, List.length_cons, List.length_nil, Nat.zero_add] at HO2); clear HB HO ho2 st2 hz c0; have HB := HB2; have HO := HO2; clear HB2 HO2; have hz := HB.out.size; have c0 := (World.cell?_of_block (HB.out.block _ hgl)).trans C0.out)
          exact ⟨⟨k + 1, _, _, by omega, by first | omega | (simp; omega), by go_num, rfl, HO.out, HB.out, by have := HE.out; simpa using this⟩, by simp [intOf]; omega⟩
    · have hlt' : ¬ (k : Int) < (l.length : Int) := by omega
      obtain rfl : k = l.length := by omega
      rw [List.drop_length] at HE
      rw [putS_nil] at HE
      cases b with
      | true =>
        go_wp2
        go_ret
        refine ⟨_, rfl, ?_, HB.out⟩
        have := HE.out
        simp only [if_true, List.append_nil] at this
        rw [← this]
        exact HO.out
      | false =>
        go_wp2_with (at_builtin; refine wpList_nappend rfl _ _ rfl w.heap.size _ _ _ HO.out rfl rfl (by omega) HB.out.size ?_; intro ao2 cap2 w2 ho2 st2; have HO2 := hidIt ho2; have ST2 := hidIt st2; clear ho2 st2)
        go_ret
        refine ⟨_, rfl, ?_, ?_⟩
        · have := HE.out
          simp only [Bool.false_eq_true, if_false] at this
          rw [← this]
          exact HO2.out
        · exact (HB.out.trans ((below_alloc _ _).mono HB.out.size)).trans (ST2.out.below (Nat.le_trans HB.out.size (below_alloc _ _).size) (fun k hk => (HO.out.lt k hk).1))
end Go.Proofs.Ytbmfkbgncjldjaa
