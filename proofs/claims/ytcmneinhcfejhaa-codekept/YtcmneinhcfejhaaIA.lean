/- The book: Stays, the marks. -/
import Derived.Test.YtcmneinhcfejhaaIB
import Derived.Test.YtcmneinhcfejhaaR
namespace Go.Proofs.Ytcmneinhcfejhaa.KI
open Go.RowKit

set_option maxRecDepth 20000 in
set_option maxHeartbeats 2000000 in
theorem stays_any (B pb : Nat) (L W : Value) (held : Int) (its : List It) (w : World) (h : IsBk B pb w L W held its) (hlen : its.length ≤ 2000) :
    Calls Try.prog 38 #[.pointer (some ⟨pb, 0, none⟩)] w fun e w' => e = .returned (.bool true) ∧ Kp B pb w w' ∧ IsBk B pb w' L W held its := by
  obtain ⟨aoL, capL, eL, hcL, hmL⟩ := h.sl.form
  obtain ⟨aoW, capW, eW, hcW, hmW⟩ := h.sw.form
  rw [List.length_map] at eL eW hcL hcW
  subst eL eW
  go_enter Try.func38, Try.ntmps38
  go_wp2_with fail
  go_loopw [3] (fun i wr => ∃ k : Nat, k ≤ its.length ∧ i = .int .i64 (k : Int) ∧ IsBk B pb wr (.slice aoL its.length capL) (.slice aoW its.length capW) held its ∧ Kp B pb w wr) (fun i _ => its.length - (intOf i).toNat)
  case atStart => exact ⟨0, Nat.zero_le _, rfl, h, Kp.refl _ _ _⟩
  case round =>
    clear h
    obtain ⟨k, hk, rfl, HB, HK⟩ := hrel
    have d0 := kc0 HB.blk
    have d1 := kc1 HB.blk
    have d3 := kc3 HB.blk
    have f3 := frozen_row HB.blk 3
    by_cases hlt : k < its.length
    · have hk' : (k : Int) < (its.length : Int) := by omega
      have hk0 : (0 : Int) ≤ (k : Int) := by omega
      obtain ⟨gL, oL, rfl, cL⟩ := HB.sl.cell (j := k) (u := its[k].l) (by simp [hlt])
      obtain ⟨gW, oW, rfl, cW⟩ := HB.sw.cell (j := k) (u := its[k].c) (by simp [hlt])
      have Fp := HB.fine its[k] (by simp)
      generalize its[k] = p at *
      obtain ⟨aop, capp, epl⟩ := own_slice Fp.l
      obtain ⟨aoc', capc', epc⟩ := own_slice Fp.c
      have HSame' : Hid (Calls Try.prog 23 #[.slice aop p.m.length capp, .slice aoc' p.m.length capc'] wr.drew fun e w' => e = .returned (.bool true) ∧ ∃ q, w' = wr.drew.drewN q) := by
        have := isame_any p.l p.c p.m wr.drew (VO Fp.l Fp.b) (VO Fp.c Fp.b)
        rwa [epl, epc] at this
      rw [epl] at cL
      rw [epc] at cW
      have HB3 : ∀ q6, IsBk B pb ((wr.drewN q6).setCell ⟨pb, 3, none⟩ (.bool false)) (.slice (some ⟨gL, oL, none⟩) its.length capL) (.slice (some ⟨gW, oW, none⟩) its.length capW) held its := fun q6 =>
        have hB' := HB.drew (q := q6)
        ⟨kset3 hB'.blk, hB'.sl.store hB'.blk, hB'.sw.store hB'.blk, hB'.ne, fun p hp => (hB'.fine p hp).kp (Kp.setCell B pb _ 3 _) hB'.no5, hB'.away⟩
      have HK3 : ∀ q6, Kp B pb w ((wr.drewN q6).setCell ⟨pb, 3, none⟩ (.bool false)) := fun q6 => HK.trans ((Kp.drewN B pb wr q6).trans (Kp.setCell B pb _ 3 _))
      have hne1 : gL ≠ pb := by
        obtain ⟨-, cur, hc⟩ := HB.sl.lt gL rfl
        exact other_block hc HB.blk (by decide)
      have hne2 : gW ≠ pb := by
        obtain ⟨-, cur, hc⟩ := HB.sw.lt gW rfl
        exact other_block hc HB.blk (by decide)
      have mkS : Hid (∀ q6, ((wr.drewN q6).setCell ⟨pb, 3, none⟩ (.bool false)).cell? ⟨pb, 0, none⟩ = some (.slice (some ⟨gL, oL, none⟩) its.length capL) ∧ ((wr.drewN q6).setCell ⟨pb, 3, none⟩ (.bool false)).cell? ⟨pb, 1, none⟩ = some (.slice (some ⟨gW, oW, none⟩) its.length capW) ∧ ((wr.drewN q6).setCell ⟨pb, 3, none⟩ (.bool false)).cell? ⟨pb, 3, none⟩ = some (.bool false) ∧ ((wr.drewN q6).setCell ⟨pb, 3, none⟩ (.bool false)).cell? ⟨gL, oL + k, none⟩ = some (.slice aop p.m.length capp) ∧ ((wr.drewN q6).setCell ⟨pb, 3, none⟩ (.bool false)).cell? ⟨gW, oW + k, none⟩ = some (.slice aoc' p.m.length capc')) := by
        intro q6
        refine ⟨kc0 (HB3 q6).blk, kc1 (HB3 q6).blk, kc3 (HB3 q6).blk, ?_, ?_⟩
        · rw [World.cell?_of_block (a := ⟨gL, oL + k, none⟩) (w := wr.drewN q6) (Below.heap_setCell _ _ _ _ hne1)]
          exact cL
        · rw [World.cell?_of_block (a := ⟨gW, oW + k, none⟩) (w := wr.drewN q6) (Below.heap_setCell _ _ _ _ hne2)]
          exact cW
      have HH3 := hidIt HB3
      have HI3 := hidIt HK3
      clear HB3 HK3 HB HK
      go_wp2_with fail
      go_region_held3 (fun W => W.cell? ⟨pb, 0, none⟩ = some (.slice (some ⟨gL, oL, none⟩) its.length capL) ∧ W.cell? ⟨pb, 1, none⟩ = some (.slice (some ⟨gW, oW, none⟩) its.length capW) ∧ W.cell? ⟨pb, 3, none⟩ = some (.bool false) ∧ W.cell? ⟨gL, oL + k, none⟩ = some (.slice aop p.m.length capp) ∧ W.cell? ⟨gW, oW + k, none⟩ = some (.slice aoc' p.m.length capc')) (first | exact mkS.out _ | go_keep)
        (first
          | (go_at_call 23; refine HSame'.out.mono ?_; rintro e w6 ⟨rfl, q6, rfl⟩))
      have HB4 := HH3.out (1 + q6)
      have HK4 := HI3.out (1 + q6)
      go_wp2
      exact ⟨⟨k + 1, by omega, by go_num, HB4, HK4⟩, by simp [intOf]; omega⟩
    · have hk' : ¬ (k : Int) < (its.length : Int) := by omega
      go_wp2
      go_ret
      exact ⟨rfl, HK, HB⟩

/-- The mark of place j of list i. -/
def mkN (i j : Nat) : Int := wrap64 (wrap64 (-1000 - wrap64 ((i : Int) * 50)) - (j : Int))
def numI (N : Int) : IN := ⟨N, 0, 0, 0⟩
theorem res4 {w1 : World} {r : Nat} {x0 x1 x2 x3 : Value} (h : w1.heap[r]? = some (.cells #[x0, x1, x2, x3] 33 (0, 0))) (a b c d : Value) :
    ((((w1.setCell ⟨r, 0, none⟩ a).setCell ⟨r, 1, none⟩ b).setCell ⟨r, 2, none⟩ c).setCell ⟨r, 3, none⟩ d).heap[r]? = some (.cells #[a, b, c, d] 33 (0, 0)) := by
  have h1 := set_row (j := 0) (u := a) h
  have h2 := set_row (j := 1) (u := b) h1
  have h3 := set_row (j := 2) (u := c) h2
  have h4 := set_row (j := 3) (u := d) h3
  exact h4
set_option maxRecDepth 20000 in
set_option maxHeartbeats 800000 in
theorem mark_any (i j : Nat) (w : World) :
    Calls Try.prog 29 #[.int .i64 (i : Int), .int .i64 (j : Int)] w fun e w' => e = .returned (numI (mkN i j)).val ∧ Below w.heap.size w w' := by
  obtain ⟨N, hN⟩ : ∃ N, Hid (mkN i j = N) := ⟨_, rfl⟩
  rw [show mkN i j = N from hN.out]
  have HN := fun n w => hidIt (i_any ⟨n, 0, 0, 0⟩ w)
  have b1 : Below w.heap.size w (w.alloc (.cells #[.int .i64 0, .int .i64 0, .int .i64 0, .int .i64 0] 33)) := (Below.refl _ _).alloc (Nat.le_refl _) _
  unfold numI
  unfold IN.val at HN ⊢
  simp only at HN ⊢
  go_enter Try.func29, Try.ntmps29
  go_wp2_with fail
  refine (HN _ _).out.mono ?_
  rintro e w2 ⟨rfl, b2⟩
  have hb0 : (w.alloc (.cells #[.int .i64 0, .int .i64 0, .int .i64 0, .int .i64 0] 33)).heap[w.heap.size]? = some (.cells #[.int .i64 0, .int .i64 0, .int .i64 0, .int .i64 0] 33 (0, 0)) := heap_alloc_new w _
  have hb2 := (b2.block w.heap.size (by simp)).trans hb0
  have c0 := cell_row hb2 0 rfl
  have c1 := cell_row hb2 1 rfl
  have c2 := cell_row hb2 2 rfl
  have c3 := cell_row hb2 3 rfl
  have f0 := frozen_row hb2
  have B2 : Below w.heap.size w w2 := b1.trans (b2.mono (by simp))
  rw [show wrap64 (wrap64 (-1000 - wrap64 ((i : Int) * 50)) - (j : Int)) = N from hN.out]
  have H5 := hidIt (res4 hb2 (.int .i64 N) (.int .i64 0) (.int .i64 0) (.int .i64 0))
  have HB := hidIt (set_below (set_below (set_below (set_below B2 (Nat.le_refl _) 0 (.int .i64 N)) (Nat.le_refl _) 1 (.int .i64 0)) (Nat.le_refl _) 2 (.int .i64 0)) (Nat.le_refl _) 3 (.int .i64 0))
  clear hb0 hb2 b1 b2 B2
  go_wp2_with fail
  generalize (((w2.setCell ⟨w.heap.size, 0, none⟩ (.int .i64 N)).setCell ⟨w.heap.size, 1, none⟩ (.int .i64 0)).setCell ⟨w.heap.size, 2, none⟩ (.int .i64 0)).setCell ⟨w.heap.size, 3, none⟩ (.int .i64 0) = w3 at *
  refine bodyPost_ret (results_cell_row rfl _ _ w.heap.size 33 _ (0, 0) _ rfl H5.out Try.underlying33 rfl (by kernel_rfl)) rfl ?_
  exact ⟨rfl, HB.out⟩
end Go.Proofs.Ytcmneinhcfejhaa.KI
