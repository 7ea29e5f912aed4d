/- The book: Stays, the marks. -/
import Derived.Test.YtcmneinhcfejhaaYB
namespace Go.Proofs.Ytcmneinhcfejhaa.KY
open Go.RowKit

set_option maxHeartbeats 2000000 in
theorem stays_any (B pb : Nat) (L W : Value) (held : Int) (its : List It) (w : World) (h : IsBk B pb w L W held its) (hlen : its.length ≤ 2000) :
    Calls Try.prog 39 #[.pointer (some ⟨pb, 0, none⟩)] w fun e w' => e = .returned (.bool true) ∧ Kp B pb w w' ∧ IsBk B pb w' L W held its := by
  obtain ⟨aoL, capL, eL, hcL, hmL⟩ := h.sl.form
  obtain ⟨aoW, capW, eW, hcW, hmW⟩ := h.sw.form
  rw [List.length_map] at eL eW hcL hcW
  subst eL eW
  go_enter Try.func39, Try.ntmps39
  go_wp2_with fail
  go_loopw [3] (fun i wr => ∃ k : Nat, k ≤ its.length ∧ i = .int .i64 (k : Int) ∧ IsBk B pb wr (.slice aoL its.length capL) (.slice aoW its.length capW) held its ∧ Kp B pb w wr) (fun i _ => its.length - (intOf i).toNat)
  case atStart => exact ⟨0, Nat.zero_le _, rfl, h, Kp.refl _ _ _⟩
  case round =>
    clear h
    obtain ⟨k, hk, rfl, HB, HK⟩ := hrel
    have d0 := kc0 HB.blk
    have d1 := kc1 HB.blk
    have d3 := kc3 HB.blk
    have f3 := frozen_row HB.blk 3
    by_cases hlt : k < its.length
    · have hk' : (k : Int) < (its.length : Int) := by omega
      have hk0 : (0 : Int) ≤ (k : Int) := by omega
      obtain ⟨gL, oL, rfl, cL⟩ := HB.sl.cell (j := k) (u := its[k].l) (by simp [hlt])
      obtain ⟨gW, oW, rfl, cW⟩ := HB.sw.cell (j := k) (u := its[k].c) (by simp [hlt])
      have Fp := HB.fine its[k] (by simp)
      generalize its[k] = p at *
      obtain ⟨aop, capp, epl⟩ := own_slice Fp.l
      obtain ⟨aoc', capc', epc⟩ := own_slice Fp.c
      have HSame' : Hid (Calls Try.prog 36 #[.slice aop p.m.length capp, .slice aoc' p.m.length capc'] wr.drew fun e w' => e = .returned (.bool true) ∧ ∃ q, w' = wr.drew.drewN q) := by
        have := bsame_any p.l p.c p.m wr.drew (View.of_own Fp.l Fp.b) (View.of_own Fp.c Fp.b)
        rwa [epl, epc] at this
      rw [epl] at cL
      rw [epc] at cW
      have HB3 : ∀ q6, IsBk B pb ((wr.drewN q6).setCell ⟨pb, 3, none⟩ (.bool false)) (.slice (some ⟨gL, oL, none⟩) its.length capL) (.slice (some ⟨gW, oW, none⟩) its.length capW) held its := fun q6 =>
        have hB' := HB.drew (q := q6)
        ⟨kset3 hB'.blk, hB'.sl.store hB'.blk, hB'.sw.store hB'.blk, hB'.ne, fun p hp => (hB'.fine p hp).kp (Kp.setCell B pb _ 3 _) hB'.no5, hB'.away⟩
      have HK3 : ∀ q6, Kp B pb w ((wr.drewN q6).setCell ⟨pb, 3, none⟩ (.bool false)) := fun q6 => HK.trans ((Kp.drewN B pb wr q6).trans (Kp.setCell B pb _ 3 _))
      have hne1 : gL ≠ pb := by
        obtain ⟨-, cur, hc⟩ := HB.sl.lt gL rfl
        exact other_block hc HB.blk (by decide)
      have hne2 : gW ≠ pb := by
        obtain ⟨-, cur, hc⟩ := HB.sw.lt gW rfl
        exact other_block hc HB.blk (by decide)
      have mkS : Hid (∀ q6, ((wr.drewN q6).setCell ⟨pb, 3, none⟩ (.bool false)).cell? ⟨pb, 0, none⟩ = some (.slice (some ⟨gL, oL, none⟩) its.length capL) ∧ ((wr.drewN q6).setCell ⟨pb, 3, none⟩ (.bool false)).cell? ⟨pb, 1, none⟩ = some (.slice (some ⟨gW, oW, none⟩) its.length capW) ∧ ((wr.drewN q6).setCell ⟨pb, 3, none⟩ (.bool false)).cell? ⟨pb, 3, none⟩ = some (.bool false) ∧ ((wr.drewN q6).setCell ⟨pb, 3, none⟩ (.bool false)).cell? ⟨gL, oL + k, none⟩ = some (.slice aop p.m.length capp) ∧ ((wr.drewN q6).setCell ⟨pb, 3, none⟩ (.bool false)).cell? ⟨gW, oW + k, none⟩ = some (.slice aoc' p.m.length capc')) := by
        intro q6
        refine ⟨kc0 (HB3 q6).blk, kc1 (HB3 q6).blk, kc3 (HB3 q6).blk, ?_, ?_⟩
        · rw [World.cell?_of_block (a := ⟨gL, oL + k, none⟩) (w := wr.drewN q6) (Below.heap_setCell _ _ _ _ hne1)]
          exact cL
        · rw [World.cell?_of_block (a := ⟨gW, oW + k, none⟩) (w := wr.drewN q6) (Below.heap_setCell _ _ _ _ hne2)]
          exact cW
      have HH3 := hidIt HB3
      have HI3 := hidIt HK3
      clear HB3 HK3 HB HK
      go_wp2_with fail
      go_region_held3 (fun W => W.cell? ⟨pb, 0, none⟩ = some (.slice (some ⟨gL, oL, none⟩) its.length capL) ∧ W.cell? ⟨pb, 1, none⟩ = some (.slice (some ⟨gW, oW, none⟩) its.length capW) ∧ W.cell? ⟨pb, 3, none⟩ = some (.bool false) ∧ W.cell? ⟨gL, oL + k, none⟩ = some (.slice aop p.m.length capp) ∧ W.cell? ⟨gW, oW + k, none⟩ = some (.slice aoc' p.m.length capc')) (first | exact mkS.out _ | go_keep)
        (first
          | (go_at_call 36; refine HSame'.out.mono ?_; rintro e w6 ⟨rfl, q6, rfl⟩))
      have HB4 := HH3.out (1 + q6)
      have HK4 := HI3.out (1 + q6)
      go_wp2
      exact ⟨⟨k + 1, by omega, by go_num, HB4, HK4⟩, by simp [intOf]; omega⟩
    · have hk' : ¬ (k : Int) < (its.length : Int) := by omega
      go_wp2
      go_ret
      exact ⟨rfl, HK, HB⟩

/-- The mark of place j in list i. -/
def mrk (i j : Nat) : Int := ((i : Int) + 1) / 2 ^ (8 * (j % 3)) % 256

theorem run_shrm (w : World) (n : Int) (k : Nat) (hk : k ≤ 2) : (Op.shift .shr .i64 n .u64 (8 * (k : Int))).run Try.prog w = .ok (.int .i64 (n / 2 ^ (8 * k))) w := by
  have h1 : ¬ (8 * (k : Int) < 0) := by omega
  have h2 : min (8 * (k : Int)).toNat IntKind.i64.bits = 8 * k := by simp [IntKind.bits]; omega
  have h3 : (0 : Int) ≤ 2 ^ (8 * k) := Int.pow_nonneg (by decide)
  simp only [Op.shift, if_neg h1, h2, Sem.run_pure, Int.fdiv_eq_ediv_of_nonneg _ h3]

set_option maxHeartbeats 800000 in
theorem mark_any (i j : Nat) (w : World) (hi : i ≤ 1000000) (hj : j ≤ maxLen) :
    Calls Try.prog 31 #[.int .i64 (i : Int), .int .i64 (j : Int)] w fun e w' => e = .returned (.int .u8 (mrk i j)) ∧ w' = w := by
  unfold maxLen at hj
  have hr : (j : Int).tmod 3 = ((j % 3 : Nat) : Int) := by
    rw [Int.tmod_eq_emod_of_nonneg (by omega)]; omega
  unfold mrk
  have h3 : j % 3 < 3 := Nat.mod_lt _ (by decide)
  generalize j % 3 = r at *
  have hsh := run_shrm w ((i : Int) + 1) r (by omega)
  go_enter Try.func31, Try.ntmps31
  go_wp2
  go_ret
  exact ⟨rfl, rfl⟩
end Go.Proofs.Ytcmneinhcfejhaa.KY
