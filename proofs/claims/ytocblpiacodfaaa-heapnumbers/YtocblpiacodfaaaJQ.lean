/- HeapShapes: walked. -/
import Derived.Test.YtocblpiacodfaaaJP
import Derived.Test.YtocblpiacodfaaaJL
import Derived.Deep.CutRange
namespace Go.Proofs.Ytocblpiacodfaaa.J
open Go.RowKit Go.MapKept Go.ChangeMaps
set_option linter.unusedVariables false

theorem hp_shape {n0 : Nat} {w : World} {p most : Nat} {l : List Ob} {ss : List (List Bool)} (h : Hp n0 w p most l ss) (v : Value) (r : List Bool) (hv : BView w v r) (hr : r.length ≤ 100000) (hs : ss.length ≤ 100000) : Calls Try.prog 8 #[.pointer (some ⟨p, 0, none⟩), v] w fun e w' => e = .returned (.int .i64 (numS ss r : Int)) ∧ Hp n0 w' p most l (addS ss r) ∧ HpS n0 w w' := by
  have hlo := h.lo
  obtain ⟨H, rfl, h⟩ := h
  cases e : idxS ss r with
  | some i => exact (Shape_old h v r hv hr i e).mono fun _ w' ⟨e1, e2⟩ => ⟨by rw [e1]; unfold numS; rw [e], ⟨H, rfl, by unfold addS; rw [e]; exact h.below e2⟩, HpS.of_below hlo e2⟩
  | none => exact (Shape_new h v r hv hr hs e).mono fun _ w' ⟨e1, H', e2, e3⟩ => ⟨by rw [e1]; unfold numS; rw [e], ⟨H', e3.hb, e2⟩, HpS.of h e3⟩
theorem addS_nodup {ss : List (List Bool)} (h : ss.Nodup) (r : List Bool) : (addS ss r).Nodup := by
  unfold addS
  cases e : idxS ss r with
  | some i => exact h
  | none =>
    have := idxS_none e
    rw [List.nodup_append]
    exact ⟨h, by simp, fun a ha b hb => by
      obtain rfl : b = r := by simpa using hb
      intro e; subst e; exact this ha⟩
theorem numS_le (ss : List (List Bool)) (r : List Bool) : numS ss r ≤ ss.length := by
  unfold numS
  cases e : idxS ss r with
  | some i => exact Nat.le_of_lt (List.getElem?_eq_some_iff.1 (idxS_some e)).1
  | none => exact Nat.le_refl _
theorem nodup_at {α : Type} {l : List α} (h : l.Nodup) {i j : Nat} {x : α} (hi : l[i]? = some x) (hj : l[j]? = some x) : i = j := by
  obtain ⟨h1, e1⟩ := List.getElem?_eq_some_iff.1 hi
  obtain ⟨h2, e2⟩ := List.getElem?_eq_some_iff.1 hj
  rw [List.nodup_iff_pairwise_ne, List.pairwise_iff_getElem] at h
  rcases Nat.lt_trichotomy i j with hl | hl | hl
  · exact absurd (e1.trans e2.symm) (h i j h1 h2 hl)
  · exact hl
  · exact absurd (e2.trans e1.symm) (h j i h2 h1 hl)
theorem numS_iff {ss : List (List Bool)} (h : ss.Nodup) {r s : List Bool} {m : Nat} (hm : ss[m]? = some s) : (m = numS ss r) ↔ (r = s) := by
  constructor
  · intro e
    have h1 := addS_at ss r
    rw [← e, addS_old hm] at h1
    exact (Option.some.inj h1).symm
  · intro e
    subst e
    exact nodup_at (addS_nodup h r) (addS_old hm) (addS_at ss r)
set_option maxRecDepth 8000 in
set_option maxHeartbeats 4000000 in
theorem shapes_any (vs : Value) (ls : List (List Bool)) (w : World) (hs : GV w vs ls) : Calls Try.prog 6 #[vs] w fun e w' => e = .returned (.bool true) ∧ Below w.heap.size w w' := by
  have HS := hidIt hs
  obtain ⟨ao, cap, rfl, hc, hm, _⟩ := hs
  unfold maxLen at hm
  have GN := hidIt (hp_new 2000 (by decide) (by decide) w)
  go_enter Try.func6, Try.ntmps6
  go_wp2_with (go_at_call 7; refine GN.out.mono ?_; rintro e w' ⟨p, rfl, hv, hb⟩; have HB := hidIt hb; have HV := hidIt hv; clear GN hv hb)
  go_loopw [5, 6, 7] (fun ids most i wr => ∃ (k : Nat) (vals : List Int) (ss : List (List Bool)) (l : List Ob), k ≤ 20 ∧ k ≤ ls.length ∧ i = .int .i64 (k : Int) ∧ most = .int .i64 ((ss.length : Int) - 1) ∧ NOwn wr w.heap.size ids vals ∧ vals.length = k ∧ ss.length ≤ k ∧ usedN l ≤ 11 * k ∧ ss.Nodup ∧ (∀ j x, ls[j]? = some x → j < k → ∃ m : Nat, vals[j]? = some (m : Int) ∧ ss[m]? = some (x.take 8)) ∧ Hp w.heap.size wr p 2000 l ss ∧ Below w.heap.size w wr) (fun _ _ i _ => 20 - (intOf i).toNat)
  case atStart => exact ⟨0, [], [], [], Nat.zero_le _, Nat.zero_le _, rfl, rfl, NOwn.nil _ _, rfl, Nat.le_refl _, Nat.le_refl _, List.nodup_nil, fun j x _ h => absurd h (by omega), HV.out, HB.out⟩
  case round =>
    clear HV HB
    obtain ⟨k, vals, ss, l, hk6, hks, rfl, rfl, ho, hvl, hsl, hul, hnd, hat, hv, hb⟩ := hrel
    have HO := hidIt ho
    have HV := hidIt hv
    have HB := hidIt hb
    have HN := hidIt hnd
    have HT := hidIt hat
    have HVL := hidIt hvl
    obtain ⟨ao2, cap2, rfl⟩ := own_slice ho
    have hvl2 : vals.length ≤ 20 := by omega
    clear ho hv hb hnd hat hvl
    have hz : w.heap.size ≤ wr.heap.size := HB.out.size
    by_cases hgo : k < ls.length ∧ k < 20
    · obtain ⟨h1, h2⟩ := hgo
      obtain ⟨x, hx⟩ : ∃ x, ls[k]? = some x := ⟨ls[k], List.getElem?_eq_getElem h1⟩
      obtain ⟨g, off, u, rfl, c00, bv⟩ := HS.out.row hx
      have c0 := cell_later HB.out c00
      have HBV := hidIt bv
      obtain ⟨a, c, rfl, bc, bm, -⟩ := bv
      have h1' : (k : Int) < (ls.length : Int) := by omega
      have h2' : (k : Int) < 20 := by omega
      unfold maxLen at bm
      have HBY : Hid (BView w (.slice a (x.take 8).length c) (x.take 8)) := hidIt (by
        have h0 : (x.take 8).length ≤ x.length := by rw [List.length_take]; omega
        have := HBV.out.take (x.take 8).length h0
        rwa [show x.take (x.take 8).length = x.take 8 by rw [List.length_take]; by_cases e : x.length ≤ 8; rw [Nat.min_eq_right e, List.take_length, List.take_of_length_le e]; rw [Nat.min_eq_left (by omega)]] at this)
      have HYX : Hid (∀ j z, ls[j]? = some z → j = k → z.take 8 = x.take 8) := hidIt (fun j z hj e => by subst e; rw [hx] at hj; cases hj; rfl)
      have hyl := hidIt (List.length_take (i := 8) (l := x))
      have HT1 : Hid (∀ j z, ls[j]? = some z → j = k → z = x) := hidIt (fun j z hj e => by subst e; rw [hx] at hj; cases hj; rfl)
      clear hx c00
      go_upto_if 41 with (fail)
      go_cut [8] from 41 to 43 (fun v wx => v = .slice a (x.take 8).length c ∧ wx = wr)
      case first =>
        by_cases hx8 : 8 < x.length
        · have hx8' : (8 : Int) < (x.length : Int) := by omega
          have h8c : (8 : Int) ≤ (c : Int) := by omega
          have h8c' : 8 ≤ c := by omega
          have HE : Hid ((x.take 8).length = 8) := hidIt (by rw [hyl.out]; omega)
          clear HT HS
          go_wp2_with fail
          go_meet
          exact ⟨by rw [HE.out], rfl⟩
        · have hx8' : ¬ (8 : Int) < (x.length : Int) := by omega
          have HE : Hid ((x.take 8).length = x.length) := hidIt (by rw [hyl.out]; omega)
          clear HT HS
          go_wp2_with fail
          go_meet
          exact ⟨by rw [HE.out], rfl⟩
      case rest =>
        obtain ⟨rfl, hwc⟩ := hcut
        obtain rfl : wr = wc := hwc.symm
        have GS := hidIt (hp_shape HV.out _ _ (HBY.out.below HB.out) (by rw [hyl.out]; omega) (by omega))
        have HTA := hidIt (fun (m : Nat) s (hm : ss[m]? = some s) => numS_iff HN.out (r := x.take 8) hm)
        have HND := hidIt (addS_nodup HN.out (x.take 8))
        have HAT := hidIt (addS_at ss (x.take 8))
        have HOLD := hidIt (fun (s : List Bool) (i : Nat) (h : ss[i]? = some s) => addS_old (r := x.take 8) h)
        have hF : Hid ((numS ss (x.take 8) < ss.length ∧ (addS ss (x.take 8)).length = ss.length) ∨ (numS ss (x.take 8) = ss.length ∧ (addS ss (x.take 8)).length = ss.length + 1)) := hidIt (by
          unfold numS addS
          cases e : idxS ss (x.take 8) with
          | some i => left; exact ⟨(List.getElem?_eq_some_iff.1 (idxS_some e)).1, rfl⟩
          | none => right; exact ⟨rfl, by simp⟩)
        have hy8 : (x.take 8).length ≤ 8 := by rw [hyl.out]; omega
        have hNl : numS ss (x.take 8) ≤ ss.length := numS_le _ _
        generalize x.take 8 = y at *
        generalize numS ss y = N at *
        generalize hL2 : (addS ss y).length = L2 at *
        have HL2 := hidIt hL2
        clear hL2
        generalize addS ss y = ss2 at *
        generalize hSS : ss.length = S at *
        have HSS := hidIt hSS
        clear hSS
        have hS20 : (S : Int) ≤ 20 := by omega
        have t1 : ¬ S < N := by omega
        have t0 : ¬ (N : Int) < 0 := by omega
        clear hyl HT1
        go_upto_if 57 with (go_at_call 8; refine GS.out.mono ?_; rintro e w2 ⟨rfl, hv2, hs2⟩; have HV2 := hidIt hv2; have HS2 := hidIt hs2; have HB2 := hidIt (HB.out.trans (hs2.below _ (Nat.le_refl _))); have HO2 := hidIt (hs2.nown HO.out); clear hv2 hs2 GS)
        go_cut [6] from 57 to 59 (fun v wx => v = .int .i64 ((L2 : Int) - 1) ∧ wx = w2)
        case first =>
          rcases hF.out with ⟨hN1, hL⟩ | ⟨hN1, hL⟩
          · have t3 : ¬ (S : Int) - 1 < (N : Int) := by omega
            clear HS HT
            go_wp2_with fail
            go_meet
            exact ⟨by rw [hL], rfl⟩
          · have t3 : (S : Int) - 1 < (N : Int) := by omega
            clear HS HT
            go_wp2_with fail
            go_meet
            exact ⟨by rw [hL, hN1]; go_num, rfl⟩
        case rest =>
          obtain ⟨rfl, hwc⟩ := hcut
          obtain rfl : w2 = wc := hwc.symm
          have hz2 : w.heap.size ≤ w2.heap.size := HB2.out.size
          clear t0 t1 hNl
          go_wp2_with fail
          obtain ⟨V, hV⟩ : ∃ V, V = wr := ⟨wr, rfl⟩
          subst hV
          go_loopw [10] (fun kv W => ∃ (j q : Nat), j ≤ k ∧ kv = .int .i64 (j : Int) ∧ W = w2.drewN q) (fun kv _ => k - (intOf kv).toNat)
          case atStart => exact ⟨0, 0, Nat.zero_le _, rfl, rfl⟩
          case round =>
            obtain ⟨j, q, hj, rfl, hW⟩ := hrel
            obtain ⟨W1, hW1⟩ : ∃ W, W = wr := ⟨wr, rfl⟩
            subst hW1
            have HW := hidIt hW
            have HBW : Hid (Below w.heap.size w W1) := hidIt (by rw [hW]; exact below_drewN HB2.out q)
            have HW2 : Hid (Below w2.heap.size w2 W1) := hidIt (by rw [hW]; exact below_drewN (Below.refl _ _) q)
            clear hW
            by_cases hjk : j < k
            · have hjk' : (j : Int) < (k : Int) := by omega
              have hjl : (j : Int) < (ls.length : Int) := by omega
              obtain ⟨z, hzj⟩ : ∃ z, ls[j]? = some z := ⟨ls[j]'(by omega), List.getElem?_eq_getElem _⟩
              obtain ⟨g', off', uz, eg, d00, bz⟩ := HS.out.row hzj
              have d0 := cell_later HBW.out d00
              cases eg
              have HBZ := hidIt bz
              obtain ⟨a', c', rfl, bc', bm', -⟩ := bz
              unfold maxLen at bm'
              obtain ⟨m, hm1, hm2⟩ := HT.out j z hzj hjk
              have hiff := hidIt (HTA.out m _ hm2)
              have hmo := HO2.out
              unfold NOwn at hmo
              obtain ⟨g3, e3, -, -, d1, -⟩ := own_cell hmo (icells_at hm1)
              have d1' : W1.cell? ⟨g3, j, none⟩ = some (.int .i64 (m : Int)) := cell_later HW2.out d1
              cases e3
              have hjv : j < vals.length := (List.getElem?_eq_some_iff.1 hm1).1
              have hjv' : (j : Int) < (vals.length : Int) := by omega
              have HBY2 : Hid (BView w (.slice a' (z.take 8).length c') (z.take 8)) := hidIt (by
                have h0 : (z.take 8).length ≤ z.length := by rw [List.length_take]; omega
                have := HBZ.out.take (z.take 8).length h0
                rwa [show z.take (z.take 8).length = z.take 8 by rw [List.length_take]; by_cases e : z.length ≤ 8; rw [Nat.min_eq_right e, List.take_length, List.take_of_length_le e]; rw [Nat.min_eq_left (by omega)]] at this)
              have hzl := hidIt (List.length_take (i := 8) (l := z))
              clear d1 hm1 hm2 hmo hzj d00
              go_upto_if 70 with (fail)
              go_cut [11] from 70 to 73 (fun v wx => v = .slice a' (z.take 8).length c' ∧ wx = W1)
              case first =>
                by_cases hx8 : 8 < z.length
                · have hx8' : (8 : Int) < (z.length : Int) := by omega
                  have h8c : (8 : Int) ≤ (c' : Int) := by omega
                  have h8c' : 8 ≤ c' := by omega
                  have HE : Hid ((z.take 8).length = 8) := hidIt (by rw [hzl.out]; omega)
                  clear HT HS HTA HOLD HYX
                  go_wp2_with fail
                  go_meet
                  exact ⟨by rw [HE.out], rfl⟩
                · have hx8' : ¬ (8 : Int) < (z.length : Int) := by omega
                  have HE : Hid ((z.take 8).length = z.length) := hidIt (by rw [hzl.out]; omega)
                  clear HT HS HTA HOLD HYX
                  go_wp2_with fail
                  go_meet
                  exact ⟨by rw [HE.out], rfl⟩
              case rest =>
                obtain ⟨rfl, hwc⟩ := hcut
                obtain rfl : W1 = wc := hwc.symm
                clear hzl
                generalize List.take 8 z = zt at *
                have HSM := hidIt (fun n => bsame_any _ _ _ _ (W1.drewN n) ((HBY.out.below HBW.out).drewN n) ((HBY2.out.below HBW.out).drewN n))
                generalize hbb : decide (y = zt) = b at *
                have hmN : ((m : Int) == (N : Int)) = b := by
                  rw [← hbb]
                  by_cases e : m = N
                  · rw [decide_eq_true (hiff.out.1 e), e]; simp
                  · rw [decide_eq_false (fun h => e (hiff.out.2 h))]
                    simp only [beq_eq_false_iff_ne, ne_eq]
                    omega
                clear hbb
                clear HS HT HTA HOLD HYX HND HV HV2 HAT HN
                cases b with
                | false =>
                  go_wp2_with fail
                  go_quiet ((go_at_call 35; exact Calls.quiet_of (HSM.out _)))
                  go_wp2_with fail
                  exact ⟨⟨j + 1, q + nq, by omega, by go_num, by rw [HW.out, World.drewN_drewN]⟩, by simp [intOf]; omega⟩
                | true =>
                  go_wp2_with fail
                  go_quiet ((go_at_call 35; exact Calls.quiet_of (HSM.out _)))
                  go_wp2_with fail
                  exact ⟨⟨j + 1, q + nq, by omega, by go_num, by rw [HW.out, World.drewN_drewN]⟩, by simp [intOf]; omega⟩
            · have hjk' : ¬ (j : Int) < (k : Int) := by omega
              obtain rfl : j = k := by omega
              have HV3 := hidIt (HV2.out.below HW2.out)
              have HO3 := hidIt (own_below HO2.out HW2.out)
              have hz3 : w.heap.size ≤ W1.heap.size := HBW.out.size
              obtain ⟨o, hoo⟩ : ∃ o : Ob, o = ⟨(N : Int), 0, List.replicate y.length 0⟩ := ⟨_, rfl⟩
              have GO : Hid (∀ W, Hp w.heap.size W p 2000 l ss2 → Calls Try.prog 9 #[.pointer (some ⟨p, 0, none⟩), .int .i64 (N : Int)] W fun e w' => e = .returned (.tuple #[.int .i64 ((usedN l : Int) + 1), .int .i64 0]) ∧ Hp w.heap.size w' p 2000 (l ++ [o]) ss2 ∧ HpS w.heap.size W w') := hidIt (fun W h => by rw [hoo]; exact hp_object h N y HAT.out (by omega) (by omega))
              have GL : Hid (∀ W, Hp w.heap.size W p 2000 (l ++ [o]) ss2 → Calls Try.prog 33 #[.pointer (some ⟨p, 0, none⟩), .int .i64 ((usedN l : Int) + 1)] W fun e w' => e = .returned (.int .i64 (y.length : Int)) ∧ w' = W) := hidIt (fun W h => by
                have := hp_len h ((usedN l : Int) + 1)
                unfold lenZ at this
                rw [objZ_snoc] at this
                rw [hoo] at this
                simpa using this)
              have GSh : Hid (∀ W, Hp w.heap.size W p 2000 (l ++ [o]) ss2 → Calls Try.prog 18 #[.pointer (some ⟨p, 0, none⟩), .int .i64 ((usedN l : Int) + 1)] W fun e w' => e = .returned (.int .i64 (N : Int)) ∧ w' = W) := hidIt (fun W h => by
                have := hp_shp h ((usedN l : Int) + 1)
                unfold shpZ at this
                rw [objZ_snoc] at this
                rw [hoo] at this
                exact this)
              have GR : Hid (∀ W, Hp w.heap.size W p 2000 (l ++ [o]) ss2 → ∀ (i : Nat) b, y[i]? = some b → Calls Try.prog 36 #[.pointer (some ⟨p, 0, none⟩), .int .i64 ((usedN l : Int) + 1), .int .i64 (i : Int)] W fun e w' => e = .returned (.bool b) ∧ w' = W) := hidIt (fun W h i b hb => by
                have := hp_isref h ((usedN l : Int) + 1) (i : Int)
                have hil := (List.getElem?_eq_some_iff.1 hb).1
                have hh : hasZ (l ++ [o]) ((usedN l : Int) + 1) (i : Int) = true := hasZ_of (objZ_snoc l o) (by omega) (by rw [hoo]; simpa using hil)
                unfold refZ shpZ at this
                rw [hh, objZ_snoc] at this
                rw [hoo] at this
                simp only [Bool.true_and, Int.toNat_natCast, HAT.out, Option.getD_some, hb] at this
                rwa [if_neg (by omega)] at this)
              have hyU : (usedN l : Int) ≤ 2000 := by have := HV2.out.small; omega
              have HLO : Hid (usedN (l ++ [o]) ≤ 11 * (j + 1)) := hidIt (by rw [usedN_append, hoo]; simp [usedN]; omega)
              have NX : Hid (∀ W v, NOwn W w.heap.size v (vals ++ [(N : Int)]) → Hp w.heap.size W p 2000 (l ++ [o]) ss2 → Below w.heap.size w W → ∃ (k' : Nat) (vals' : List Int) (ss' : List (List Bool)) (l' : List Ob), k' ≤ 20 ∧ k' ≤ ls.length ∧ Value.int .i64 ((j : Int) + 1) = .int .i64 (k' : Int) ∧ Value.int .i64 ((L2 : Int) - 1) = .int .i64 ((ss'.length : Int) - 1) ∧ NOwn W w.heap.size v vals' ∧ vals'.length = k' ∧ ss'.length ≤ k' ∧ usedN l' ≤ 11 * k' ∧ ss'.Nodup ∧ (∀ j x, ls[j]? = some x → j < k' → ∃ m : Nat, vals'[j]? = some (m : Int) ∧ ss'[m]? = some (x.take 8)) ∧ Hp w.heap.size W p 2000 l' ss' ∧ Below w.heap.size w W) := hidIt (fun W v a b c => ⟨j + 1, vals ++ [(N : Int)], ss2, l ++ [o], by omega, by omega, by go_num, by rw [HL2.out], a, by rw [List.length_append, HVL.out]; rfl, by rw [HL2.out]; rcases hF.out with h | h <;> omega, HLO.out, HND.out, fun i z hz hi => by
                by_cases e : i = j
                · exact ⟨N, by subst e; rw [← HVL.out, List.getElem?_append_right (Nat.le_refl _), Nat.sub_self]; rfl, by rw [HYX.out i z hz e]; exact HAT.out⟩
                · obtain ⟨m, hm1, hm2⟩ := HT.out i z hz (by omega)
                  exact ⟨m, by rw [List.getElem?_append_left (List.getElem?_eq_some_iff.1 hm1).1]; exact hm1, HOLD.out _ _ hm2⟩, b, c⟩)
              clear HT HTA HOLD HYX HND HAT HN hF hoo HLO HS
              generalize (usedN l : Int) + 1 = r at *
              go_wp2_with (first
                | (at_builtin; refine wpList_nappend rfl _ _ rfl w.heap.size _ _ _ HO3.out rfl rfl (by omega) hz3 ?_; intro ao4 cap4 w4 ho4 st4; have HO4 := hidIt ho4; have HV4 := hidIt ((HV3.out.below (balloc _ _)).grown (by unfold OT; decide) (own_below HO3.out (balloc _ _)) st4.grown); have HB4 := hidIt ((HBW.out.trans ((balloc _ _).mono hz3)).trans (st4.below (Nat.le_trans hz3 (balloc _ _).size) (fun k hk => (HO3.out.lt k hk).1))); have GO4 := hidIt (GO.out _ HV4.out); clear ho4 st4 GO)
                | (go_at_call 9; refine GO4.out.mono ?_; rintro e w5 ⟨rfl, hv5, hs5⟩; have HV5 := hidIt hv5; have HB5 := hidIt (HB4.out.trans (hs5.below _ (Nat.le_refl _))); have HO5 := hidIt (hs5.nown HO4.out); clear hv5 hs5 GO4)
                | (go_at_call 33; refine (GL.out _ HV5.out).mono ?_; rintro e w6 ⟨rfl, hww⟩; cases hww)
                | (go_at_call 18; refine (GSh.out _ HV5.out).mono ?_; rintro e w6 ⟨rfl, hww⟩; cases hww))
              clear GL GSh
              have hyI : (y.length : Int) ≤ 8 := by omega
              obtain ⟨V5, hV5⟩ : ∃ V, V = w5 := ⟨w5, rfl⟩
              subst hV5
              go_loopw [14] (fun iv W => ∃ (i q : Nat), i ≤ y.length ∧ iv = .int .i64 (i : Int) ∧ W = V5.drewN q) (fun iv _ => y.length - (intOf iv).toNat)
              case atStart => exact ⟨0, 0, Nat.zero_le _, rfl, rfl⟩
              case round =>
                obtain ⟨i, q2, hi, rfl, hW⟩ := hrel
                obtain ⟨W6, hW6⟩ : ∃ W, W = wr := ⟨wr, rfl⟩
                subst hW6
                have HWa := hidIt hW
                have HWb : Hid (Below V5.heap.size V5 W6) := hidIt (by rw [hW]; exact below_drewN (Below.refl _ _) q2)
                clear hW
                by_cases hil : i < y.length
                · have hil' : (i : Int) < (y.length : Int) := by omega
                  obtain ⟨b, hb⟩ : ∃ b, y[i]? = some b := ⟨y[i], List.getElem?_eq_getElem hil⟩
                  obtain ⟨g6, off6, rfl, c6⟩ := (HBY.out.below (HB5.out.trans (HWb.out.mono HB5.out.size))).row hb
                  have GQ := hidIt (fun n => GR.out (W6.drewN n) (HV5.out.below (by rw [HWa.out]; exact below_drewN (below_drewN (Below.refl _ _) _) _)) i b hb)
                  clear hb
                  cases b with
                  | false =>
                    go_wp2_with fail
                    go_quiet ((go_at_call 36; exact Calls.quiet_of_same (GQ.out _)))
                    go_wp2_with fail
                    exact ⟨⟨i + 1, q2 + nq, by omega, by go_num, by rw [HWa.out, World.drewN_drewN]⟩, by simp [intOf]; omega⟩
                  | true =>
                    go_wp2_with fail
                    go_quiet ((go_at_call 36; exact Calls.quiet_of_same (GQ.out _)))
                    go_wp2_with fail
                    exact ⟨⟨i + 1, q2 + nq, by omega, by go_num, by rw [HWa.out, World.drewN_drewN]⟩, by simp [intOf]; omega⟩
                · have hil' : ¬ (i : Int) < (y.length : Int) := by omega
                  have NN := hidIt (NX.out W6 _ (own_below HO5.out HWb.out) (HV5.out.below HWb.out) (HB5.out.trans (HWb.out.mono HB5.out.size)))
                  clear GR NX
                  go_wp2_with fail
                  exact ⟨NN.out, by simp [intOf]; omega⟩
    · by_cases h1 : k < ls.length
      · have h1' : (k : Int) < (ls.length : Int) := by omega
        have h2' : ¬ (k : Int) < 20 := by omega
        clear hgo
        go_wp2_with (go_at_call 20; refine (known_any _).mono ?_; rintro e w' ⟨rfl, hb5⟩; have HB5 := hidIt (HB.out.trans (hb5.mono HB.out.size)); clear hb5)
        go_ret
        exact ⟨rfl, HB5.out⟩
      · have h1' : ¬ (k : Int) < (ls.length : Int) := by omega
        clear hgo
        go_wp2_with (go_at_call 20; refine (known_any _).mono ?_; rintro e w' ⟨rfl, hb5⟩; have HB5 := hidIt (HB.out.trans (hb5.mono HB.out.size)); clear hb5)
        go_ret
        exact ⟨rfl, HB5.out⟩
end Go.Proofs.Ytocblpiacodfaaa.J
