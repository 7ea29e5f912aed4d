/- add, Array, Object: walked. -/
import Derived.Test.YtbdeflpjplhafaaJG
import Derived.Deep.CutRange
namespace Go.Proofs.Ytbdeflpjplhafaa.J
open Go.RowKit Go.MapKept Go.ChangeMaps
set_option linter.unusedVariables false

variable {n0 : Nat} {w : World} {H : HB} {most : Nat} {l : List Ob} {ss : List (List Bool)}
theorem HStep.drewN (H : HB) (w : World) (q : Nat) : HStep H H w (w.drewN q) := ⟨rfl, rfl, rfl, Nat.le_refl _, fun _ _ _ => rfl, rfl, fun _ e => .inl e⟩
theorem zeros_new (ws : List Int) (s : Int) (k : Nat) : ((ws ++ List.replicate (k + 3) 0).set ws.length s).set (ws.length + 1) (k : Int) = ws ++ obW ⟨s, 0, List.replicate k 0⟩ := by
  have e1 : List.replicate (k + 3) (0 : Int) = 0 :: 0 :: 0 :: List.replicate k 0 := rfl
  rw [e1, List.set_append_right _ _ (Nat.le_refl _), Nat.sub_self, List.set_append_right _ _ (by omega), show ws.length + 1 - ws.length = 1 by omega]
  simp [obW]
theorem falses_new (bs : List Bool) (k : Nat) : (bs ++ List.replicate (k + 3) false).set bs.length true = bs ++ (true :: false :: false :: List.replicate k false) := by
  have e1 : List.replicate (k + 3) false = false :: false :: false :: List.replicate k false := rfl
  rw [e1, List.set_append_right _ _ (Nat.le_refl _), Nat.sub_self]
  simp
theorem Wf.snoc (h : Wf ss l) {o : Ob} (ho : -2 ≤ o.sh ∧ (0 ≤ o.sh → ∃ r, ss[o.sh.toNat]? = some r ∧ r.length = o.f.length)) : Wf ss (l ++ [o]) := by
  intro p x e
  rw [atN_snoc] at e
  split at e
  · exact h p x e
  · split at e
    · cases e; exact ho
    · cases e
set_option maxRecDepth 8000 in
set_option maxHeartbeats 2000000 in
theorem add_any (h : HeapV n0 w H most l ss) (s : Int) (k : Nat) (hk : k ≤ 100000) (hs : -2 ≤ s) (hs0 : 0 ≤ s → ∃ r, ss[s.toNat]? = some r ∧ r.length = k) (hf : usedN l + (k + 3) ≤ most) : Calls Try.prog 45 #[H.ptr, .int .i64 s, .int .i64 (k : Int)] w fun e w' => ∃ H', e = .returned (.tuple #[.int .i64 ((usedN l : Int) + 1), .int .i64 0]) ∧ HeapV n0 w' H' most (l ++ [⟨s, 0, List.replicate k 0⟩]) ss ∧ HStep H H' w w' := by
  have GU := hidIt (fun q => used_any (w := w.drewN q) (h.kept (fun _ _ => rfl)))
  have c0 : w.cell? ⟨H.hb, 0, none⟩ = some (.int .i64 (most : Int)) := h.box.cell 0
  have hm := h.most
  have hu := h.few
  have hlt := h.lt (.inl rfl)
  have R00 : Hid (∀ q, HeapR n0 (w.drewN q) H most (wsL l) (bsL l) ss) := hidIt (fun q => h.raw.kept (fun _ _ => rfl))
  have FIN : Hid (∀ H' w', HeapR n0 w' H' most (wsL l ++ obW ⟨s, 0, List.replicate k 0⟩) (bsL l ++ (true :: false :: false :: List.replicate k false)) ss → HStep H H' w w' → HeapV n0 w' H' most (l ++ [⟨s, 0, List.replicate k 0⟩]) ss ∧ HStep H H' w w') := hidIt fun H' w' r st => by
    refine ⟨HeapR.heap (l := l ++ [⟨s, 0, List.replicate k 0⟩]) (by rw [wsL_append, bsL_append]; simpa [wsL, bsL, obB] using r) (h.wf.snoc ⟨hs, by simpa using hs0⟩) (by rw [usedN_append]; simp [usedN]; omega) hm, st⟩
  have eW := hidIt (wsL_len l)
  have eB := hidIt (bsL_len l)
  unfold HB.ptr at GU ⊢
  clear h hs0 hs
  generalize wsL l = ws at *
  generalize bsL l = bs at *
  generalize usedN l = U at *
  have hm' : (most : Int) ≤ 16384 := by omega
  have hu' : (U : Int) ≤ (most : Int) := by omega
  have hf' : ¬ (most : Int) - (U : Int) < 3 + (k : Int) := by omega
  have hk' : (k : Int) ≤ 100000 := by omega
  obtain ⟨N, hN⟩ : ∃ N, U + (k + 3) = N := ⟨_, rfl⟩
  have hN1 : U + 2 < N := by omega
  have hN2 : N ≤ 16384 := by omega
  have hN3 : (U : Int) < (N : Int) := by omega
  have hN4 : U < N := by omega
  have HN := hidIt hN
  clear hN
  go_enter Try.func45, Try.ntmps45
  go_wp2_with fail
  go_quiet ((go_at_call 11; exact Calls.quiet_of_same (GU.out _)))
  go_upto_region 4 with (go_at_call 11; refine (GU.out _).mono ?_; rintro e w' ⟨rfl, hww⟩; cases hww)
  have R0 := R00.out nq
  have S0 := HStep.drewN H w nq
  generalize w.drewN nq = W0 at *
  clear GU c0 R00
  obtain ⟨i0, hi0, hz0, hz1, hz2⟩ := info_parts Try.infoI
  obtain ⟨v1, W1, hr1, ho1, hg1, ha1⟩ := run_append_zeros_own (P := Try.prog) W0 n0 85 3 85 2 i0 (.int .i64 0) 8 .i64 Try.underlying85 Try.underlying3 hi0 hz0 hz1 hz2 rfl rfl H.wv ws.length (icells ws) R0.wo (k + 3) (by omega) (by have := eW.out; unfold maxLen; omega) (by have := eW.out; omega) (by have := (R0.lt (.inl rfl)); omega)
  have ho1' : W1.ownsRow n0 2 1 v1 (ws ++ List.replicate (k + 3) 0).length (icells (ws ++ List.replicate (k + 3) 0)) := by
    rw [List.length_append, List.length_replicate, show icells (ws ++ List.replicate (k + 3) 0) = icells ws ++ List.replicate (k + 3) (.int .i64 0) by simp [icells]]
    exact ho1
  obtain ⟨R1, S1⟩ := R0.growW ho1' hg1 ha1
  have eN : (ws ++ List.replicate (k + 3) (0 : Int)).length = N := by rw [List.length_append, List.length_replicate, eW.out]; exact HN.out
  obtain ⟨g1, cap1, rfl⟩ : ∃ g cap, v1 = .slice (some ⟨g, 0, none⟩) N cap := by
    rw [eN] at ho1'
    rcases ho1'.2 with ⟨_, e⟩ | ⟨g, cap, _, e, _⟩
    · omega
    · exact ⟨g, cap, e⟩
  have c1 : W0.cell? ⟨H.hb, 1, none⟩ = some H.wv := R0.box.cell 1
  obtain ⟨ao0, cap0, ew0⟩ := own_slice R0.wo
  have b1 : W1.cell? ⟨H.hb, 1, none⟩ = some H.wv := (World.cell?_of_block (hg1.block _ R0.box.lt (fun e => own_not R0.wo R0.box (by decide) e.symm))).trans (R0.box.cell 1)
  have z1 : W1.frozen? ⟨H.hb, 1, none⟩ = false := (World.frozen?_of_block (hg1.block _ R0.box.lt (fun e => own_not R0.wo R0.box (by decide) e.symm))).trans (R0.box.frozen 1)
  rw [ew0] at b1 c1 hr1
  rw [show ((k + 3 : Nat) : Int) = 3 + (k : Int) by omega] at hr1
  have HR := hidIt hr1
  have HS1 := hidIt (S0.trans S1)
  have HR1 := hidIt R1
  clear hr1 S1 S0 R1 ho1 ho1' hg1 ha1 R0 ew0 hi0 hz0 hz1 hz2
  go_upto_region 5 with (at_builtin; refine Lib.wpList_append_run _ rfl _ _ _ _ rfl _ _ rfl (by rfl) _ _ HR.out ?_)
  clear HR c1 b1 z1
  generalize W1.setCell ⟨H.hb, 1, none⟩ (.slice (some ⟨g1, 0, none⟩) N cap1) = W2 at *
  have c2 : W2.cell? ⟨H.hb, 1, none⟩ = some (.slice (some ⟨g1, 0, none⟩) N cap1) := HR1.out.box.cell 1
  have zw : ∀ j, U ≤ j → j < N → W2.cell? ⟨g1, j, none⟩ = some (.int .i64 0) ∧ W2.frozen? ⟨g1, j, none⟩ = false := fun j h1 h2 => by
    have hx : (ws ++ List.replicate (k + 3) (0 : Int))[j]? = some 0 := by
      rw [List.getElem?_append_right (by rw [eW.out]; exact h1), List.getElem?_replicate, if_pos (by have := eW.out; have := HN.out; omega)]
    have hw := HR1.out.wo
    rw [eN] at hw
    obtain ⟨g, e, -, -, h3, h4⟩ := own_cell hw (icells_at hx)
    cases e
    exact ⟨h3, h4⟩
  have G2 := hidIt (begin_any g1 N cap1 U s (k : Int) 0 0 W2 hN1 hN2 (zw U (Nat.le_refl _) hN4).1 (zw U (Nat.le_refl _) hN4).2 (zw (U + 1) (by omega) (by omega)).1 (zw (U + 1) (by omega) (by omega)).2)
  obtain ⟨R2, S2⟩ := HR1.out.setW (j := U) (U := N) rfl s
  obtain ⟨R3, S3⟩ := R2.setW (j := U + 1) (U := N) rfl (k : Int)
  have e3 : ((ws ++ List.replicate (k + 3) 0).set U s).set (U + 1) (k : Int) = ws ++ obW ⟨s, 0, List.replicate k 0⟩ := by
    have := zeros_new ws s k
    rwa [eW.out] at this
  rw [e3] at R3
  have HR3 := hidIt R3
  have HS3 := hidIt ((HS1.out.trans S2).trans S3)
  clear R2 S2 R3 S3 HR1 HS1 zw
  go_upto_region 6 with (go_at_call 64; refine G2.out.mono ?_; rintro e w' ⟨⟨u, rfl⟩, rfl⟩)
  clear G2 c2
  generalize (W2.setCell ⟨g1, U, none⟩ (.int .i64 s)).setCell ⟨g1, U + 1, none⟩ (.int .i64 (k : Int)) = W3 at *
  have R0 := HR3.out
  obtain ⟨i0, hi0, hz0, hz1, hz2⟩ := info_parts Try.infoB
  obtain ⟨v1, W4, hr1, ho1, hg1, ha1⟩ := run_append_zeros_own (P := Try.prog) W3 n0 52 3 52 4 i0 (.bool false) 1 .i64 Try.underlying52 Try.underlying3 hi0 hz0 hz1 hz2 rfl rfl _ bs.length (tcells bs) R0.bo (k + 3) (by omega) (by have := eB.out; unfold maxLen; omega) (by have := eB.out; omega) (by have := (R0.lt (.inl rfl)); omega)
  have ho1' : W4.ownsRow n0 4 1 v1 (bs ++ List.replicate (k + 3) false).length (tcells (bs ++ List.replicate (k + 3) false)) := by
    rw [List.length_append, List.length_replicate, show tcells (bs ++ List.replicate (k + 3) false) = tcells bs ++ List.replicate (k + 3) (.bool false) by simp [tcells]]
    exact ho1
  obtain ⟨R1, S1⟩ := R0.growB ho1' hg1 ha1
  have eN2 : (bs ++ List.replicate (k + 3) false).length = N := by rw [List.length_append, List.length_replicate, eB.out]; exact HN.out
  obtain ⟨g2, cap2, rfl⟩ : ∃ g cap, v1 = .slice (some ⟨g, 0, none⟩) N cap := by
    rw [eN2] at ho1'
    rcases ho1'.2 with ⟨_, e⟩ | ⟨g, cap, _, e, _⟩
    · omega
    · exact ⟨g, cap, e⟩
  have c1 : W3.cell? ⟨H.hb, 2, none⟩ = some H.bv := R0.box.cell 2
  obtain ⟨ao0, cap0, ew0⟩ := own_slice R0.bo
  have ew0 : H.bv = .slice ao0 bs.length cap0 := ew0
  have hgb := hg1.block _ R0.box.lt (fun e => own_not R0.bo R0.box (by decide) e.symm)
  have b1 : W4.cell? ⟨H.hb, 2, none⟩ = some H.bv := (World.cell?_of_block hgb).trans (R0.box.cell 2)
  have z1 : W4.frozen? ⟨H.hb, 2, none⟩ = false := (World.frozen?_of_block hgb).trans (R0.box.frozen 2)
  have hr1 : (Builtin.append_ #[52, 3] 52 #[H.bv, .int .i64 ((k + 3 : Nat) : Int)]).run Try.prog W3 = .ok (.slice (some ⟨g2, 0, none⟩) N cap2) W4 := hr1
  rw [ew0] at b1 c1 hr1
  rw [show ((k + 3 : Nat) : Int) = 3 + (k : Int) by omega] at hr1
  have HR := hidIt hr1
  have HS4 := hidIt (HS3.out.trans S1)
  have HR4 := hidIt R1
  clear hr1 S1 R1 ho1 ho1' hg1 ha1 R0 ew0 hi0 hz0 hz1 hz2 HR3 HS3 hgb
  go_upto_region 7 with (at_builtin; refine Lib.wpList_append_run _ rfl _ _ _ _ rfl _ _ rfl (by rfl) _ _ HR.out ?_)
  clear HR c1 b1 z1
  generalize W4.setCell ⟨H.hb, 2, none⟩ (.slice (some ⟨g2, 0, none⟩) N cap2) = W5 at *
  have c2 : W5.cell? ⟨H.hb, 2, none⟩ = some (.slice (some ⟨g2, 0, none⟩) N cap2) := HR4.out.box.cell 2
  obtain ⟨zc, zf⟩ : W5.cell? ⟨g2, U, none⟩ = some (.bool false) ∧ W5.frozen? ⟨g2, U, none⟩ = false := by
    have hx : (bs ++ List.replicate (k + 3) false)[U]? = some false := by
      rw [List.getElem?_append_right (by rw [eB.out]; exact Nat.le_refl _), List.getElem?_replicate, if_pos (by have := eB.out; have := HN.out; omega)]
    have hw := HR4.out.bo
    rw [eN2] at hw
    obtain ⟨g, e, -, -, h3, h4⟩ := own_cell hw (tcells_at hx)
    cases e
    exact ⟨h3, h4⟩
  obtain ⟨R6, S6⟩ := HR4.out.setB (j := U) (U := N) rfl true
  have e3 : (bs ++ List.replicate (k + 3) false).set U true = bs ++ (true :: false :: false :: List.replicate k false) := by
    have := falses_new bs k
    rwa [eB.out] at this
  rw [e3] at R6
  have FF := hidIt (FIN.out _ _ R6 (HS4.out.trans S6))
  clear R6 S6 HR4 HS4 FIN
  go_wp2
  go_ret2
  first | exact ⟨_, rfl, FF.out⟩ | exact ⟨rfl, _, FF.out⟩
end Go.Proofs.Ytbdeflpjplhafaa.J

