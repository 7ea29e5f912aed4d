/- HeapPlays: walked. -/
import Derived.Test.YtepegebkjegjiaaWB
import Derived.Test.YtepegebkjegjiaaWC
import Derived.Test.YtepegebkjegjiaaWD
import Derived.Deep.CutBlock
import Derived.Deep.CutRange
namespace Go.Proofs.Ytepegebkjegjiaa.J
open Go.RowKit Go.MapKept Go.ChangeMaps
set_option linter.unusedVariables false
variable {n0 : Nat} {X : Nat → Prop} {w : World} {p q most : Nat} {l m : List Ob} {ss tt : List (List Bool)}

theorem OT2.ask : OT2 33 := by unfold OT2 OT; decide
/-- A block of another type is written to. -/
theorem TwoV.other (h : TwoV n0 X w p q most l ss m tt) {b : Nat} {row : Array Value} {t : TypeId} {fz : Nat × Nat} (ht : OT2 t) (hb : w.heap[b]? = some (.cells row t fz)) (hX : ∀ k, X k → k ≠ b) (i : Nat) (v : Value) : TwoV n0 X (w.setCell ⟨b, i, none⟩ v) p q most l ss m tt := by
  obtain ⟨H, R, e1, e2, hh, hr, hd, hx⟩ := h
  have ne : ∀ k, H.has k ∨ R.has k → k ≠ b := fun k hk e => by
    subst e
    rcases hk with hk | hk
    · exact heap_type hh hk ht.1 hb
    · exact ref_type hr hk ht hb
  exact ⟨H, R, e1, e2, hh.kept fun k hk => heap_setCell_other w ⟨b, i, none⟩ k _ (ne k (.inl hk)), hr.kept fun k hk => heap_setCell_other w ⟨b, i, none⟩ k _ (ne k (.inr hk)), hd, fun k hk => ⟨by simpa using (hx k hk).1, (hx k hk).2⟩⟩
theorem BView.upto {ao : Option Addr} {n c : Nat} {r : List Bool} (h : BView w (.slice ao n c) r) (k : Nat) (hk : k ≤ r.length) : BView w (.slice ao k c) (r.take k) := by
  obtain ⟨ao', c', e, h1, h2, h3⟩ := h
  cases e
  have hl : (r.take k).length = k := by rw [List.length_take]; omega
  refine ⟨ao, c, by rw [hl], by omega, h2, ?_⟩
  rcases h3 with h3 | ⟨g, off, e, h4⟩
  · exact .inl (by rw [h3]; simp)
  · refine .inr ⟨g, off, e, fun j x hj => h4 j x ?_⟩
    rw [List.getElem?_take] at hj
    split at hj
    · exact hj
    · cases hj
/-- Roots that are kept objects are roots. -/
theorem KOk.rootsB {K : List (Nat × Ob)} (h : KOk l K) : (keysK K).all (rootB l) = true := by
  rw [List.all_eq_true]
  intro y hy
  obtain ⟨x, hx, rfl⟩ := List.mem_map.1 hy
  refine rootB_iff.2 (.inr ?_)
  have := h.at_ x hx
  unfold objZ
  rw [if_pos (by omega), show ((x.1 : Int) + 1 - 1).toNat = x.1 by omega, this]
  rfl
theorem begs_in : ∀ (l : List Ob) (p : Nat) (x : Int), x ∈ begs p l → 1 ≤ x ∧ x ≤ ((p + usedN l : Nat) : Int)
  | [], p, x, h => by simp [begs] at h
  | o :: l, p, x, h => by
    simp only [begs, List.mem_cons] at h
    simp only [usedN]
    rcases h with rfl | h
    · constructor <;> omega
    · have := begs_in l _ x h
      omega
/-- Between two calls. -/
def PlI (n0 : Nat) (w0 : World) (p q mo i : Nat) (W : World) : Prop := ∃ (l : List Ob) (ss : List (List Bool)), TwoV n0 (fun _ => False) W p q mo l ss l ss ∧ RefsOk ss l ∧ (∀ r ∈ ss, r.length ≤ 20) ∧ ss.length ≤ i ∧ Below n0 w0 W
theorem arL_ok (h : RefsOk ss l) (mo : Nat) (refs : Bool) (n : Int) : RefsOk ss (arL mo l refs n) := by
  unfold arL
  split
  · exact h
  · split
    · exact h
    · exact h.zeros _ _
theorem obL_ok (h : RefsOk ss l) (mo : Nat) (s : Int) : RefsOk ss (obL mo l ss s) := by
  unfold obL
  split
  · exact h
  · split
    · exact h
    · exact h.zeros _ _
theorem seL_ok (h : RefsOk ss l) (v n x : Int) : RefsOk ss (seL ss l v n x) := by
  unfold seL
  split
  · split
    · rename_i h1 h2
      exact h.set h1 h2
    · exact h
  · exact h
theorem tgL_ok (h : RefsOk ss l) (v x : Int) : RefsOk ss (tgL l v x) := by
  unfold tgL
  split
  · exact h.tag v x
  · exact h
theorem slL_ok {K : List (Nat × Ob)} (h : RefsOk ss l) : RefsOk ss (slL ss l K) := by
  unfold slL
  split
  · rename_i e
    exact RefsOk.kept e
  · exact h
theorem addS_len (ss : List (List Bool)) (r : List Bool) : (addS ss r).length ≤ ss.length + 1 := by
  unfold addS
  split <;> simp
theorem addS_in {r : List Bool} (hr : r.length ≤ 20) (h : ∀ r ∈ ss, r.length ≤ 20) : ∀ x ∈ addS ss r, x.length ≤ 20 := by
  unfold addS
  split
  · exact h
  · intro x hx
    rcases List.mem_append.1 hx with hx | hx
    · exact h x hx
    · rw [List.mem_singleton.1 hx]; exact hr
theorem pl_words (h : TwoV n0 X w p q most l ss m tt) : Calls Try.prog 9 #[.pointer (some ⟨p, 0, none⟩)] w fun e w' => e = .returned (.int .i64 most) ∧ w' = w := by
  obtain ⟨H, R, rfl, rfl, hh, hr, hd, hx⟩ := h
  exact words_any hh
theorem pl_new (m : Nat) (h1 : 1 ≤ m) (h2 : m ≤ 16384) (w : World) : Calls Try.prog 7 #[.int .i64 (m : Int)] w fun e w' => ∃ p, e = .returned (.tuple #[.pointer (some ⟨p, 0, none⟩), .int .i64 0]) ∧ (∃ H : HB, H.hb = p ∧ HeapV w.heap.size w' H m [] []) ∧ Below w.heap.size w w' :=
  (New_any m h1 h2 w).mono fun e w' ⟨H, a, b, c⟩ => ⟨H.hb, a, ⟨H, rfl, b⟩, c⟩
theorem pl_unew {w0 : World} {m : Nat} (h1 : 1 ≤ m) (h2 : m ≤ 16384) (h : ∃ H : HB, H.hb = p ∧ HeapV w0.heap.size w H m [] []) (hb : Below w0.heap.size w0 w) : Calls Try.prog 8 #[.int .i64 (m : Int)] w fun e w' => ∃ q, e = .returned (.pointer (some ⟨q, 0, none⟩)) ∧ TwoV w0.heap.size (fun _ => False) w' p q m [] [] [] [] ∧ Below w0.heap.size w0 w' := by
  obtain ⟨H, rfl, h⟩ := h
  exact two_new m h1 h2 h hb
set_option maxRecDepth 8000 in
set_option maxHeartbeats 8000000 in
theorem plays_any (v : Value) (l : List Pk) (words : Int) (w : World) (hv : PkV w v l) : Calls Try.prog 3 #[.int .i64 words, v] w fun e w' => e = .returned (.bool true) ∧ Below w.heap.size w w' := by
  obtain ⟨ao, cap, rfl, hcap, hmax, hrows⟩ := hv
  have HROW := hidIt hrows
  clear hrows
  have hlm : (l.length : Int) ≤ 9223372036854775807 := by unfold maxLen at hmax; omega
  have GW := hidIt (fun W => within_any words 599 (by omega) W)
  have hwz := wiZ_le words 599
  obtain ⟨mo, hmo⟩ : ∃ mo, wiZ words 599 + 1 = mo := ⟨_, rfl⟩
  have hmoI : (1 : Int) + (wiZ words 599 : Int) = (mo : Int) := by omega
  have hm1 : 1 ≤ mo ∧ mo ≤ 600 := by omega
  have M1 := hidIt hm1
  have hmw : wrap64 (mo : Int) = (mo : Int) := IntWalk.wrap64_in _ (by omega)
  have GN := hidIt (pl_new mo hm1.1 (by omega) w)
  clear hwz hmo hm1
  generalize wiZ words 599 = wz at *
  go_enter Try.func3, Try.ntmps3
  go_wp2_with (first
    | (go_at_call 6; refine (GW.out _).mono ?_; rintro e w2 ⟨rfl, h⟩; cases h; clear GW)
    | (go_at_call 7; refine GN.out.mono ?_; rintro e w1 ⟨p, rfl, hh, hb⟩; have HH := hidIt hh; have B1 := hidIt hb; clear hh hb GN)
    | (go_at_call 8; refine (pl_unew M1.out.1 (by have := M1.out.2; omega) HH.out B1.out).mono ?_; rintro e w2 ⟨q, rfl, ht, hb⟩; have T0 := hidIt ht; have B2 := hidIt hb; clear ht hb HH)
    | (go_at_call 9; refine (pl_words T0.out).mono ?_; rintro e w3 ⟨rfl, h⟩; cases h))
  have A0 : Hid (PlI w.heap.size w p q mo 0 w2) := hidIt ⟨[], [], T0.out, RefsOk.nil _, fun r hr => by simp at hr, Nat.le_refl _, B2.out⟩
  clear T0 B1 B2 hmoI hmw
  generalize hln : l.length = ln at *
  go_loopw [8] (fun iv wr => ∃ i : Nat, iv = .int .i64 (i : Int) ∧ i ≤ 40 ∧ PlI w.heap.size w p q mo i wr) (fun iv _ => 40 - (intOf iv).toNat)
  case atStart => exact ⟨0, rfl, by omega, A0.out⟩
  case round =>
    clear A0
    obtain ⟨i, rfl, hi, hst⟩ := hrel
    by_cases hlt : i < ln ∧ i < 40
    · have hlt1 : (i : Int) < (ln : Int) := by omega
      have hlt2 : (i : Int) < 40 := by omega
      obtain ⟨⟨kk, xn, xof, xto, refs, xv, bits⟩, hx⟩ : ∃ x, l[i]? = some x := ⟨_, List.getElem?_eq_getElem (by omega)⟩
      obtain ⟨L, ss, ht, hrf, hs20, hsl, hbb⟩ := hst
      rcases HROW.out with rfl | ⟨g, off, rfl, hg, hc⟩
      · simp at hx
      obtain ⟨⟨ra, rb_, hcx, hv1, hv2⟩, hto⟩ := hc i _ hx
      have hv1' := hv1
      have hv2' := hv2
      obtain ⟨ao4, c4, rfl, hc4, hm4, -⟩ := hv1'
      obtain ⟨ao6, c6, rfl, hc6, hm6, -⟩ := hv2'
      have CX : Hid (∀ W, Below w.heap.size w W → W.cell? ⟨g, off + i * 7, none⟩ = some (.int .i64 kk) ∧ W.cell? ⟨g, off + i * 7 + 1, none⟩ = some (.int .i64 xn) ∧ W.cell? ⟨g, off + i * 7 + 2, none⟩ = some (.int .i64 xof) ∧ W.cell? ⟨g, off + i * 7 + 3, none⟩ = some (.int .i64 xto) ∧ W.cell? ⟨g, off + i * 7 + 4, none⟩ = some (.slice ao4 refs.length c4) ∧ W.cell? ⟨g, off + i * 7 + 5, none⟩ = some (.int .i64 xv) ∧ W.cell? ⟨g, off + i * 7 + 6, none⟩ = some (.slice ao6 bits.length c6)) := hidIt fun W hW =>
        ⟨(hW.cell hg).trans (hcx 0 _ rfl), (hW.cell hg).trans (hcx 1 _ rfl), (hW.cell hg).trans (hcx 2 _ rfl), (hW.cell hg).trans (hcx 3 _ rfl), (hW.cell hg).trans (hcx 4 _ rfl), (hW.cell hg).trans (hcx 5 _ rfl), (hW.cell hg).trans (hcx 6 _ rfl)⟩
      obtain ⟨x0, x1, x2, x3, x4, x5, x6⟩ := CX.out wr hbb
      dsimp only at hc4 hc6
      have BV1 : Hid (∀ W, Below w.heap.size w W → BView W (.slice ao4 refs.length c4) refs) := hidIt fun W hW => hv1.below hW
      have BV2 : Hid (∀ W, Below w.heap.size w W → BView W (.slice ao6 bits.length c6) bits) := hidIt fun W hW => hv2.below hW
      have T := hidIt ht
      have RF := hidIt hrf
      have S20 := hidIt hs20
      have BB := hidIt hbb
      have hmR : refs.length ≤ 9223372036854775807 := by unfold maxLen at hm4; omega
      have hmB : bits.length ≤ 9223372036854775807 := by unfold maxLen at hm6; omega
      have GAl : Hid (∀ W, Below wr.heap.size wr W → Calls Try.prog 10 #[.pointer (some ⟨q, 0, none⟩)] W _) := hidIt fun W hW => two_allR (T.out.below hW).1 rfl
      have hL : L.length ≤ 16384 := by
        have h1 := ht.few
        have : ∀ m : List Ob, m.length ≤ usedN m := by
          intro m
          induction m with
          | nil => simp
          | cons o m ih => simp only [usedN, List.length_cons]; omega
        have := this L
        omega
      clear ht hrf hs20 hbb hc hx hcx CX hv1 hv2 hm4 hc6 hm6
      have YB := hidIt (balloc wr (.cells #[.int .i64 kk, .int .i64 xn, .int .i64 xof, .int .i64 xto, .slice ao4 refs.length c4, .int .i64 xv, .slice ao6 bits.length c6] 33))
      go_upto_block 2 with (go_at_call 10; refine (GAl.out _ YB.out).mono ?_; rintro e w2 ⟨aa, ca, rfl, hna, hb2⟩; have NA := hidIt hna; have BX := hidIt (show Blk w2 wr.heap.size #[.int .i64 kk, .int .i64 xn, .int .i64 xof, .int .i64 xto, .slice ao4 refs.length c4, .int .i64 xv, .slice ao6 bits.length c6] 33 from (Blk.new wr _ _).kept (hb2.block _ (by simp))); have BY := hidIt (YB.out.trans (hb2.mono YB.out.size)); have d0 := BX.out.cell 0; simp only [List.getElem?_toArray, List.getElem?_cons_zero] at d0; clear hna hb2 GAl)
      have BW : Hid (Below w.heap.size w w2) := hidIt (BB.out.trans (BY.out.mono BB.out.size))
      have T2 := hidIt (T.out.below BY.out).1
      clear x0 x1 x2 x3 x4 x5 x6 T YB
      have XC : Hid (∀ W, TwoS w.heap.size (fun _ => False) w2 W → W.cell? ⟨wr.heap.size, 1, none⟩ = some (.int .i64 xn) ∧ W.cell? ⟨wr.heap.size, 2, none⟩ = some (.int .i64 xof) ∧ W.cell? ⟨wr.heap.size, 3, none⟩ = some (.int .i64 xto) ∧ W.cell? ⟨wr.heap.size, 5, none⟩ = some (.int .i64 xv) ∧ W.cell? ⟨wr.heap.size, 6, none⟩ = some (.slice ao6 bits.length c6)) := hidIt fun W hW => by
        have hk : Blk W wr.heap.size _ _ := hW.keeps _ _ _ _ OT2.ask BX.out
        exact ⟨hk.cell 1, hk.cell 2, hk.cell 3, hk.cell 5, hk.cell 6⟩
      obtain ⟨d1, d2, d3, d5, d6⟩ := XC.out w2 (TwoS.refl _)
      go_cut [4] from 68 to 242 (fun _ wx => PlI w.heap.size w p q mo (i + 1) wx)
      case first =>
        by_cases k1 : kk = 1
        · subst k1
          by_cases hr20 : refs.length ≤ 20
          · as_aux_lemma =>
            have hr20' : (refs.length : Int) ≤ 20 := by omega
            have hr20'' : ¬ (20 : Int) < (refs.length : Int) := by omega
            have BX2 := BX
            have BW3 := BW
            have T3 := T2
            have BVR := BV1
            have d4 := BX.out.cell 4
            simp only [List.getElem?_toArray, List.getElem?_cons_zero, List.getElem?_cons_succ] at d4
            go_upto_region 15 with (fail)
            have XC2 : Hid (∀ W, TwoS w.heap.size (fun _ => False) w2 W → W.cell? ⟨wr.heap.size, 1, none⟩ = some (.int .i64 xn)) := hidIt fun W hW => by
              have hk : Blk W wr.heap.size _ _ := hW.keeps _ _ _ _ OT2.ask BX2.out
              exact hk.cell 1
            have XC4 : Hid (∀ W, TwoS w.heap.size (fun _ => False) w2 W → W.cell? ⟨wr.heap.size, 4, none⟩ = some (.slice ao4 refs.length c4)) := hidIt fun W hW => by
              have hk : Blk W wr.heap.size _ _ := hW.keeps _ _ _ _ OT2.ask BX2.out
              exact hk.cell 4
            have hrl : refs.length ≤ 20 := hr20
            have GH1 : Hid (∀ W, TwoV w.heap.size (fun _ => False) W p q mo L ss L ss → Below w.heap.size w W → Calls Try.prog 11 #[.pointer (some ⟨p, 0, none⟩), .slice ao4 refs.length c4] W fun e w' => e = .returned (.int .i64 (numS ss refs : Int)) ∧ TwoV w.heap.size (fun _ => False) w' p q mo L (addS ss refs) L ss ∧ TwoS w.heap.size (fun _ => False) W w') := hidIt fun W h1 h2 => pl_shapeH h1 _ refs (BVR.out W h2) (by omega) (by omega)
            have GR1 : Hid (∀ W, TwoV w.heap.size (fun _ => False) W p q mo L (addS ss refs) L ss → Below w.heap.size w W → Calls Try.prog 12 #[.pointer (some ⟨q, 0, none⟩), .slice ao4 refs.length c4] W fun e w' => e = .returned (.int .i64 (numS ss refs : Int)) ∧ TwoV w.heap.size (fun _ => False) w' p q mo L (addS ss refs) L (addS ss refs) ∧ TwoS w.heap.size (fun _ => False) W w') := hidIt fun W h1 h2 => pl_shapeR h1 _ refs (BVR.out W h2) (by omega) (by omega)
            have hadd := addS_in (ss := ss) hrl S20.out
            have hadl := addS_len ss refs
            have ROK : Hid (RefsOk (addS ss refs) L) := hidIt (RF.out.shape T3.out.few.2.2.1 refs)
            have GH2 : Hid (∀ W, TwoV w.heap.size (fun _ => False) W p q mo L (addS ss refs) L (addS ss refs) → Calls Try.prog 13 #[.pointer (some ⟨p, 0, none⟩), .int .i64 xn] W _) := hidIt fun W h1 => pl_objectH h1 (fun r hr => by have := hadd r hr; omega) xn
            have GR2 : Hid (∀ W, TwoV w.heap.size (fun _ => False) W p q mo (obL mo L (addS ss refs) xn) (addS ss refs) L (addS ss refs) → Calls Try.prog 14 #[.pointer (some ⟨q, 0, none⟩), .int .i64 xn] W _) := hidIt fun W h1 => pl_objectR h1 (fun r hr => by have := hadd r hr; omega) xn
            have FIN : Hid (∀ w3 w4 w5 W, TwoS w.heap.size (fun _ => False) w2 w3 → TwoS w.heap.size (fun _ => False) w3 w4 → TwoS w.heap.size (fun _ => False) w4 w5 → TwoV w.heap.size (fun _ => False) W p q mo (obL mo L (addS ss refs) xn) (addS ss refs) (obL mo L (addS ss refs) xn) (addS ss refs) → TwoS w.heap.size (fun _ => False) w5 W → PlI w.heap.size w p q mo (i + 1) W) := hidIt fun w3 w4 w5 W h1 h2 h3 h4 h5 =>
              ⟨_, _, h4, obL_ok ROK.out mo xn, hadd, by omega, BW3.out.trans ((((h1.trans h2).trans h3).trans h5).below _ (Nat.le_refl _))⟩
            clear hadd hadl ROK
            generalize hN : (numS ss refs : Int) = rn at *
            generalize (obA mo L (addS ss refs) xn).1 = r1 at *
            generalize (obA mo L (addS ss refs) xn).2 = r2 at *
            generalize obL mo L (addS ss refs) xn = L9 at *
            generalize addS ss refs = s9 at *
            clear hN
            have S0 := XC4.out w2 (TwoS.refl _)
            have SBw : Hid (∀ q, Below w.heap.size w (w2.drewN q)) := hidIt fun q => below_drewN BW3.out q
            go_region_held3 (fun W => W.cell? ⟨wr.heap.size, 4, none⟩ = some (.slice ao4 refs.length c4)) (first | exact S0 | exact XC4.out _ (T3.out.drewN _).2 | exact XC4.out _ (by assumption))
              (first
                | (go_at_call 11; refine (GH1.out _ (by first | exact T3.out | exact (T3.out.drewN _).1) (by first | exact BW3.out | exact SBw.out _)).mono ?_; rintro e w3 ⟨rfl, ht3, hs3⟩; have hs3' := (by first | exact hs3 | exact (T3.out.drewN _).2.trans hs3 : TwoS w.heap.size (fun _ => False) w2 w3))
                | (go_at_call 12; refine (GR1.out _ (by first | exact ht3 | exact (TwoV.drewN ht3 _).1) (by first | exact BW3.out.trans (hs3'.below _ (Nat.le_refl _)) | exact below_drewN (BW3.out.trans (hs3'.below _ (Nat.le_refl _))) _)).mono ?_; rintro e w4 ⟨rfl, ht4, hs4⟩; have hs34 := (by first | exact hs4 | exact (TwoV.drewN ht3 _).2.trans hs4 : TwoS w.heap.size (fun _ => False) w3 w4); have hs4' := hs3'.trans hs34))
            all_goals
              have U4 := hidIt ht4
              have V4 := hidIt hs4'
              have V34 := hidIt hs34
              have V3 := hidIt hs3'
              obtain f1 := XC2.out w4 V4.out
              clear ht3 hs3 hs3' ht4 hs4 hs4' hs34 GH1 GR1 S0 SBw
              go_wp2_with (first
                | (go_at_call 13; refine (GH2.out _ U4.out).mono ?_; rintro e w5 ⟨rfl, h5, k5⟩; have U5 := hidIt h5; have V5 := hidIt k5; obtain g1 := XC2.out w5 (V4.out.trans k5); clear h5 k5 GH2)
                | (go_at_call 14; refine (GR2.out _ U5.out).mono ?_; rintro e w6 ⟨rfl, h6, k6⟩; have F := hidIt (FIN.out _ _ _ _ V3.out V34.out V5.out h6 k6); clear h6 k6 GR2))
              go_meet
              exact F.out
          · as_aux_lemma =>
            have hr20' : (20 : Int) < (refs.length : Int) := by omega
            have d4 := BX.out.cell 4
            have z4 := BX.out.frozen 4
            simp only [List.getElem?_toArray, List.getElem?_cons_zero, List.getElem?_cons_succ] at d4
            have hc4' : (20 : Int) ≤ (c4 : Int) := by have := hc4; omega
            go_upto_region 15 with (fail)
            have BX2 : Hid (Blk (w2.setCell ⟨wr.heap.size, 4, none⟩ (.slice ao4 20 c4)) wr.heap.size #[.int .i64 1, .int .i64 xn, .int .i64 xof, .int .i64 xto, .slice ao4 20 c4, .int .i64 xv, .slice ao6 bits.length c6] 33) := hidIt (BX.out.set 4 (.slice ao4 20 c4))
            have BW3 : Hid (Below w.heap.size w (w2.setCell ⟨wr.heap.size, 4, none⟩ (.slice ao4 20 c4))) := hidIt (BW.out.setCell (p := ⟨wr.heap.size, 4, none⟩) BB.out.size _)
            have T3 := hidIt (T2.out.other OT2.ask BX.out (fun k hk => hk.elim) 4 (.slice ao4 20 c4))
            have BVR : Hid (∀ W, Below w.heap.size w W → BView W (.slice ao4 20 c4) (refs.take 20)) := hidIt fun W hW => (BV1.out W hW).upto 20 (by omega)
            clear d0 d1 d2 d3 d4 d5 d6 z4 XC T2 BX NA BY BW
            generalize w2.setCell ⟨wr.heap.size, 4, none⟩ (.slice ao4 20 c4) = w9 at *
            have XC2 : Hid (∀ W, TwoS w.heap.size (fun _ => False) w9 W → W.cell? ⟨wr.heap.size, 1, none⟩ = some (.int .i64 xn)) := hidIt fun W hW => by
              have hk : Blk W wr.heap.size _ _ := hW.keeps _ _ _ _ OT2.ask BX2.out
              exact hk.cell 1
            have XC4 : Hid (∀ W, TwoS w.heap.size (fun _ => False) w9 W → W.cell? ⟨wr.heap.size, 4, none⟩ = some (.slice ao4 20 c4)) := hidIt fun W hW => by
              have hk : Blk W wr.heap.size _ _ := hW.keeps _ _ _ _ OT2.ask BX2.out
              exact hk.cell 4
            have hrl : (refs.take 20).length ≤ 20 := by rw [List.length_take]; omega
            have GH1 : Hid (∀ W, TwoV w.heap.size (fun _ => False) W p q mo L ss L ss → Below w.heap.size w W → Calls Try.prog 11 #[.pointer (some ⟨p, 0, none⟩), .slice ao4 20 c4] W fun e w' => e = .returned (.int .i64 (numS ss (refs.take 20) : Int)) ∧ TwoV w.heap.size (fun _ => False) w' p q mo L (addS ss (refs.take 20)) L ss ∧ TwoS w.heap.size (fun _ => False) W w') := hidIt fun W h1 h2 => pl_shapeH h1 _ (refs.take 20) (BVR.out W h2) (by omega) (by omega)
            have GR1 : Hid (∀ W, TwoV w.heap.size (fun _ => False) W p q mo L (addS ss (refs.take 20)) L ss → Below w.heap.size w W → Calls Try.prog 12 #[.pointer (some ⟨q, 0, none⟩), .slice ao4 20 c4] W fun e w' => e = .returned (.int .i64 (numS ss (refs.take 20) : Int)) ∧ TwoV w.heap.size (fun _ => False) w' p q mo L (addS ss (refs.take 20)) L (addS ss (refs.take 20)) ∧ TwoS w.heap.size (fun _ => False) W w') := hidIt fun W h1 h2 => pl_shapeR h1 _ (refs.take 20) (BVR.out W h2) (by omega) (by omega)
            have hadd := addS_in (ss := ss) hrl S20.out
            have hadl := addS_len ss (refs.take 20)
            have ROK : Hid (RefsOk (addS ss (refs.take 20)) L) := hidIt (RF.out.shape T3.out.few.2.2.1 (refs.take 20))
            have GH2 : Hid (∀ W, TwoV w.heap.size (fun _ => False) W p q mo L (addS ss (refs.take 20)) L (addS ss (refs.take 20)) → Calls Try.prog 13 #[.pointer (some ⟨p, 0, none⟩), .int .i64 xn] W _) := hidIt fun W h1 => pl_objectH h1 (fun r hr => by have := hadd r hr; omega) xn
            have GR2 : Hid (∀ W, TwoV w.heap.size (fun _ => False) W p q mo (obL mo L (addS ss (refs.take 20)) xn) (addS ss (refs.take 20)) L (addS ss (refs.take 20)) → Calls Try.prog 14 #[.pointer (some ⟨q, 0, none⟩), .int .i64 xn] W _) := hidIt fun W h1 => pl_objectR h1 (fun r hr => by have := hadd r hr; omega) xn
            have FIN : Hid (∀ w3 w4 w5 W, TwoS w.heap.size (fun _ => False) w9 w3 → TwoS w.heap.size (fun _ => False) w3 w4 → TwoS w.heap.size (fun _ => False) w4 w5 → TwoV w.heap.size (fun _ => False) W p q mo (obL mo L (addS ss (refs.take 20)) xn) (addS ss (refs.take 20)) (obL mo L (addS ss (refs.take 20)) xn) (addS ss (refs.take 20)) → TwoS w.heap.size (fun _ => False) w5 W → PlI w.heap.size w p q mo (i + 1) W) := hidIt fun w3 w4 w5 W h1 h2 h3 h4 h5 =>
              ⟨_, _, h4, obL_ok ROK.out mo xn, hadd, by omega, BW3.out.trans ((((h1.trans h2).trans h3).trans h5).below _ (Nat.le_refl _))⟩
            clear hadd hadl ROK
            generalize hN : (numS ss (refs.take 20) : Int) = rn at *
            generalize (obA mo L (addS ss (refs.take 20)) xn).1 = r1 at *
            generalize (obA mo L (addS ss (refs.take 20)) xn).2 = r2 at *
            generalize obL mo L (addS ss (refs.take 20)) xn = L9 at *
            generalize addS ss (refs.take 20) = s9 at *
            clear hN
            have S0 := XC4.out w9 (TwoS.refl _)
            have SBw : Hid (∀ q, Below w.heap.size w (w9.drewN q)) := hidIt fun q => below_drewN BW3.out q
            go_region_held3 (fun W => W.cell? ⟨wr.heap.size, 4, none⟩ = some (.slice ao4 20 c4)) (first | exact S0 | exact XC4.out _ (T3.out.drewN _).2 | exact XC4.out _ (by assumption))
              (first
                | (go_at_call 11; refine (GH1.out _ (by first | exact T3.out | exact (T3.out.drewN _).1) (by first | exact BW3.out | exact SBw.out _)).mono ?_; rintro e w3 ⟨rfl, ht3, hs3⟩; have hs3' := (by first | exact hs3 | exact (T3.out.drewN _).2.trans hs3 : TwoS w.heap.size (fun _ => False) w9 w3))
                | (go_at_call 12; refine (GR1.out _ (by first | exact ht3 | exact (TwoV.drewN ht3 _).1) (by first | exact BW3.out.trans (hs3'.below _ (Nat.le_refl _)) | exact below_drewN (BW3.out.trans (hs3'.below _ (Nat.le_refl _))) _)).mono ?_; rintro e w4 ⟨rfl, ht4, hs4⟩; have hs34 := (by first | exact hs4 | exact (TwoV.drewN ht3 _).2.trans hs4 : TwoS w.heap.size (fun _ => False) w3 w4); have hs4' := hs3'.trans hs34))
            all_goals
              have U4 := hidIt ht4
              have V4 := hidIt hs4'
              have V34 := hidIt hs34
              have V3 := hidIt hs3'
              obtain f1 := XC2.out w4 V4.out
              clear ht3 hs3 hs3' ht4 hs4 hs4' hs34 GH1 GR1 S0 SBw
              go_wp2_with (first
                | (go_at_call 13; refine (GH2.out _ U4.out).mono ?_; rintro e w5 ⟨rfl, h5, k5⟩; have U5 := hidIt h5; have V5 := hidIt k5; obtain g1 := XC2.out w5 (V4.out.trans k5); clear h5 k5 GH2)
                | (go_at_call 14; refine (GR2.out _ U5.out).mono ?_; rintro e w6 ⟨rfl, h6, k6⟩; have F := hidIt (FIN.out _ _ _ _ V3.out V34.out V5.out h6 k6); clear h6 k6 GR2))
              go_meet
              exact F.out
        · have e1 : (kk == 1) = false := by simp [k1]
          by_cases k2 : kk = 2
          · as_aux_lemma =>
            subst k2
            clear e1 k1
            obtain ⟨rb0, hrb⟩ : ∃ b, (xv.tmod 2 == 0) = b := ⟨_, rfl⟩
            have HA := hidIt (pl_arrayH T2.out rb0 xn)
            have HB_ : Hid (∀ W, TwoV w.heap.size (fun _ => False) W p q mo (arL mo L rb0 xn) ss L ss → Calls Try.prog 16 #[.pointer (some ⟨q, 0, none⟩), .bool rb0, .int .i64 xn] W _) := hidIt fun W hW => pl_arrayR hW rb0 xn
            have FIN : Hid (∀ w3 W, TwoS w.heap.size (fun _ => False) w2 w3 → TwoV w.heap.size (fun _ => False) W p q mo (arL mo L rb0 xn) ss (arL mo L rb0 xn) ss → TwoS w.heap.size (fun _ => False) w3 W → PlI w.heap.size w p q mo (i + 1) W) := hidIt fun w3 W h1 h2 h3 =>
              ⟨_, ss, h2, arL_ok RF.out mo rb0 xn, S20.out, by omega, BW.out.trans ((h1.trans h3).below _ (Nat.le_refl _))⟩
            generalize (arA mo L xn).1 = r1 at *
            generalize (arA mo L xn).2 = r2 at *
            go_wp2_with (first
              | (go_at_call 15; refine HA.out.mono ?_; rintro e w3 ⟨rfl, h1, h2⟩; have U3 := hidIt h1; have V3 := hidIt h2; obtain ⟨f1, f2, f3, f5, f6⟩ := XC.out w3 h2; clear h1 h2 HA)
              | (go_at_call 16; refine (HB_.out _ U3.out).mono ?_; rintro e w4 ⟨rfl, h1, h2⟩; have F := hidIt (FIN.out _ _ V3.out h1 h2); clear h1 h2 HB_))
            go_meet
            exact F.out
          · have e2 : (kk == 2) = false := by simp [k2]
            by_cases k3 : kk = 3
            · subst k3
              clear e1 e2 k1 k2
              have GP : Hid (∀ n, Calls Try.prog 17 #[.slice aa L.length ca, .int .i64 n] w2 fun e w' => ∃ x, e = .returned (.int .i64 x) ∧ w' = w2 ∧ (x = n ∨ x ∈ begs 0 L)) := hidIt fun n => pick_any (NOwn.view NA.out) (by rw [begs_len]; omega) n
              have XC1 : Hid (∀ W, TwoS w.heap.size (fun _ => False) w2 W → W.cell? ⟨wr.heap.size, 1, none⟩ = some (.int .i64 xn)) := hidIt fun W hW => (XC.out W hW).1
              have GH : Hid (∀ v n x W, TwoV w.heap.size (fun _ => False) W p q mo L ss L ss → Calls Try.prog 18 #[.pointer (some ⟨p, 0, none⟩), .int .i64 v, .int .i64 n, .int .i64 x] W fun e w' => e = .returned (.int .i64 (seA ss L v n x)) ∧ TwoV w.heap.size (fun _ => False) w' p q mo (seL ss L v n x) ss L ss ∧ TwoS w.heap.size (fun _ => False) W w') := hidIt fun v n x W h => pl_setH h v n x
              have GR : Hid (∀ v n x W, TwoV w.heap.size (fun _ => False) W p q mo (seL ss L v n x) ss L ss → Calls Try.prog 19 #[.pointer (some ⟨q, 0, none⟩), .int .i64 v, .int .i64 n, .int .i64 x] W fun e w' => e = .returned (.int .i64 (seA ss L v n x)) ∧ TwoV w.heap.size (fun _ => False) w' p q mo (seL ss L v n x) ss (seL ss L v n x) ss ∧ TwoS w.heap.size (fun _ => False) W w') := hidIt fun v n x W h => pl_setR h v n x
              have FIN : Hid (∀ v n x W, TwoV w.heap.size (fun _ => False) W p q mo (seL ss L v n x) ss (seL ss L v n x) ss → TwoS w.heap.size (fun _ => False) w2 W → PlI w.heap.size w p q mo (i + 1) W) := hidIt fun v n x W h1 h2 =>
                ⟨_, ss, h1, seL_ok RF.out v n x, S20.out, by omega, BW.out.trans (h2.below _ (Nat.le_refl _))⟩
              by_cases hto0 : 0 ≤ xto
              · as_aux_lemma =>
                clear XC RF S20
                go_wp2_with (go_at_call 17; refine (GP.out _).mono ?_; rintro e w3 ⟨of, rfl, hww, -⟩; cases hww)
                have S0 := XC1.out w2 (TwoS.refl _)
                go_region_held3 (fun W => W.cell? ⟨wr.heap.size, 1, none⟩ = some (.int .i64 xn)) (first | exact S0 | exact XC1.out _ (T2.out.drewN _).2 | exact XC1.out _ (by assumption))
                  (first
                    | (go_at_call 18; refine (GH.out _ _ _ _ (by first | exact T2.out | exact (T2.out.drewN _).1)).mono ?_; rintro e w3 ⟨rfl, ht3, hs3⟩; have hs3' := (by first | exact hs3 | exact (T2.out.drewN _).2.trans hs3 : TwoS w.heap.size (fun _ => False) w2 w3))
                    | (go_at_call 19; refine (GR.out _ _ _ _ (by first | exact ht3 | exact (TwoV.drewN ht3 _).1)).mono ?_; rintro e w4 ⟨rfl, ht4, hs4⟩; have hs34 := (by first | exact hs4 | exact (TwoV.drewN ht3 _).2.trans hs4 : TwoS w.heap.size (fun _ => False) w3 w4); have hs4' := hs3'.trans hs34))
                all_goals
                  have F := hidIt (FIN.out _ _ _ _ ht4 hs4')
                  clear ht3 hs3 hs3' ht4 hs4 hs4' hs34 GH GR S0 XC1
                  go_wp2_with fail
                  go_meet
                  exact F.out
              · as_aux_lemma =>
                have hto1 : xto < 0 := by omega
                clear XC RF S20
                go_wp2_with (go_at_call 17; refine (GP.out xof).mono ?_; rintro e w3 ⟨of, rfl, hww, -⟩; cases hww)
                have S0 := XC1.out w2 (TwoS.refl _)
                go_region_held3 (fun W => W.cell? ⟨wr.heap.size, 1, none⟩ = some (.int .i64 xn)) (first | exact S0 | exact XC1.out _ (T2.out.drewN _).2 | exact XC1.out _ (by assumption))
                  (first
                    | (go_at_call 18; refine (GH.out _ _ _ _ (by first | exact T2.out | exact (T2.out.drewN _).1)).mono ?_; rintro e w3 ⟨rfl, ht3, hs3⟩; have hs3' := (by first | exact hs3 | exact (T2.out.drewN _).2.trans hs3 : TwoS w.heap.size (fun _ => False) w2 w3))
                    | (go_at_call 19; refine (GR.out _ _ _ _ (by first | exact ht3 | exact (TwoV.drewN ht3 _).1)).mono ?_; rintro e w4 ⟨rfl, ht4, hs4⟩; have hs34 := (by first | exact hs4 | exact (TwoV.drewN ht3 _).2.trans hs4 : TwoS w.heap.size (fun _ => False) w3 w4); have hs4' := hs3'.trans hs34))
                all_goals
                  have F := hidIt (FIN.out _ _ _ _ ht4 hs4')
                  clear ht3 hs3 hs3' ht4 hs4 hs4' hs34 GH GR S0 XC1
                  go_wp2_with fail
                  go_meet
                  exact F.out
            · have e3 : (kk == 3) = false := by simp [k3]
              by_cases k4 : kk = 4
              · as_aux_lemma =>
                subst k4
                clear e1 e2 e3 k1 k2 k3
                have GP : Hid (∀ n, Calls Try.prog 17 #[.slice aa L.length ca, .int .i64 n] w2 fun e w' => ∃ x, e = .returned (.int .i64 x) ∧ w' = w2 ∧ (x = n ∨ x ∈ begs 0 L)) := hidIt fun n => pick_any (NOwn.view NA.out) (by rw [begs_len]; omega) n
                have XC1 : Hid (∀ W, TwoS w.heap.size (fun _ => False) w2 W → W.cell? ⟨wr.heap.size, 5, none⟩ = some (.int .i64 xv)) := hidIt fun W hW => (XC.out W hW).2.2.2.1
                have GH : Hid (∀ v x W, TwoV w.heap.size (fun _ => False) W p q mo L ss L ss → Calls Try.prog 20 #[.pointer (some ⟨p, 0, none⟩), .int .i64 v, .int .i64 x] W fun e w' => e = .returned (.int .i64 (tgA L v)) ∧ TwoV w.heap.size (fun _ => False) w' p q mo (tgL L v x) ss L ss ∧ TwoS w.heap.size (fun _ => False) W w') := hidIt fun v x W h => pl_tagH h v x
                have GR : Hid (∀ v x W, TwoV w.heap.size (fun _ => False) W p q mo (tgL L v x) ss L ss → Calls Try.prog 21 #[.pointer (some ⟨q, 0, none⟩), .int .i64 v, .int .i64 x] W fun e w' => e = .returned (.int .i64 (tgA L v)) ∧ TwoV w.heap.size (fun _ => False) w' p q mo (tgL L v x) ss (tgL L v x) ss ∧ TwoS w.heap.size (fun _ => False) W w') := hidIt fun v x W h => pl_tagR h v x
                have FIN : Hid (∀ v x W, TwoV w.heap.size (fun _ => False) W p q mo (tgL L v x) ss (tgL L v x) ss → TwoS w.heap.size (fun _ => False) w2 W → PlI w.heap.size w p q mo (i + 1) W) := hidIt fun v x W h1 h2 =>
                  ⟨_, ss, h1, tgL_ok RF.out v x, S20.out, by omega, BW.out.trans (h2.below _ (Nat.le_refl _))⟩
                clear d1 d3 d5 d6 XC RF S20
                go_wp2_with (go_at_call 17; refine (GP.out _).mono ?_; rintro e w3 ⟨of, rfl, hww, -⟩; cases hww; clear GP)
                have S0 := XC1.out w2 (TwoS.refl _)
                go_region_held3 (fun W => W.cell? ⟨wr.heap.size, 5, none⟩ = some (.int .i64 xv)) (first | exact S0 | exact XC1.out _ (T2.out.drewN _).2 | exact XC1.out _ (by assumption))
                  (first
                    | (go_at_call 20; refine (GH.out _ _ _ (by first | exact T2.out | exact (T2.out.drewN _).1)).mono ?_; rintro e w3 ⟨rfl, ht3, hs3⟩; have hs3' := (by first | exact hs3 | exact (T2.out.drewN _).2.trans hs3 : TwoS w.heap.size (fun _ => False) w2 w3))
                    | (go_at_call 21; refine (GR.out _ _ _ (by first | exact ht3 | exact (TwoV.drewN ht3 _).1)).mono ?_; rintro e w4 ⟨rfl, ht4, hs4⟩; have hs34 := (by first | exact hs4 | exact (TwoV.drewN ht3 _).2.trans hs4 : TwoS w.heap.size (fun _ => False) w3 w4); have hs4' := hs3'.trans hs34))
                all_goals
                  have F := hidIt (FIN.out _ _ _ ht4 hs4')
                  clear ht3 hs3 hs3' ht4 hs4 hs4' hs34 GH GR S0 XC1
                  go_wp2_with fail
                  go_meet
                  exact F.out
              · have e4 : (kk == 4) = false := by simp [k4]
                by_cases k5 : kk = 5
                · as_aux_lemma =>
                  subst k5
                  clear e1 e2 e3 e4 k1 k2 k3 k4
                  have NV := hidIt (NOwn.view NA.out)
                  have hpl : (pairA 0 L).length = L.length := pairA_len L 0
                  have XB : Hid (∀ W, Below w2.heap.size w2 W → W.cell? ⟨wr.heap.size, 1, none⟩ = some (.int .i64 xn) ∧ W.cell? ⟨wr.heap.size, 6, none⟩ = some (.slice ao6 bits.length c6)) := hidIt fun W hW => by
                    have hk := BX.out.kept (hW.block _ BX.out.lt)
                    exact ⟨hk.cell 1, hk.cell 6⟩
                  have BVB : Hid (∀ W, Below w2.heap.size w2 W → BView W (.slice ao6 bits.length c6) bits) := hidIt fun W hW => BV2.out W (BW.out.trans (hW.mono BW.out.size))
                  clear d1 d2 d3 d5 d6 XC BY BX NA BV1 BV2
                  generalize wr.heap.size = gx at *
                  go_wp2_with fail
                  go_loopw [22, 23] (fun kv jv W => ∃ (k : Nat) (A : List (Nat × Ob)), k ≤ L.length ∧ jv = .int .i64 (k : Int) ∧ A.length ≤ k ∧ A ++ keepK ((pairA 0 L).drop k) (bits.drop k) = keepK (pairA 0 L) bits ∧ NOwn W w2.heap.size kv (keysK A) ∧ Below w2.heap.size w2 W) (fun _ jv _ => L.length - (intOf jv).toNat)
                  case atStart => exact ⟨0, [], Nat.zero_le _, rfl, Nat.le_refl _, rfl, NOwn.nil _ _, Below.refl _ _⟩
                  case round =>
                    clear d0
                    obtain ⟨k, A, hk, rfl, hAk, hA, ho, hb⟩ := hrel
                    have HO := hidIt ho
                    have HB2 := hidIt hb
                    obtain ⟨ao3, cap3, rfl⟩ := own_slice ho
                    have hz : w2.heap.size ≤ wr.heap.size := hb.size
                    have hll : (keysK A).length ≤ 16384 := by rw [keysK_len]; omega
                    by_cases hlt : k < L.length
                    · have hlt' : (k : Int) < (L.length : Int) := by omega
                      obtain ⟨x, hx⟩ : ∃ x, (pairA 0 L)[k]? = some x := ⟨_, List.getElem?_eq_getElem (by omega)⟩
                      have hbk : (begs 0 L)[k]? = some ((x.1 : Int) + 1) := by
                        rw [← pairA_keys, keysK, List.getElem?_map, hx]; rfl
                      obtain ⟨g0, off0, rfl, c0⟩ := (NV.out.below hb).row hbk
                      have x6 := (XB.out wr hb).2
                      have hst := keepK_step (bs := bits) hx
                      have NX : Hid (∀ W v, NOwn W w2.heap.size v (keysK A ++ [(x.1 : Int) + 1]) → NOwn W w2.heap.size v (keysK (A ++ [x]))) := hidIt fun W v h => by
                        rw [show keysK (A ++ [x]) = keysK A ++ [(x.1 : Int) + 1] from by simp [keysK]]
                        exact h
                      have F1 : Hid (((bits[k]?).getD true = true) → (A ++ [x]) ++ keepK ((pairA 0 L).drop (k + 1)) (bits.drop (k + 1)) = keepK (pairA 0 L) bits) := hidIt fun h => by
                        rw [if_pos h] at hst
                        rw [← hA, hst, List.append_assoc, List.singleton_append]
                      have F0 : Hid (((bits[k]?).getD true = false) → A ++ keepK ((pairA 0 L).drop (k + 1)) (bits.drop (k + 1)) = keepK (pairA 0 L) bits) := hidIt fun h => by
                        rw [if_neg (by rw [h]; simp)] at hst
                        rw [← hA, hst]
                      clear hx hbk hst hA hpl RF S20 T2 BW XB NV
                      rcases (show bits.length ≤ k ∨ k < bits.length by omega) with hbl | hbl
                      · have F := hidIt (F1.out (by rw [List.getElem?_eq_none hbl]; rfl))
                        have hbl1 : (bits.length : Int) ≤ (k : Int) := by omega
                        have hbl2 : ¬ (k : Int) < (bits.length : Int) := by omega
                        clear F0 F1 ho hb BVB
                        generalize (x.1 : Int) + 1 = y at *
                        generalize keysK A = acc at *
                        go_wp2_with (at_builtin; refine wpList_nappend rfl _ _ rfl w2.heap.size _ _ _ HO.out rfl rfl (by omega) hz ?_; intro ao4 cap4 w8 ho2 st2; have HB3 := hidIt ((HB2.out.trans ((balloc _ _).mono hz)).trans (st2.below (Nat.le_trans hz (balloc _ _).size) (fun k hk => (HO.out.lt k hk).1))); have HO2 := hidIt (NX.out _ _ ho2); clear ho2 st2)
                        exact ⟨⟨k + 1, A ++ [x], by omega, by go_num, by simp; omega, F.out, HO2.out, HB3.out⟩, by simp [intOf]; omega⟩
                      · obtain ⟨b, hb'⟩ : ∃ b, bits[k]? = some b := ⟨_, List.getElem?_eq_getElem hbl⟩
                        obtain ⟨g6, off6, rfl, c66⟩ := (BVB.out wr hb).row hb'
                        have hbl1 : ¬ (bits.length : Int) ≤ (k : Int) := by omega
                        have hbl2 : (k : Int) < (bits.length : Int) := by omega
                        cases b with
                        | false =>
                          have F := hidIt (F0.out (by rw [hb']; rfl))
                          clear F0 F1 ho hb BVB hb' NX
                          generalize (x.1 : Int) + 1 = y at *
                          go_wp2_with fail
                          exact ⟨⟨k + 1, A, by omega, by go_num, by omega, F.out, HO.out, HB2.out⟩, by simp [intOf]; omega⟩
                        | true =>
                          have F := hidIt (F1.out (by rw [hb']; rfl))
                          clear F0 F1 ho hb BVB hb'
                          generalize (x.1 : Int) + 1 = y at *
                          generalize keysK A = acc at *
                          go_wp2_with (at_builtin; refine wpList_nappend rfl _ _ rfl w2.heap.size _ _ _ HO.out rfl rfl (by omega) hz ?_; intro ao4 cap4 w8 ho2 st2; have HB3 := hidIt ((HB2.out.trans ((balloc _ _).mono hz)).trans (st2.below (Nat.le_trans hz (balloc _ _).size) (fun k hk => (HO.out.lt k hk).1))); have HO2 := hidIt (NX.out _ _ ho2); clear ho2 st2)
                          exact ⟨⟨k + 1, A ++ [x], by omega, by go_num, by simp; omega, F.out, HO2.out, HB3.out⟩, by simp [intOf]; omega⟩
                    · have hAe : A = keepK (pairA 0 L) bits := by
                        rw [← hA, show (pairA 0 L).drop k = [] from List.drop_eq_nil_of_le (by omega)]; simp [keepK]
                      have hKA : KOk L A := by rw [hAe]; exact (pairA_ok L).sub (keepK_sub _ _)
                      have hall := hKA.rootsB
                      have TW := hidIt (T2.out.below hb).1
                      have hlt' : ¬ (k : Int) < (L.length : Int) := by omega
                      have x1 := (XB.out wr hb).1
                      have BWr := hidIt (BW.out.trans (hb.mono BW.out.size))
                      have GM := hidIt (two_markR TW.out RF.out _ (NOwn.view HO.out) (by omega) hall)
                      have GSH : Hid (∀ W B K v, TwoV w.heap.size (fun _ => False) W p q mo L ss L ss → KOk L K → NOwn W B v (keysK K) → Calls Try.prog 23 #[.pointer (some ⟨p, 0, none⟩), v] W _) := hidIt fun W B K v h1 h2 h3 => pl_slideH h1 RF.out h2 v h3
                      have GSR : Hid (∀ W B K v, TwoV w.heap.size (fun _ => False) W p q mo (slL ss L K) ss L ss → KOk L K → NOwn W B v (keysK K) → Calls Try.prog 24 #[.pointer (some ⟨q, 0, none⟩), v] W _) := hidIt fun W B K v h1 h2 h3 => pl_slideR h1 RF.out h2 v (NOwn.view h3)
                      have FIN : Hid (∀ K w5 w6 w7 W, Below w.heap.size w w5 → TwoS w.heap.size (fun _ => False) w5 w6 → TwoS w.heap.size (fun _ => False) w6 w7 → TwoV w.heap.size (fun _ => False) w7 p q mo (slL ss L K) ss (slL ss L K) ss → Below w7.heap.size w7 W → PlI w.heap.size w p q mo (i + 1) W) := hidIt fun K w5 w6 w7 W h1 h2 h3 h4 h5 => by
                        have hbw := h1.trans ((h2.trans h3).below _ (Nat.le_refl _))
                        exact ⟨_, ss, (h4.below h5).1, slL_ok RF.out, S20.out, by omega, hbw.trans (h5.mono hbw.size)⟩
                      have KA := hidIt hKA
                      clear ho hb hA hAe hKA hall hpl RF S20 T2 BW XB NV BVB hlt hAk hk hll
                      by_cases hx1 : xn = 1
                      · subst hx1
                        go_wp2_with (first
                          | (go_at_call 22; refine GM.out.mono ?_; rintro e w5 ⟨K, am, cm, hK, rfl, hn, hbm⟩; have NK := hidIt hn; have KK := hidIt hK.ok; have TM := hidIt (TW.out.below hbm).1; have BM := hidIt (BWr.out.trans (hbm.mono BWr.out.size)); clear hn hK hbm GM)
                          | (go_at_call 23; refine (GSH.out _ _ _ _ TM.out KK.out NK.out).mono ?_; rintro e w6 ⟨v6, rfl, hn6, ht6, hs6⟩; have N6 := hidIt hn6; have S6 := hidIt hs6; obtain ⟨a6, c6x, rfl⟩ := own_slice hn6; have GR2 := hidIt (GSR.out _ _ _ _ ht6 KK.out (hs6.nown NK.out)); clear hn6 ht6 hs6 GSH GSR)
                          | (go_at_call 24; refine GR2.out.mono ?_; rintro e w7 ⟨v7, rfl, hn7, ht7, hs7⟩; have N7 := hidIt hn7; have N67 := hidIt (hs7.nown N6.out); obtain ⟨a7, c7x, rfl⟩ := own_slice hn7; have F7 := hidIt (fun W hW => FIN.out _ _ _ _ W BM.out S6.out hs7 ht7 hW); clear hn7 ht7 hs7 GR2)
                          | (go_at_call 25; refine (nsame_any _ _ _ _ (NOwn.view N67.out) (NOwn.view N7.out)).mono ?_; rintro e w8 ⟨rfl, hb8⟩; have F := hidIt (F7.out _ hb8); clear hb8))
                        go_meet
                        exact F.out
                      · have hx1' : (xn == 1) = false := by simp [hx1]
                        clear GM
                        go_wp2_with (first
                          | (go_at_call 23; refine (GSH.out _ _ _ _ TW.out KA.out HO.out).mono ?_; rintro e w6 ⟨v6, rfl, hn6, ht6, hs6⟩; have N6 := hidIt hn6; have S6 := hidIt hs6; obtain ⟨a6, c6x, rfl⟩ := own_slice hn6; have GR2 := hidIt (GSR.out _ _ _ _ ht6 KA.out (hs6.nown HO.out)); clear hn6 ht6 hs6 GSH GSR)
                          | (go_at_call 24; refine GR2.out.mono ?_; rintro e w7 ⟨v7, rfl, hn7, ht7, hs7⟩; have N7 := hidIt hn7; have N67 := hidIt (hs7.nown N6.out); obtain ⟨a7, c7x, rfl⟩ := own_slice hn7; have F7 := hidIt (fun W hW => FIN.out _ _ _ _ W BWr.out S6.out hs7 ht7 hW); clear hn7 ht7 hs7 GR2)
                          | (go_at_call 25; refine (nsame_any _ _ _ _ (NOwn.view N67.out) (NOwn.view N7.out)).mono ?_; rintro e w8 ⟨rfl, hb8⟩; have F := hidIt (F7.out _ hb8); clear hb8))
                        go_meet
                        exact F.out
                · as_aux_lemma =>
                  have e5 : (kk == 5) = false := by simp [k5]
                  have F : Hid (PlI w.heap.size w p q mo (i + 1) w2) := hidIt ⟨L, ss, T2.out, RF.out, S20.out, by omega, BW.out⟩
                  go_wp2_with fail
                  go_meet
                  exact F.out
      case rest =>
        as_aux_lemma =>
        clear d0 d1 d2 d3 d5 d6 XC BW T2 NA BX BY RF S20 BB
        obtain ⟨L2, s2, ht, hrf, hs20, hsl2, hbb⟩ := hcut
        have GSm := hidIt (psame_any ht)
        have FIN : Hid (∀ W, Below wc.heap.size wc W → PlI w.heap.size w p q mo (i + 1) W) := hidIt fun W hW => ⟨L2, s2, (ht.below hW).1, hrf, hs20, hsl2, hbb.trans (hW.mono hbb.size)⟩
        clear ht hrf hs20 hbb hsl2
        go_wp2_with (go_at_call 26; refine GSm.out.mono ?_; rintro e w3 ⟨rfl, hb⟩; have F := hidIt (FIN.out _ hb); clear hb)
        exact ⟨⟨i + 1, by go_num, by omega, F.out⟩, by simp [intOf]; omega⟩
    · have hcs : ¬ (i : Int) < (ln : Int) ∨ ((i : Int) < (ln : Int) ∧ ¬ (i : Int) < 40) := by omega
      obtain ⟨L, ss, -, -, -, -, hbb⟩ := hst
      have BB := hidIt hbb
      clear hbb hlt
      rcases hcs with h1 | ⟨h1, h2⟩
      · go_wp2_with (go_at_call 27; refine (known_any _).mono ?_; rintro e w9 ⟨rfl, hb⟩; have BK := hidIt (BB.out.trans (hb.mono BB.out.size)); clear hb)
        go_ret
        exact ⟨rfl, BK.out⟩
      · go_wp2_with (go_at_call 27; refine (known_any _).mono ?_; rintro e w9 ⟨rfl, hb⟩; have BK := hidIt (BB.out.trans (hb.mono BB.out.size)); clear hb)
        go_ret
        exact ⟨rfl, BK.out⟩
theorem plays_w (words : Int) (v : Value) (l : List Pk) (w : World) (hv : PkV w v l) : Calls Try.prog 3 #[.int .i64 words, v] w fun e w' => e = .returned (.bool true) ∧ Below w.heap.size w w' := plays_any v l words w hv
end Go.Proofs.Ytepegebkjegjiaa.J
