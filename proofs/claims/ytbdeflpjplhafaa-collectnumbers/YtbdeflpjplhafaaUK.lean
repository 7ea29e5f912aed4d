/- Shape of the document's own heap: walked. -/
import Derived.Test.YtbdeflpjplhafaaUJ
namespace Go.Proofs.Ytbdeflpjplhafaa.J
open Go.RowKit Go.MapKept Go.ChangeMaps
set_option linter.unusedVariables false

variable {n0 : Nat} {w : World} {R : RB} {most : Nat} {l : List Ob} {ss : List (List Bool)}
theorem Try.infoLB : (Try.prog.info? 52).map (fun i => (i.zero, i.size, i.bytes)) = some (some (.slice none 0 0), 1, 24) := by kernel_rfl
def UShQ (n0 : Nat) (w : World) (R : RB) (most : Nat) (l : List Ob) (ss : List (List Bool)) (w' : World) : Prop := ∃ R', RV n0 w' R' most l ss ∧ RStep R R' w w'
set_option maxRecDepth 8000 in
set_option maxHeartbeats 4000000 in
theorem ushape_any (h : RV n0 w R most l ss) (u : Value) (r : List Bool) (hu : BView w u r) (hr : r.length ≤ 100000) (hs : ss.length ≤ 100000) : Calls Try.prog 21 #[R.ptr, u] w fun e w' => e = .returned (.int .i64 (numS ss r : Int)) ∧ UShQ n0 w R most l (addS ss r) w' := by
  have HU := hidIt hu
  obtain ⟨ua, uc, rfl, huc, hum, _⟩ := hu
  unfold maxLen at hum
  obtain ⟨ao, cap, es⟩ := own_slice h.so
  obtain ⟨hcap1, hcap2⟩ := own_cap (by have := h.so; rwa [es] at this)
  unfold maxLen at hcap2
  have HH := hidIt h
  have HX : Hid (∀ q, (w.drewN q).cell? ⟨R.rb, 2, none⟩ = some (.slice ao ss.length cap)) := hidIt (fun q => by rw [(h.drewN q).box.cell 2, ← es]; rfl)
  have HG : Hid (∀ (i : Nat) s, ss[i]? = some s → ∃ g ga gc, ao = some ⟨g, 0, none⟩ ∧ s.length ≤ gc ∧ gc ≤ 9223372036854775807 ∧ (∀ q, (w.drewN q).cell? ⟨g, i, none⟩ = some (.slice ga s.length gc)) ∧ ∀ (k : Nat) b, s[k]? = some b → ∃ gg, ga = some ⟨gg, 0, none⟩ ∧ ∀ q, (w.drewN q).cell? ⟨gg, k, none⟩ = some (.bool b)) := hidIt (fun i s hi => by
    have hsl := (List.getElem?_eq_some_iff.1 hi).1
    obtain ⟨gv, hgv⟩ : ∃ gv, R.gvs[i]? = some gv := ⟨R.gvs[i]'(by rw [h.gl]; exact hsl), List.getElem?_eq_getElem _⟩
    have hgo := h.go _ _ _ hgv hi
    obtain ⟨ga, gc, eg⟩ := own_slice hgo
    subst eg
    have hso := h.so
    rw [es] at hso
    obtain ⟨g, rfl, -, -, hc, -⟩ := own_cell hso hgv
    obtain ⟨c1, c2⟩ := own_cap hgo
    unfold maxLen at c2
    exact ⟨g, ga, gc, rfl, c1, by omega, fun q => hc, fun k b hb => by
      obtain ⟨gg, e1, -, -, hc2, -⟩ := own_cell hgo (tcells_at hb)
      exact ⟨gg, e1, fun q => hc2⟩⟩)
  have x0 := HX.out 0
  unfold RB.ptr
  obtain ⟨N, hN⟩ : ∃ N, N = numS ss r := ⟨_, rfl⟩
  obtain ⟨Q, hQ⟩ : ∃ Q, Q = UShQ n0 w R most l (addS ss r) := ⟨_, rfl⟩
  rw [← hN, ← hQ]
  have FOLD : Hid (∀ (i : Nat), ss[i]? = some r → (∀ j, j < i → ss[j]? ≠ some r) → N = i ∧ ∀ q, Q (w.drewN q)) := hidIt (fun i hi hj => by
    have e := idxS_first hi hj
    rw [hN, hQ]
    refine ⟨by unfold numS; rw [e], fun q => ⟨R, by unfold addS; rw [e]; exact h.drewN q, RStep.of_below (below_drewN (Below.refl _ _) q)⟩⟩)
  have FNEW : Hid ((∀ j, j < ss.length → ss[j]? ≠ some r) → N = ss.length ∧ ∀ R' w', RV n0 w' R' most l (ss ++ [r]) → RStep R R' w w' → Q w') := hidIt (fun hj => by
    have e := idxS_all hj
    rw [hN, hQ]
    exact ⟨by unfold numS; rw [e], fun R' w' a b => ⟨R', by unfold addS; rw [e]; exact a, b⟩⟩)
  clear hN hQ h
  go_enter Try.func21, Try.ntmps21
  go_wp2_with fail
  clear x0
  go_loopw [5] (fun iv wr => ∃ i q : Nat, iv = .int .i64 (i : Int) ∧ i ≤ ss.length ∧ (∀ j, j < i → ss[j]? ≠ some r) ∧ wr = w.drewN q) (fun iv _ => ss.length - (intOf iv).toNat)
  case atStart => exact ⟨0, 0, rfl, Nat.zero_le _, fun j hj => absurd hj (by omega), rfl⟩
  case round =>
    obtain ⟨i, q, rfl, hi, hjs, hw⟩ := hrel
    have HJ := hidIt hjs
    have HW := hidIt hw
    have x0 := HX.out q
    rw [← hw] at x0
    clear hjs
    by_cases hlt : i < ss.length
    · have hlt' : (i : Int) < (ss.length : Int) := by omega
      obtain ⟨s, hsi⟩ : ∃ s, ss[i]? = some s := ⟨ss[i], List.getElem?_eq_getElem hlt⟩
      obtain ⟨g, ga, gc, rfl, hgc1, hgc2, hc, hcell⟩ := HG.out i s hsi
      have c0 := hc q
      rw [← hw] at c0
      have HSI := hidIt hsi
      have HC := hidIt hc
      have HCE := hidIt hcell
      clear hsi hc hcell hw
      obtain ⟨b0, hbb, hb1, hb2⟩ : ∃ b0, ((s.length : Int) == (r.length : Int)) = b0 ∧ (b0 = true → s.length = r.length) ∧ (b0 = false → s ≠ r) := by
        by_cases e : s.length = r.length
        · exact ⟨true, by simp [e], fun _ => e, (fun h => by cases h)⟩
        · exact ⟨false, by simp; omega, (fun h => by cases h), fun _ e2 => e (by rw [e2])⟩
      have HB1 := hidIt hb1
      have HB2 := hidIt hb2
      clear hb1 hb2
      go_wp2_with fail
      clear hbb x0 c0
      go_loopw [6, 7] (fun sv kv wr => ∃ (k q : Nat) (b : Bool), kv = .int .i64 (k : Int) ∧ k ≤ r.length ∧ sv = .bool b ∧ (b = true → s.length = r.length ∧ ∀ j, j < k → s[j]? = r[j]?) ∧ (b = false → s ≠ r) ∧ wr = w.drewN q) (fun _ kv _ => r.length - (intOf kv).toNat)
      case atStart => exact ⟨0, q, b0, rfl, Nat.zero_le _, rfl, fun e => ⟨HB1.out e, fun j hj => absurd hj (by omega)⟩, HB2.out, HW.out⟩
      case round =>
        clear HB1 HB2 HW
        obtain ⟨k, q2, b, rfl, hk, rfl, hb1, hb2, hw⟩ := hrel
        have HW := hidIt hw
        have x0 := HX.out q2
        have c0 := HC.out q2
        rw [← hw] at x0 c0
        have HB1 := hidIt hb1
        have HB2 := hidIt hb2
        clear hb1 hb2
        cases b with
        | false =>
          have NX : Hid (∀ j, j < i + 1 → ss[j]? ≠ some r) := hidIt (fun j hj => by
            by_cases e : j = i
            · subst e
              rw [HSI.out]
              intro e2
              cases e2
              exact HB2.out rfl rfl
            · exact HJ.out j (by omega))
          clear hw
          go_wp2_with fail
          exact ⟨⟨i + 1, q2, by go_num, by omega, NX.out, HW.out⟩, by simp [intOf]; omega⟩
        | true =>
          obtain ⟨hle, hje⟩ := HB1.out rfl
          have HJE := hidIt hje
          have HLE := hidIt hle
          clear hje
          by_cases hkl : k < r.length
          · have hkl' : (k : Int) < (r.length : Int) := by omega
            have hks : k < s.length := by omega
            have hks' : (k : Int) < (s.length : Int) := by omega
            obtain ⟨x, hx⟩ : ∃ x, s[k]? = some x := ⟨s[k], List.getElem?_eq_getElem hks⟩
            obtain ⟨y, hy⟩ : ∃ y, r[k]? = some y := ⟨r[k], List.getElem?_eq_getElem hkl⟩
            obtain ⟨gg, rfl, hcx⟩ := HCE.out k x hx
            obtain ⟨gr, or, rfl, hcy⟩ := (HU.out.below (below_drewN (Below.refl _ _) q2)).row hy
            have c1 := hcx q2
            rw [← hw] at c1 hcy
            have NT : Hid (x = y → ∀ j, j < k + 1 → s[j]? = r[j]?) := hidIt (fun e j hj => by
              by_cases e2 : j = k
              · subst e2; rw [hx, hy, e]
              · exact HJE.out j (by omega))
            have NF : Hid (x ≠ y → s ≠ r) := hidIt (fun e e2 => by rw [e2, hy] at hx; cases hx; exact e rfl)
            clear hx hy hcx hw hle
            generalize r.length = RL at *
            generalize s.length = SL at *
            obtain ⟨b', hb'⟩ : ∃ b', (x == y) = b' := ⟨_, rfl⟩
            have HB' : Hid ((b' = true → x = y) ∧ (b' = false → x ≠ y)) := hidIt (by subst hb'; exact ⟨fun e => by simpa using e, fun e => by simpa using e⟩)
            go_wp2_with fail
            go_quiet (fail)
            go_wp2_with fail
            exact ⟨⟨k + 1, q2 + nq, b', by go_num, by omega, rfl, fun e => ⟨HLE.out, NT.out (HB'.out.1 e)⟩, fun e => NF.out (HB'.out.2 e), by rw [HW.out, World.drewN_drewN]⟩, by simp [intOf]; omega⟩
          · have hkl' : ¬ (k : Int) < (r.length : Int) := by omega
            have hsr : s = r := by
              apply List.ext_getElem?
              intro j
              by_cases e : j < k
              · exact HJE.out j e
              · rw [List.getElem?_eq_none (by omega), List.getElem?_eq_none (by omega)]
            have F := hidIt (FOLD.out i (by rw [HSI.out, hsr]) HJ.out)
            have F2 : Hid (Q wr) := hidIt (by rw [hw]; exact F.out.2 q2)
            have F1 := F.out.1
            clear hw hsr hle FOLD FNEW
            go_wp2_with fail
            go_ret
            exact ⟨by first | rfl | (rw [F1]; rfl), F2.out⟩
    · have hlt' : ¬ (i : Int) < (ss.length : Int) := by omega
      obtain rfl : i = ss.length := by omega
      obtain ⟨hN, hQ⟩ := FNEW.out HJ.out
      have H1 : RV n0 wr R most l ss := by rw [hw]; exact HH.out.drewN q
      have S1 : Hid (Below w.heap.size w wr) := hidIt (by rw [hw]; exact below_drewN (Below.refl _ _) q)
      have HU1 := hidIt (HU.out.below S1.out)
      have HQ := hidIt hQ
      have HN := hidIt hN
      clear FOLD FNEW HG HX hQ hw hN HJ HW
      go_upto_region 11 with (fail)
      clear x0
      obtain ⟨W0, hW0⟩ : ∃ W, W = wr := ⟨wr, rfl⟩
      subst hW0
      obtain ⟨X, hX⟩ : ∃ X, X = (W0.alloc (.cells #[] 4)).drew := ⟨_, rfl⟩
      have hbX : Below W0.heap.size W0 X := by rw [hX]; exact ((Below.refl _ _).alloc (Nat.le_refl _) _).drew
      have hoX : X.ownsRow W0.heap.size 4 1 (.slice (some ⟨W0.heap.size, 0, none⟩) 0 0) ([] : List Bool).length (tcells []) := by rw [hX]; exact own_kept (empty_own W0 4) (fun _ _ => rfl)
      obtain ⟨v1, w1, hr1, ho1, st1⟩ := run_bappend (w := X) 52 W0.heap.size _ _ [] r hoX (HU1.out.below hbX) (by simp; omega) hbX.size
      rw [List.nil_append, List.length_nil, Nat.zero_add] at ho1
      have hb1 : Below W0.heap.size W0 w1 := hbX.trans (st1.below hbX.size (fun b hb => (hoX.lt b hb).1))
      obtain ⟨a1, c1, e1⟩ := own_slice ho1
      subst e1
      obtain ⟨Y, hY⟩ : ∃ Y, Y = w1.alloc (.cells #[.slice a1 r.length c1] 52) := ⟨_, rfl⟩
      have hbY0 : Below w1.heap.size w1 Y := by rw [hY]; exact balloc _ _
      have hbY : Below W0.heap.size W0 Y := hb1.trans (hbY0.mono hb1.size)
      have hY1 : Y.heap[w1.heap.size]? = some (.cells #[.slice a1 r.length c1] 52 (0, 0)) := by rw [hY]; exact heap_alloc_new w1 _
      have hoY : Y.ownsRow n0 52 1 (.slice ao ss.length cap) ss.length R.gvs := by rw [← es]; exact own_below H1.so hbY
      have hgY : Y.ownsRow W0.heap.size 4 1 (.slice a1 r.length c1) r.length (tcells r) := own_below ho1 hbY0
      have hn0 : n0 ≤ W0.heap.size := by have := H1.lt (.inl rfl); omega
      obtain ⟨iL, hL, hL0, hL1, hL2⟩ := info_parts Try.infoLB
      obtain ⟨v2, w2, hr2, h2, hg2, _, hat2⟩ := run_append_own_at (P := Try.prog) Y n0 53 53 52 iL _ 1 24 Try.underlying53 hL hL0 hL1 hL2 rfl (by decide) (.slice ao ss.length cap) ss.length R.gvs hoY ⟨w1.heap.size, 0, none⟩ 1 1 [.slice a1 r.length c1] rfl (fun j u hj => by
        have e : (⟨w1.heap.size, 0, none⟩ : Addr).add j = ⟨w1.heap.size, j, none⟩ := by unfold Addr.add; split <;> simp_all
        rw [e, cell_of_row Y w1.heap.size j _ _ (0, 0) hY1]
        simpa using hj) (fun u hu => by
        obtain rfl : u = .slice a1 r.length c1 := by simpa using hu
        rfl) (by unfold maxLen; omega) (by omega) (Nat.le_trans hn0 hbY.size)
      obtain ⟨a2, c2, e2⟩ := own_slice h2
      subst e2
      have hbw : w2.heap[R.rb]? = W0.heap[R.rb]? := (hg2.block _ (Nat.lt_of_lt_of_le H1.box.lt hbY.size) (fun e => own_not H1.so H1.box (by decide) (by rw [es]; exact e.symm))).trans (hbY.block _ H1.box.lt)
      have y2 : w2.cell? ⟨R.rb, 2, none⟩ = some (.slice ao ss.length cap) := by rw [← es]; exact (H1.box.kept hbw).cell 2
      have z2 : w2.frozen? ⟨R.rb, 2, none⟩ = false := (H1.box.kept hbw).frozen 2
      have x0 : W0.drew.cell? ⟨R.rb, 2, none⟩ = some (.slice ao ss.length cap) := by rw [← es]; exact H1.box.cell 2
      have xX : X.cell? ⟨R.rb, 2, none⟩ = some (.slice ao ss.length cap) := by rw [← es]; exact (H1.below hbX).box.cell 2
      have x1 : w1.cell? ⟨R.rb, 2, none⟩ = some (.slice ao ss.length cap) := by rw [← es]; exact (H1.below hb1).box.cell 2
      have xY : Y.cell? ⟨R.rb, 2, none⟩ = some (.slice ao ss.length cap) := by rw [← es]; exact (H1.below hbY).box.cell 2
      have FIN0 := hidIt (H1.pushS r hbY hgY h2 (by rw [es]; exact hg2) (by rw [es]; exact hat2))
      have hbox2 : (w2.setCell ⟨R.rb, 2, none⟩ (.slice a2 (ss.length + 1) c2)).cell? ⟨R.rb, 2, none⟩ = some (.slice a2 (ss.length + 1) c2) := FIN0.out.1.box.cell 2
      have FIN := hidIt (HQ.out _ _ FIN0.out.1 ((RStep.of_below S1.out).trans FIN0.out.2))
      have HR1 := hidIt hr1
      have HR2 := hidIt hr2
      have hSI : (ss.length : Int) ≤ 100000 := by omega
      clear h2 hg2 hat2 hbw hoY hgY hoX ho1 st1 hb1 hbX hbY hbY0 hY1 hL hL0 hL1 hL2 H1 es hr1 hr2 FIN0 HH HU HU1
      subst hX hY
      go_region_law (first
        | (refine op_append rfl rfl rfl rfl HR1.out ?_)
        | (refine op_append rfl rfl rfl rfl HR2.out ?_))
      all_goals generalize w2.setCell ⟨R.rb, 2, none⟩ (.slice a2 (ss.length + 1) c2) = W9 at *
      all_goals go_wp2_with fail
      all_goals go_ret
      all_goals exact ⟨by rw [HN.out]; go_num, FIN.out⟩
end Go.Proofs.Ytbdeflpjplhafaa.J

