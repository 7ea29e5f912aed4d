/- PoolReads, walked. -/
import Derived.Test.YtjnaiekdbigikaaDoorRV
import Derived.Test.YtjnaiekdbigikaaDoorRW
import Derived.Test.YtjnaiekdbigikaaDoorAB
import Derived.Test.YtjnaiekdbigikaaDoorPG
import Derived.Test.YtjnaiekdbigikaaDoorPN
import Derived.Test.YtjnaiekdbigikaaDoorPQ
import Derived.Deep.RegionWith
import Derived.Deep.CutRange
import Derived.Deep.QuietTactic
import Derived.BigQuiet
import Derived.Laws.Closers25b
namespace Go.Proofs.YtjnaiekdbigikaaDoor
open Go.RowKit

/-- One byte of an owned row is written. -/
theorem byte_set {w : World} {B g n cap k : Nat} {l : List Int} {x : Int} (h : w.ownsRow B 5 1 (.slice (some ⟨g, 0, none⟩) n cap) n (bcells l)) (_hk : k < n) :
    (w.setCell ⟨g, k, none⟩ (.int .u8 x)).ownsRow B 5 1 (.slice (some ⟨g, 0, none⟩) n cap) n (bcells (l.set k x)) := by
  obtain ⟨hl, h⟩ := h
  have hll : l.length = n := by simpa [bcells] using hl
  rcases h with ⟨h, _⟩ | ⟨g', cap', cur, e, hB, hg, hnc, hcm, hcs, ht⟩
  · cases h
  · cases e
    refine ⟨by simp [bcells, hll], .inr ⟨g, cap, _, rfl, hB, gset_row hg, hnc, hcm, by simpa using hcs, ?_⟩⟩
    have e2 : bcells (l.set k x) = (bcells l).set k (.int .u8 x) := by unfold bcells; rw [List.map_set]
    rw [e2, ← ht, Array.toList_setIfInBounds, List.take_set]
theorem set_bytes {l : List Int} {k : Nat} {x : Int} (h : AllBytes l) (h0 : 0 ≤ x) (h1 : x ≤ 255) : AllBytes (l.set k x) := by
  intro y hy
  rcases List.mem_or_eq_of_mem_set hy with hy | rfl
  · exact h y hy
  · exact ⟨h0, h1⟩

theorem rdL_ok (l : List Int) (hb : AllBytes l) : ∀ (k : Nat) (acc : List CD) (a : Nat) (y : Int), (∀ c ∈ acc, c.Ok) → ∀ c ∈ (rdL l k acc a y).1, c.Ok
  | 0, _, _, _, h => h
  | k + 1, acc, a, y, h => by
    unfold rdL
    split
    · refine rdL_ok l hb k _ _ _ ?_
      intro c hc
      rcases List.mem_append.1 hc with hc | hc
      · exact h c hc
      · simp at hc; subst hc; exact rdC_ok l a y hb
    · exact h
theorem rdO_ok (l : List Int) (a : Nat) (y : Int) (hb : AllBytes l) : ∀ c ∈ rdO l a y, c.Ok := by
  unfold rdO
  split
  · exact rdL_ok l hb _ _ _ _ (by simp)
  · intro c hc; cases hc

theorem wput_len40 (l : List CD) (hl : l.length ≤ 40) : (wput l).length ≤ 100000 := by
  unfold wput
  split
  · unfold poolZ
    have := ents_len l
    rw [List.length_append, be_len]; omega
  · simp

set_option maxRecDepth 8000 in
set_option maxHeartbeats 8000000 in
theorem reads_any (vb v : Value) (b : List Int) (l0 : List CD) (n t : Int) (w : World) (hT : Tabs w) (hvb : View w vb b) (hbl : b.length ≤ 1099511627776) (hv0 : CView w v l0) (hs0 : ∀ c ∈ l0, c.Small) :
    Calls Tryd.prog 5 #[vb, v, .int .i64 n, .int .u8 t] w fun e w' => e = .returned (.bool true) ∧ Below w.heap.size w w' := by
  have h2 := hT.size
  obtain ⟨ao, cap, rfl, hcap, hm, hok0, _⟩ := id hv0
  obtain ⟨bo, bcap, rfl, hbc, hbm, hbb, _⟩ := id hvb
  unfold maxLen at hm hbm
  obtain ⟨l, hl40, hvl, hsm, hln⟩ : ∃ l : List CD, l.length ≤ 40 ∧ CView w (.slice ao l.length cap) l ∧ (∀ c ∈ l, c.Small) ∧ ((40 < l0.length ∧ l.length = 40) ∨ (l0.length ≤ 40 ∧ l.length = l0.length)) := by
    by_cases h : 40 < l0.length
    · have e : (l0.take 40).length = 40 := by rw [List.length_take]; omega
      refine ⟨l0.take 40, by omega, ?_, fun c hc => hs0 c (List.mem_of_mem_take hc), .inl ⟨h, e⟩⟩
      rw [e]
      exact gview_take hv0 (by omega)
    · exact ⟨l0, by omega, hv0, hs0, .inr ⟨by omega, rfl⟩⟩
  clear hv0 hs0
  go_enter Tryd.func5, Tryd.ntmps5
  go_upto_if 22 with fail
  go_cut [1] from 20 to 24 (fun s1 wx => s1 = .slice ao l.length cap ∧ wx = w)
  case first =>
    rcases hln with ⟨h1, h2⟩ | ⟨h1, h2⟩
    · have h1' : (40 : Int) < (l0.length : Int) := by omega
      have h3 : (40 : Int) ≤ (cap : Int) := by omega
      have H2 := D.hidIt h2
      clear h2
      go_wp2
      go_meet
      exact ⟨by rw [H2.out], rfl⟩
    · have h1' : ¬ (40 : Int) < (l0.length : Int) := by omega
      have H2 := D.hidIt h2
      clear h2
      go_wp2
      go_meet
      exact ⟨by rw [H2.out], rfl⟩
  case rest =>
    obtain ⟨rfl, hwx⟩ := hcut
    subst wc
    clear hln hok0 hcap
    have HW := D.hidIt (rwrite_any _ l w hvl hsm)
    have hwl := wput_len40 l hl40
    have hwb : AllBytes (wput l) := by
      unfold wput
      split
      · exact (be_bytes _ _).append (ents_bytes _)
      · intro x hx; cases hx
    generalize wput l = X at *
    generalize wcode l = cd at *
    go_wp2_with fail
    refine HW.out.mono ?_
    rintro e w1 ⟨b1, u, rfl, o1⟩
    clear HW
    obtain ⟨uo, ucap, rfl⟩ := own_slice o1
    have z1 := b1.size
    go_upto_region 4 with fail
    go_cut [36] from 30 to 36 (fun s36 wx => s36 = .bool (decide (cd = 0 ∧ 0 < X.length)) ∧ wx = w1)
    case first =>
      by_cases hc : cd = 0
      · subst hc
        by_cases hX : 0 < X.length
        · have hX' : (0 : Int) < (X.length : Int) := by omega
          go_wp2_with fail
          go_meet
          exact ⟨by simp [hX], rfl⟩
        · have hX' : ¬ (0 : Int) < (X.length : Int) := by omega
          go_wp2_with fail
          go_meet
          exact ⟨by simp [hX], rfl⟩
      · go_wp2_with fail
        go_meet
        exact ⟨by simp [hc], rfl⟩
    case rest =>
    obtain ⟨rfl, hwx⟩ := hcut
    subst wc
    go_upto_if 36 with fail
    go_cut [0] from 11 to 53 (fun s0 wx => ∃ L, View wx s0 L ∧ L.length ≤ 2199023255552 ∧ Below w.heap.size w wx)
    case first =>
      have hvb1 := hvb.below b1
      by_cases hc : cd = 0 ∧ 0 < X.length
      · rw [decide_eq_true hc]
        obtain ⟨rfl, hX⟩ := hc
        have hX' : (0 : Int) < (X.length : Int) := by omega
        have HWi := D.hidIt (within_any n (X.length - 1) (by omega) w1)
        rw [show ((X.length - 1 : Nat) : Int) = (X.length : Int) - 1 by omega] at HWi
        go_wp2_with fail
        refine HWi.out.mono ?_
        rintro e w2 ⟨⟨k, hk, rfl⟩, rfl⟩
        have hkX : k < X.length := by omega
        have hk' : (k : Int) < (X.length : Int) := by omega
        obtain ⟨ug, rfl, ucur, hug, hcu⟩ : ∃ g, uo = some ⟨g, 0, none⟩ ∧ ∃ cur, w2.heap[g]? = some (.cells cur 5 (0, 0)) ∧ w2.cell? ⟨g, k, none⟩ = some (.int .u8 X[k]) := by
          rcases o1.2 with ⟨e, h0⟩ | ⟨g, cap', cur, e, _, hg, _, _, hs, ht⟩
          · omega
          · cases e
            refine ⟨g, rfl, cur, hg, ?_⟩
            rw [cell_of_row w2 g k cur 5 (0, 0) hg, ← Array.getElem?_toList]
            have e2 : (cur.toList.take (X.length * 1))[k]? = (bcells X)[k]? := by rw [ht]
            rw [List.getElem?_take, if_pos (by omega)] at e2
            rw [e2]
            simp [bcells, hkX]
        have hfz : w2.frozen? ⟨ug, k, none⟩ = false := by simp [World.frozen?, hug]
        have hXk := hwb X[k] (by simp)
        have O3 := byte_set (x := bits .xor .u8 X[k] t) o1 hkX
        have hb3 : AllBytes (X.set k (bits .xor .u8 X[k] t)) := set_bytes hwb (bits_lo_u8 _ _ _) (bits_hi_u8 _ _ _)
        have hug0 : w.heap.size ≤ ug := (o1.lt ug rfl).1
        have B3 : Below w.heap.size w (w2.setCell ⟨ug, k, none⟩ (.int .u8 (bits .xor .u8 X[k] t))) := b1.setCell (p := ⟨ug, k, none⟩) hug0 _
        have V3 := hvb.below B3
        have hzz : w.heap.size ≤ (w2.setCell ⟨ug, k, none⟩ (.int .u8 (bits .xor .u8 X[k] t))).heap.size := B3.size
        have hlY : (X.set k (bits .xor .u8 X[k] t)).length = X.length := List.length_set
        have HlY := D.hidIt hlY
        clear HWi hlY hvb1 hvb hT
        generalize X.set k (bits .xor .u8 X[k] t) = Y at *
        go_wp2_with (at_builtin; refine wpList_append_big rfl _ _ rfl w.heap.size _ _ X.length _ b rfl O3 rfl V3 (by omega) hzz ?_; intro v4 w4 o4 st4)
        go_meet
        have hB4 : Below w.heap.size w w4 := B3.trans (st4.below hzz (fun k hk => (O3.lt k hk).1))
        refine ⟨Y ++ b, ?_, by rw [List.length_append, HlY.out]; omega, hB4⟩
        rw [← HlY.out, ← List.length_append, show bcells Y ++ bcells b = bcells (Y ++ b) by simp [bcells]] at o4
        exact View.of_own o4 (hb3.append hbb)
      · have hc' : ¬ (cd = 0 ∧ (0 : Int) < (X.length : Int)) := by omega
        rw [decide_eq_false hc]
        go_wp2_with fail
        go_meet
        exact ⟨b, hvb1, by omega, b1⟩
    case rest =>
      obtain ⟨L, V1, hL, B1⟩ := hcut
      clear o1 b1 hvb hsm hvl hwb hwl z1
      obtain ⟨lo, lcap, rfl, _, _, hLb, _⟩ := id V1
      have HTc := D.hidIt (hT.below B1)
      have HNR := D.hidIt (newR_any _ L wc V1 (by omega))
      go_wp2_with fail
      refine HNR.out.mono ?_
      rintro e w3 ⟨b3, pr, v3, rfl, hpr, r3, _⟩
      have z3 := b3.size
      have hprl := r3.lt
      have b4 : Below w3.heap.size w3 (w3.alloc (.cells #[.slice lo L.length lcap, .int .i64 0, .bool false, .int .i64 0, .int .i64 0] 54)) := (Below.refl _ _).alloc (Nat.le_refl _) _
      have hS4 : (w3.alloc (.cells #[.slice lo L.length lcap, .int .i64 0, .bool false, .int .i64 0, .int .i64 0] 54)).heap[w3.heap.size]? = some (.cells #[.slice lo L.length lcap, .int .i64 0, .bool false, .int .i64 0, .int .i64 0] 54 (0, 0)) := heap_alloc_new w3 _
      have z4 : (w3.alloc (.cells #[.slice lo L.length lcap, .int .i64 0, .bool false, .int .i64 0, .int .i64 0] 54)).heap.size = w3.heap.size + 1 := by simp
      have r4 := r3.below b4
      clear HNR r3
      have HRd : Hid (Calls Tryd.prog 15 #[.pointer (some ⟨pr, 0, none⟩)] (w3.alloc (.cells #[.slice lo L.length lcap, .int .i64 0, .bool false, .int .i64 0, .int .i64 0] 54)) fun e w5 => ∃ v5, e = .returned v5 ∧ w5.ownsRow (w3.heap.size + 1) 30 5 v5 (rdO L 0 0).length (ccells (rdO L 0 0)) ∧ IsR pr w5 v3 L (rdP L 0 0).2.1 (rdP L 0 0).2.2 ∧ Below wc.heap.size wc w5 ∧ IsS w3.heap.size w5 (.slice lo L.length lcap) L 0 0 ∧ w3.heap.size + 1 ≤ w5.heap.size) := by
        refine (read_any pr v3 L 0 0 _ r4).mono ?_
        rintro e w5 ⟨v5, rfl, o5, r5, on5⟩
        have z5 := on5.size
        rw [z4] at o5 z5
        have B5 : Below wc.heap.size wc w5 := ⟨on5.os.trans b3.os, on5.tape.trans b3.tape, on5.output.trans b3.output, by omega, fun k hk => (on5.block k (by rw [z4]; omega) (by omega)).trans ((b4.block k (by omega)).trans (b3.block k hk))⟩
        exact ⟨v5, rfl, o5, r5, B5, .inl ⟨rfl, (on5.block w3.heap.size (by rw [z4]; omega) (by omega)).trans hS4, V1.below B5, Nat.zero_le _⟩, z5⟩
      clear r4 hS4 b4 z4
      go_wp2_with fail
      refine HRd.out.mono ?_
      rintro e w5 ⟨v5, rfl, o5, r5, B5, S5, z5⟩
      obtain ⟨ao5, cap5, rfl⟩ := cown_slice o5
      have HRr : Hid (Calls Tryd.prog 27 #[.pointer (some ⟨w3.heap.size, 0, none⟩)] w5 fun e w6 => ∃ v6, e = .returned v6 ∧ w6.ownsRow w5.heap.size 30 5 v6 (rdO L 0 0).length (ccells (rdO L 0 0)) ∧ w6.ownsRow (w3.heap.size + 1) 30 5 (.slice ao5 (rdO L 0 0).length cap5) (rdO L 0 0).length (ccells (rdO L 0 0)) ∧ IsR pr w6 v3 L (rdP L 0 0).2.1 (rdP L 0 0).2.2 ∧ IsS w3.heap.size w6 (.slice lo L.length lcap) L (rdP L 0 0).2.1 (rdP L 0 0).2.2 ∧ Below wc.heap.size wc w6) := by
        refine (rread_any w3.heap.size _ L 0 0 w5 S5 (by omega)).mono ?_
        rintro e w6 ⟨v6, rfl, o6, s6, on6⟩
        have z6 := on6.size
        have hap : ∀ g off, Lies w5 g off L → L ≠ [] → g ≠ w3.heap.size := fun g off hl hne => (IsS.zero S5).apart hl hne
        exact ⟨v6, rfl, o6, own_only o5 on6 (Nat.lt_succ_self _), ⟨(on6.block pr r5.lt (by omega)).trans r5.blk, r5.view.only on6 hap, r5.le⟩, s6, B5.trans (on6.below B5.size (by omega))⟩
      have hokR : ∀ c ∈ rdO L 0 0, c.Ok := rdO_ok L 0 0 hLb
      clear HRd o5 r5 S5
      generalize rdO L 0 0 = R at *
      generalize (rdP L 0 0).2.1 = ae at *
      generalize (rdP L 0 0).2.2 = ye at *
      go_wp2_with fail
      refine HRr.out.mono ?_
      rintro e w6 ⟨v6, rfl, o6, o5, r6, s6, B6⟩
      clear HRr
      obtain ⟨ao6, cap6, rfl⟩ := cown_slice o6
      have CV5 := CView.of_own o5 hokR
      have CV6 := CView.of_own o6 hokR
      have HE := D.hidIt (end_any pr v3 L ae ye w6 r6)
      go_wp2_with fail
      refine HE.out.mono ?_
      rintro e w7 ⟨rfl, q7, rfl⟩
      have HF := D.hidIt (refend_any w3.heap.size _ L ae ye (w6.drewN q7) (s6.drewN q7))
      go_wp2_with fail
      refine HF.out.mono ?_
      rintro e w8 ⟨rfl, q8, rfl⟩
      have HS := D.hidIt (csame_any _ _ R ((w6.drewN q7).drewN q8) ((CV5.drewN q7).drewN q8) ((CV6.drewN q7).drewN q8))
      have B8 := below_drewN (below_drewN B6 q7) q8
      clear HE HF CV5 CV6 r6 s6 o5 o6
      generalize (endZ L ae ye).1 = E1 at *
      generalize (endZ L ae ye).2 = E2 at *
      generalize (w6.drewN q7).drewN q8 = w8 at *
      go_wp2_with fail
      refine HS.out.mono ?_
      rintro e w9 ⟨rfl, q9, rfl⟩
      have B9 := below_drewN B8 q9
      generalize w8.drewN q9 = w9 at *
      have z9 := B9.size
      have z1 := B1.size
      go_wp2_with fail
      refine (known_any w9 (HTc.out.below B9)).mono ?_
      rintro e w10 ⟨rfl, b10⟩
      go_wp2
      go_ret
      exact ⟨rfl, B1.trans ((B9.trans (b10.mono (by omega))).mono (by omega))⟩
end Go.Proofs.YtjnaiekdbigikaaDoor
