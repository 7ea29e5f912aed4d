/- Texts MO. -/
import Derived.Test.YtlnapfeglbdecaaBm16
import Derived.Test.YtlnapfeglbdecaaBm17
import Derived.Deep.RegionHeld3
namespace Go.Proofs.Ytlnapfeglbdecaa.M
open Go.RowKit
theorem Mk.depth {B pr pm n d D : Nat} {pl : Bool} {σ : SG} {w : World} {u : Int} (h : Mk B pr pm n d pl σ w) (hu : u = (D : Int)) : Mk B pr pm n D pl σ (w.setCell ⟨pm, 6, none⟩ (.int .i64 u)) := by
  obtain ⟨s, HP, HB, HS⟩ := h
  refine ⟨_, HP.set (s' := { s with depth := D }) 6 (.int .i64 u) (by rw [hu]; simp [mblk]) rfl rfl rfl rfl rfl rfl rfl rfl rfl rfl rfl, ?_, by rw [← HS]; rfl⟩
  exact ⟨rfl, HB.pln, HB.lb, HB.ln, HB.pn, HB.hn, HB.tn, HB.l0, HB.l1, HB.small⟩
theorem Mk.kset {B pr pm n d : Nat} {pl : Bool} {σ : SG} {w w0 : World} {o : Nat} {u : Value} (h : Mk B pr pm n d pl σ w) (hk : Kq B pr w0 w) : Kq B pr w0 (w.setCell ⟨pm, o, none⟩ u) := by
  obtain ⟨s, HP, HB⟩ := h
  exact hk.set (.inl HP.hpm)
theorem Mk.frozen {B pr pm n d : Nat} {pl : Bool} {σ : SG} {w : World} (h : Mk B pr pm n d pl σ w) (j : Nat) : w.frozen? ⟨pm, j, none⟩ = false := by
  obtain ⟨s, HP, HB⟩ := h
  exact frozen_row HP.blk j
theorem Mk.drew1 {B pr pm n d : Nat} {pl : Bool} {σ : SG} {w : World} (h : Mk B pr pm n d pl σ w) : Mk B pr pm n d pl σ w.drew := by
  obtain ⟨s, h, HB⟩ := h
  exact ⟨s, ⟨h.blk, h.rec_, h.rl, h.p, h.l, h.h, h.t, h.hpm, h.hpr, h.at_le⟩, HB⟩
theorem Kq.drew1 {B pr : Nat} {w w' : World} (h : Kq B pr w w') : Kq B pr w w'.drew := ⟨h.os, h.tape, h.output, h.size, h.block⟩
theorem wrap4 {x : Nat} (h : (x : Int) < 9) : IntKind.i64.wrap ((x : Int) - 4) = (x : Int) - 4 := by rw [IntKind.wrap_i64]; omega
theorem mod2 (x : Nat) : ∃ y : Nat, y < 2 ∧ (x : Int) % 2 = (y : Int) := ⟨x % 2, Nat.mod_lt _ (by decide), rfl⟩
theorem mod5 (x : Nat) : ∃ y : Nat, y < 5 ∧ (x : Int) % 5 = (y : Int) := ⟨x % 5, Nat.mod_lt _ (by decide), rfl⟩
set_option maxRecDepth 8000 in
set_option maxHeartbeats 40000000 in
theorem one_any (hs : Nums) (d D c : Nat) (hD : D = d + 1) (hd : d ≤ 3) (h1 : SomeL D 1 c) (h2 : SomeL D 2 (2 * c)) : OneC d (4 * c + 120) := by
  intro B pr pm n pl σ w h hn
  have HDE := hidIt hD
  have hD1 : D ≤ d + 1 := by omega
  have hD2 : d + 1 ≤ D := by omega
  clear hD
  have N2 := hidIt hs.n2
  have N3 := hidIt hs.n3
  have N1 := hidIt hs.n1
  have R1 := hidIt hs.r1
  have R2 := hidIt hs.r2
  have R3 := hidIt hs.r3
  have CH := hidIt (choice_any hs D c h1 h2)
  have LP := hidIt (loop_any hs D c h1 h2)
  have AR := hidIt (arrays_any hs D)
  have TY := hidIt (try_any hs D c h1 h2)
  have LK := hidIt (locked_any hs D c h1 h2)
  have TH := hidIt (threads_any hs D)
  clear h1 h2
  have HM := hidIt h
  have HK := hidIt (Kq.refl B pr w)
  obtain ⟨c0, c3, c4, c5, c6, hL, hleft⟩ := h.read
  have hprz := h.pr_lt
  have hpmz := h.pm_lt
  clear h hs
  go_enter Try.func39, Try.ntmps39
  go_upto_region 1 with (go_at_call 17; refine (take_int B pr pm _ _ _ _ _ _ HM.out (by omega) (by omega)).mono ?_; clear c0 c3 c4 c5 c6 hL hleft hprz hpmz; rintro e wn ⟨⟨x, hx, rfl⟩, hm, hk, -⟩; replace HK := hidIt (HK.out.trans hk); replace HM := hidIt hm; obtain ⟨c0, c3, c4, c5, c6, hL, hleft, hprz, hpmz⟩ := hm.read2; clear hm hk)
  have hx16 : (x : Int) < 16 := hx
  have hD4 : ¬ 4 < (D : Int) := by omega
  cases pl
  · have f0 := HM.out.frozen
    go_upto_region 4 with (fail)
    have HM2 := hidIt (HM.out.depth (D := D) (u := (d : Int) + 1) (by omega))
    have HK2 := hidIt (HM.out.kset (o := 6) (u := .int .i64 ((d : Int) + 1)) HK.out)
    clear c0 c3 c4 c5 c6 hL hleft hprz hpmz
    clear HM HK f0
    generalize wn.setCell ⟨pm, 6, none⟩ (.int .i64 ((d : Int) + 1)) = W at HM2 HK2 ⊢
    have HM := HM2
    have HK := HK2
    clear HM2 HK2
    obtain ⟨c0, c3, c4, c5, c6, hL, hleft⟩ := HM.out.read
    have hprz := HM.out.pr_lt
    have hpmz := HM.out.pm_lt
    by_cases hL50 : 50 < (σ.labels : Int)
    · go_upto_region 6 with (fail)
      obtain ⟨y, hy, hyx⟩ := mod2 x
      rw [hyx]
      clear hyx
      have hy' : y = 1 ∨ y = 0 := by omega
      clear hy
      rcases hy' with rfl | hy'
      · go_upto_region 11 with (first
              | (go_at_call 17; refine (take_int B pr pm _ _ _ _ _ _ HM.out (by omega) (by omega)).mono ?_; clear c0 c3 c4 c5 c6 hL hleft hprz hpmz; rintro e wn ⟨⟨x, hx, rfl⟩, hm, hk, -⟩; replace HK := hidIt (HK.out.trans hk); replace HM := hidIt hm; obtain ⟨c0, c3, c4, c5, c6, hL, hleft, hprz, hpmz⟩ := hm.read2; clear hm hk)
              | (go_at_call 27; refine (put_any B pr pm _ _ _ _ _ _ _ _ HM.out (by omega)).mono ?_; clear c0 c3 c4 c5 c6 hL hleft hprz hpmz; rintro e wn ⟨rfl, hm, hk⟩; replace HK := hidIt (HK.out.trans hk); replace HM := hidIt hm; obtain ⟨c0, c3, c4, c5, c6, hL, hleft, hprz, hpmz⟩ := hm.read2; clear hm hk))
        go_region_held3 (fun W => W.cell? ⟨pm, 0, none⟩ = some (.pointer (some ⟨pr, 0, none⟩))) (exact c0)
          (first
              | (go_at_call 17; (with_reducible show Calls Try.prog 17 _ (World.drew _) _); refine (take_int B pr pm _ _ _ _ _ _ HM.out.drew1 (by omega) (by omega)).mono ?_; clear c0 c3 c4 c5 c6 hL hleft hprz hpmz; rintro e wn ⟨⟨x, hx, rfl⟩, hm, hk0, -⟩; have hk := (Kq.refl B pr _).drew1.trans hk0; clear hk0; replace HK := hidIt (HK.out.trans hk); replace HM := hidIt hm; obtain ⟨c0, c3, c4, c5, c6, hL, hleft, hprz, hpmz⟩ := hm.read2; clear hm hk)
              | (go_at_call 27; (with_reducible show Calls Try.prog 27 _ (World.drew _) _); refine (put_any B pr pm _ _ _ _ _ _ _ _ HM.out.drew1 (by omega)).mono ?_; clear c0 c3 c4 c5 c6 hL hleft hprz hpmz; rintro e wn ⟨rfl, hm, hk0⟩; have hk := (Kq.refl B pr _).drew1.trans hk0; clear hk0; replace HK := hidIt (HK.out.trans hk); replace HM := hidIt hm; obtain ⟨c0, c3, c4, c5, c6, hL, hleft, hprz, hpmz⟩ := hm.read2; clear hm hk)
              | (go_at_call 17; refine (take_int B pr pm _ _ _ _ _ _ HM.out (by omega) (by omega)).mono ?_; clear c0 c3 c4 c5 c6 hL hleft hprz hpmz; rintro e wn ⟨⟨x, hx, rfl⟩, hm, hk, -⟩; replace HK := hidIt (HK.out.trans hk); replace HM := hidIt hm; obtain ⟨c0, c3, c4, c5, c6, hL, hleft, hprz, hpmz⟩ := hm.read2; clear hm hk)
              | (go_at_call 27; refine (put_any B pr pm _ _ _ _ _ _ _ _ HM.out (by omega)).mono ?_; clear c0 c3 c4 c5 c6 hL hleft hprz hpmz; rintro e wn ⟨rfl, hm, hk⟩; replace HK := hidIt (HK.out.trans hk); replace HM := hidIt hm; obtain ⟨c0, c3, c4, c5, c6, hL, hleft, hprz, hpmz⟩ := hm.read2; clear hm hk))
        go_upto_region 51 with (first
              | (go_at_call 17; refine (take_int B pr pm _ _ _ _ _ _ HM.out (by omega) (by omega)).mono ?_; clear c0 c3 c4 c5 c6 hL hleft hprz hpmz; rintro e wn ⟨⟨x, hx, rfl⟩, hm, hk, -⟩; replace HK := hidIt (HK.out.trans hk); replace HM := hidIt hm; obtain ⟨c0, c3, c4, c5, c6, hL, hleft, hprz, hpmz⟩ := hm.read2; clear hm hk)
              | (go_at_call 27; refine (put_any B pr pm _ _ _ _ _ _ _ _ HM.out (by omega)).mono ?_; clear c0 c3 c4 c5 c6 hL hleft hprz hpmz; rintro e wn ⟨rfl, hm, hk⟩; replace HK := hidIt (HK.out.trans hk); replace HM := hidIt hm; obtain ⟨c0, c3, c4, c5, c6, hL, hleft, hprz, hpmz⟩ := hm.read2; clear hm hk))
        have f6 := HM.out.frozen
        go_wp2
        go_end0
        refine ⟨rfl, _, ?_, (HM.out.depth (D := d) (by omega)).mono (by omega), HM.out.kset HK.out⟩
        (rw [wrap4 hx]; exact One.inc _ _ (by omega) (by omega))
      subst hy'
      all_goals
        go_upto_region 51 with (first
              | (go_at_call 17; refine (take_int B pr pm _ _ _ _ _ _ HM.out (by omega) (by omega)).mono ?_; clear c0 c3 c4 c5 c6 hL hleft hprz hpmz; rintro e wn ⟨⟨x, hx, rfl⟩, hm, hk, -⟩; replace HK := hidIt (HK.out.trans hk); replace HM := hidIt hm; obtain ⟨c0, c3, c4, c5, c6, hL, hleft, hprz, hpmz⟩ := hm.read2; clear hm hk)
              | (go_at_call 27; refine (put_any B pr pm _ _ _ _ _ _ _ _ HM.out (by omega)).mono ?_; clear c0 c3 c4 c5 c6 hL hleft hprz hpmz; rintro e wn ⟨rfl, hm, hk⟩; replace HK := hidIt (HK.out.trans hk); replace HM := hidIt hm; obtain ⟨c0, c3, c4, c5, c6, hL, hleft, hprz, hpmz⟩ := hm.read2; clear hm hk)
              | (go_at_call 30; (with_reducible show Calls Try.prog 30 #[_, Value.int IntKind.i64 3] _ _); refine (N3.out _ _ _ _ _ _ _ _ HM.out (by omega)).mono ?_; clear c0 c3 c4 c5 c6 hL hleft hprz hpmz; rintro e wn ⟨rfl, σn, hr, hm, hk⟩; replace HK := hidIt (HK.out.trans hk); replace HM := hidIt hm; obtain ⟨c0, c3, c4, c5, c6, hL, hleft, hprz, hpmz⟩ := hm.read2; clear hm hk))
        have f6 := HM.out.frozen
        go_wp2
        go_end0
        refine ⟨rfl, _, ?_, (HM.out.depth (D := d) (by omega)).mono (by omega), HM.out.kset HK.out⟩
        first | exact One.set_ _ (by omega) (by assumption) | (rw [wrap4 hx]; exact One.inc _ _ (by omega) (by omega))
    · go_upto_region 6 with (fail)
      have hy := hx16
      have hy' : x = 1 ∨ x = 0 ∨ x = 2 ∨ x = 3 ∨ x = 4 ∨ x = 5 ∨ x = 6 ∨ x = 7 ∨ x = 8 ∨ x = 9 ∨ x = 10 ∨ x = 11 ∨ x = 12 ∨ x = 13 ∨ x = 14 ∨ x = 15 := by omega
      clear hy
      rcases hy' with rfl | hy'
      · go_upto_region 11 with (first
              | (go_at_call 17; refine (take_int B pr pm _ _ _ _ _ _ HM.out (by omega) (by omega)).mono ?_; clear c0 c3 c4 c5 c6 hL hleft hprz hpmz; rintro e wn ⟨⟨x, hx, rfl⟩, hm, hk, -⟩; replace HK := hidIt (HK.out.trans hk); replace HM := hidIt hm; obtain ⟨c0, c3, c4, c5, c6, hL, hleft, hprz, hpmz⟩ := hm.read2; clear hm hk)
              | (go_at_call 27; refine (put_any B pr pm _ _ _ _ _ _ _ _ HM.out (by omega)).mono ?_; clear c0 c3 c4 c5 c6 hL hleft hprz hpmz; rintro e wn ⟨rfl, hm, hk⟩; replace HK := hidIt (HK.out.trans hk); replace HM := hidIt hm; obtain ⟨c0, c3, c4, c5, c6, hL, hleft, hprz, hpmz⟩ := hm.read2; clear hm hk))
        go_region_held3 (fun W => W.cell? ⟨pm, 0, none⟩ = some (.pointer (some ⟨pr, 0, none⟩))) (exact c0)
          (first
              | (go_at_call 17; (with_reducible show Calls Try.prog 17 _ (World.drew _) _); refine (take_int B pr pm _ _ _ _ _ _ HM.out.drew1 (by omega) (by omega)).mono ?_; clear c0 c3 c4 c5 c6 hL hleft hprz hpmz; rintro e wn ⟨⟨x, hx, rfl⟩, hm, hk0, -⟩; have hk := (Kq.refl B pr _).drew1.trans hk0; clear hk0; replace HK := hidIt (HK.out.trans hk); replace HM := hidIt hm; obtain ⟨c0, c3, c4, c5, c6, hL, hleft, hprz, hpmz⟩ := hm.read2; clear hm hk)
              | (go_at_call 27; (with_reducible show Calls Try.prog 27 _ (World.drew _) _); refine (put_any B pr pm _ _ _ _ _ _ _ _ HM.out.drew1 (by omega)).mono ?_; clear c0 c3 c4 c5 c6 hL hleft hprz hpmz; rintro e wn ⟨rfl, hm, hk0⟩; have hk := (Kq.refl B pr _).drew1.trans hk0; clear hk0; replace HK := hidIt (HK.out.trans hk); replace HM := hidIt hm; obtain ⟨c0, c3, c4, c5, c6, hL, hleft, hprz, hpmz⟩ := hm.read2; clear hm hk)
              | (go_at_call 17; refine (take_int B pr pm _ _ _ _ _ _ HM.out (by omega) (by omega)).mono ?_; clear c0 c3 c4 c5 c6 hL hleft hprz hpmz; rintro e wn ⟨⟨x, hx, rfl⟩, hm, hk, -⟩; replace HK := hidIt (HK.out.trans hk); replace HM := hidIt hm; obtain ⟨c0, c3, c4, c5, c6, hL, hleft, hprz, hpmz⟩ := hm.read2; clear hm hk)
              | (go_at_call 27; refine (put_any B pr pm _ _ _ _ _ _ _ _ HM.out (by omega)).mono ?_; clear c0 c3 c4 c5 c6 hL hleft hprz hpmz; rintro e wn ⟨rfl, hm, hk⟩; replace HK := hidIt (HK.out.trans hk); replace HM := hidIt hm; obtain ⟨c0, c3, c4, c5, c6, hL, hleft, hprz, hpmz⟩ := hm.read2; clear hm hk))
        go_upto_region 51 with (first
              | (go_at_call 17; refine (take_int B pr pm _ _ _ _ _ _ HM.out (by omega) (by omega)).mono ?_; clear c0 c3 c4 c5 c6 hL hleft hprz hpmz; rintro e wn ⟨⟨x, hx, rfl⟩, hm, hk, -⟩; replace HK := hidIt (HK.out.trans hk); replace HM := hidIt hm; obtain ⟨c0, c3, c4, c5, c6, hL, hleft, hprz, hpmz⟩ := hm.read2; clear hm hk)
              | (go_at_call 27; refine (put_any B pr pm _ _ _ _ _ _ _ _ HM.out (by omega)).mono ?_; clear c0 c3 c4 c5 c6 hL hleft hprz hpmz; rintro e wn ⟨rfl, hm, hk⟩; replace HK := hidIt (HK.out.trans hk); replace HM := hidIt hm; obtain ⟨c0, c3, c4, c5, c6, hL, hleft, hprz, hpmz⟩ := hm.read2; clear hm hk))
        have f6 := HM.out.frozen
        go_wp2
        go_end0
        refine ⟨rfl, _, ?_, (HM.out.depth (D := d) (by omega)).mono (by omega), HM.out.kset HK.out⟩
        (rw [wrap4 hx]; exact One.inc _ _ (by omega) (by omega))
      rcases hy' with rfl | rfl | rfl | rfl | rfl | rfl | rfl | rfl | rfl | rfl | rfl | rfl | rfl | rfl | rfl
      all_goals
        go_upto_region 51 with (first
              | (go_at_call 17; (with_reducible show Calls Try.prog 17 _ (World.alloc _ _) _); refine (take_int B pr pm _ _ _ _ _ _ (HM.out.below (below_alloc _ _)) (by omega) (by omega)).mono ?_; have hlp := hprz; clear c0 c3 c4 c5 c6 hL hleft hprz hpmz; rintro e wn ⟨⟨x, hx, rfl⟩, hm, hk0, hon⟩; have hk := (HM.out.kq (below_alloc _ _)).trans hk0; clear hk0; have hlit := lit_after hon hlp; clear hon hlp; (obtain ⟨lv, hlv, hlm⟩ := lit_str (l := [sIndex, sThrowable, sCast]) (x := x) hlit (by show _ < 3; omega); have hlz : lv.size ≤ 1000000 := strs_small hlm (by decide)); clear hlit; replace HK := hidIt (HK.out.trans hk); replace HM := hidIt hm; obtain ⟨c0, c3, c4, c5, c6, hL, hleft, hprz, hpmz⟩ := hm.read2; clear hm hk)
              | (go_at_call 17; refine (take_int B pr pm _ _ _ _ _ _ HM.out (by omega) (by omega)).mono ?_; clear c0 c3 c4 c5 c6 hL hleft hprz hpmz; rintro e wn ⟨⟨x, hx, rfl⟩, hm, hk, -⟩; replace HK := hidIt (HK.out.trans hk); replace HM := hidIt hm; obtain ⟨c0, c3, c4, c5, c6, hL, hleft, hprz, hpmz⟩ := hm.read2; clear hm hk)
              | (go_at_call 27; refine (put_any B pr pm _ _ _ _ _ _ _ _ HM.out (by omega)).mono ?_; clear c0 c3 c4 c5 c6 hL hleft hprz hpmz; rintro e wn ⟨rfl, hm, hk⟩; replace HK := hidIt (HK.out.trans hk); replace HM := hidIt hm; obtain ⟨c0, c3, c4, c5, c6, hL, hleft, hprz, hpmz⟩ := hm.read2; clear hm hk)
              | (go_at_call 42; refine (field_any B pr pm _ _ _ _ _ _ _ _ HM.out (by omega) (by first | assumption | exact Nat.le_of_ble_eq_true rfl | simp [ByteArray.size]) (by first | assumption | exact Nat.le_of_ble_eq_true rfl | simp [ByteArray.size]) (by first | assumption | exact Nat.le_of_ble_eq_true rfl | simp [ByteArray.size])).mono ?_; clear c0 c3 c4 c5 c6 hL hleft hprz hpmz; rintro e wn ⟨rfl, hm, hk⟩; replace HK := hidIt (HK.out.trans hk); replace HM := hidIt hm; obtain ⟨c0, c3, c4, c5, c6, hL, hleft, hprz, hpmz⟩ := hm.read2; clear hm hk)
              | (go_at_call 43; (with_reducible show Calls Try.prog 43 _ (World.alloc _ _) _); refine (method_any B pr pm _ _ _ _ _ _ _ _ (HM.out.below (below_alloc _ _)) (by omega) (by first | assumption | exact Nat.le_of_ble_eq_true rfl | simp [ByteArray.size]) (by first | assumption | exact Nat.le_of_ble_eq_true rfl | simp [ByteArray.size]) (by first | assumption | exact Nat.le_of_ble_eq_true rfl | simp [ByteArray.size])).mono ?_; clear c0 c3 c4 c5 c6 hL hleft hprz hpmz; rintro e wn ⟨rfl, hm, hk0⟩; have hk := (HM.out.kq (below_alloc _ _)).trans hk0; clear hk0; replace HK := hidIt (HK.out.trans hk); replace HM := hidIt hm; obtain ⟨c0, c3, c4, c5, c6, hL, hleft, hprz, hpmz⟩ := hm.read2; clear hm hk)
              | (go_at_call 43; refine (method_any B pr pm _ _ _ _ _ _ _ _ HM.out (by omega) (by first | assumption | exact Nat.le_of_ble_eq_true rfl | simp [ByteArray.size]) (by first | assumption | exact Nat.le_of_ble_eq_true rfl | simp [ByteArray.size]) (by first | assumption | exact Nat.le_of_ble_eq_true rfl | simp [ByteArray.size])).mono ?_; clear c0 c3 c4 c5 c6 hL hleft hprz hpmz; rintro e wn ⟨rfl, hm, hk⟩; replace HK := hidIt (HK.out.trans hk); replace HM := hidIt hm; obtain ⟨c0, c3, c4, c5, c6, hL, hleft, hprz, hpmz⟩ := hm.read2; clear hm hk)
              | (go_at_call 44; refine (class_any B pr pm _ _ _ _ _ _ HM.out (by omega) (by first | assumption | exact Nat.le_of_ble_eq_true rfl | simp [ByteArray.size])).mono ?_; clear c0 c3 c4 c5 c6 hL hleft hprz hpmz; rintro e wn ⟨rfl, hm, hk⟩; replace HK := hidIt (HK.out.trans hk); replace HM := hidIt hm; obtain ⟨c0, c3, c4, c5, c6, hL, hleft, hprz, hpmz⟩ := hm.read2; clear hm hk)
              | (go_at_call 30; (with_reducible show Calls Try.prog 30 #[_, Value.int IntKind.i64 1] _ _); refine (N1.out _ _ _ _ _ _ _ _ HM.out (by omega)).mono ?_; clear c0 c3 c4 c5 c6 hL hleft hprz hpmz; rintro e wn ⟨rfl, σn, hr, hm, hk⟩; replace HK := hidIt (HK.out.trans hk); replace HM := hidIt hm; obtain ⟨c0, c3, c4, c5, c6, hL, hleft, hprz, hpmz⟩ := hm.read2; clear hm hk)
              | (go_at_call 30; (with_reducible show Calls Try.prog 30 #[_, Value.int IntKind.i64 2] _ _); refine (N2.out _ _ _ _ _ _ _ _ HM.out (by omega)).mono ?_; clear c0 c3 c4 c5 c6 hL hleft hprz hpmz; rintro e wn ⟨rfl, σn, hr, hm, hk⟩; replace HK := hidIt (HK.out.trans hk); replace HM := hidIt hm; obtain ⟨c0, c3, c4, c5, c6, hL, hleft, hprz, hpmz⟩ := hm.read2; clear hm hk)
              | (go_at_call 41; (with_reducible show Calls Try.prog 41 #[_, Value.int IntKind.i64 1] _ _); refine (R1.out _ _ _ _ _ _ _ _ HM.out (by omega)).mono ?_; clear c0 c3 c4 c5 c6 hL hleft hprz hpmz; rintro e wn ⟨rfl, σn, hr, hm, hk⟩; replace HK := hidIt (HK.out.trans hk); replace HM := hidIt hm; obtain ⟨c0, c3, c4, c5, c6, hL, hleft, hprz, hpmz⟩ := hm.read2; clear hm hk)
              | (go_at_call 41; (with_reducible show Calls Try.prog 41 #[_, Value.int IntKind.i64 2] _ _); refine (R2.out _ _ _ _ _ _ _ _ HM.out (by omega)).mono ?_; clear c0 c3 c4 c5 c6 hL hleft hprz hpmz; rintro e wn ⟨rfl, σn, hr, hm, hk⟩; replace HK := hidIt (HK.out.trans hk); replace HM := hidIt hm; obtain ⟨c0, c3, c4, c5, c6, hL, hleft, hprz, hpmz⟩ := hm.read2; clear hm hk)
              | (go_at_call 30; (with_reducible show Calls Try.prog 30 #[_, Value.int IntKind.i64 3] _ _); refine (N3.out _ _ _ _ _ _ _ _ HM.out (by omega)).mono ?_; clear c0 c3 c4 c5 c6 hL hleft hprz hpmz; rintro e wn ⟨rfl, σn, hr, hm, hk⟩; replace HK := hidIt (HK.out.trans hk); replace HM := hidIt hm; obtain ⟨c0, c3, c4, c5, c6, hL, hleft, hprz, hpmz⟩ := hm.read2; clear hm hk)
              | (go_at_call 41; (with_reducible show Calls Try.prog 41 #[_, Value.int IntKind.i64 3] _ _); refine (R3.out _ _ _ _ _ _ _ _ HM.out (by omega)).mono ?_; clear c0 c3 c4 c5 c6 hL hleft hprz hpmz; rintro e wn ⟨rfl, σn, hr, hm, hk⟩; replace HK := hidIt (HK.out.trans hk); replace HM := hidIt hm; obtain ⟨c0, c3, c4, c5, c6, hL, hleft, hprz, hpmz⟩ := hm.read2; clear hm hk)
              | (go_at_call 56; refine (CH.out B pr pm _ _ _ _ HM.out (by omega)).mono ?_; clear c0 c3 c4 c5 c6 hL hleft hprz hpmz; rintro e wn ⟨rfl, σn, hr, hm, hk⟩; replace HK := hidIt (HK.out.trans hk); replace HM := hidIt hm; obtain ⟨c0, c3, c4, c5, c6, hL, hleft, hprz, hpmz⟩ := hm.read2; clear hm hk)
              | (go_at_call 57; refine (LP.out B pr pm _ _ _ _ HM.out (by omega)).mono ?_; clear c0 c3 c4 c5 c6 hL hleft hprz hpmz; rintro e wn ⟨rfl, σn, hr, hm, hk⟩; replace HK := hidIt (HK.out.trans hk); replace HM := hidIt hm; obtain ⟨c0, c3, c4, c5, c6, hL, hleft, hprz, hpmz⟩ := hm.read2; clear hm hk)
              | (go_at_call 58; refine (AR.out B pr pm _ _ _ _ HM.out (by omega)).mono ?_; clear c0 c3 c4 c5 c6 hL hleft hprz hpmz; rintro e wn ⟨rfl, σn, hr, hm, hk⟩; replace HK := hidIt (HK.out.trans hk); replace HM := hidIt hm; obtain ⟨c0, c3, c4, c5, c6, hL, hleft, hprz, hpmz⟩ := hm.read2; clear hm hk)
              | (go_at_call 59; refine (TY.out B pr pm _ _ _ _ HM.out (by omega)).mono ?_; clear c0 c3 c4 c5 c6 hL hleft hprz hpmz; rintro e wn ⟨rfl, σn, hr, hm, hk⟩; replace HK := hidIt (HK.out.trans hk); replace HM := hidIt hm; obtain ⟨c0, c3, c4, c5, c6, hL, hleft, hprz, hpmz⟩ := hm.read2; clear hm hk)
              | (go_at_call 60; refine (LK.out B pr pm _ _ _ _ HM.out (by omega)).mono ?_; clear c0 c3 c4 c5 c6 hL hleft hprz hpmz; rintro e wn ⟨rfl, σn, hr, hm, hk⟩; replace HK := hidIt (HK.out.trans hk); replace HM := hidIt hm; obtain ⟨c0, c3, c4, c5, c6, hL, hleft, hprz, hpmz⟩ := hm.read2; clear hm hk)
              | (go_at_call 61; refine (TH.out B pr pm _ _ _ _ HM.out (by omega)).mono ?_; clear c0 c3 c4 c5 c6 hL hleft hprz hpmz; rintro e wn ⟨rfl, σn, hr, hm, hk⟩; replace HK := hidIt (HK.out.trans hk); replace HM := hidIt hm; obtain ⟨c0, c3, c4, c5, c6, hL, hleft, hprz, hpmz⟩ := hm.read2; clear hm hk))
        have f6 := HM.out.frozen
        go_wp2
        go_end0
        refine ⟨rfl, _, ?_, (HM.out.depth (D := d) (by omega)).mono (by omega), HM.out.kset HK.out⟩
        first | exact One.set_ _ (by omega) (by assumption) | (rw [wrap4 hx]; exact One.inc _ _ (by omega) (by omega)) | exact One.dup _ (by omega) (by assumption) | exact One.prt (by assumption) | exact One.ast _ (by omega) (by assumption) | exact One.ptx (by assumption) (by assumption) | exact One.ptn (by assumption) (by assumption) | exact One.pts (by assumption) | exact One.arr hr | exact One.thr hr | exact One.nwt _ hlm | exact One.chs (by omega) (by omega) (by rw [← HDE.out]; exact hr) | exact One.lp (by omega) (by omega) (by rw [← HDE.out]; exact hr) | exact One.tr (by omega) (by omega) (by rw [← HDE.out]; exact hr) | exact One.lk (by omega) (by rw [← HDE.out]; exact hr)
  · go_upto_region 3 with (fail)
    obtain ⟨z, hz, hzx⟩ := mod5 x
    rw [hzx]
    clear hzx
    have f0 := HM.out.frozen
    go_upto_region 4 with (fail)
    have HM2 := hidIt (HM.out.depth (D := D) (u := (d : Int) + 1) (by omega))
    have HK2 := hidIt (HM.out.kset (o := 6) (u := .int .i64 ((d : Int) + 1)) HK.out)
    clear c0 c3 c4 c5 c6 hL hleft hprz hpmz
    clear HM HK f0
    generalize wn.setCell ⟨pm, 6, none⟩ (.int .i64 ((d : Int) + 1)) = W at HM2 HK2 ⊢
    have HM := HM2
    have HK := HK2
    clear HM2 HK2
    obtain ⟨c0, c3, c4, c5, c6, hL, hleft⟩ := HM.out.read
    have hprz := HM.out.pr_lt
    have hpmz := HM.out.pm_lt
    by_cases hL50 : 50 < (σ.labels : Int)
    · go_upto_region 6 with (fail)
      obtain ⟨y, hy, hyx⟩ := mod2 z
      rw [hyx]
      clear hyx
      have hy' : y = 1 ∨ y = 0 := by omega
      clear hy
      rcases hy' with rfl | hy'
      · go_upto_region 11 with (first
              | (go_at_call 17; refine (take_int B pr pm _ _ _ _ _ _ HM.out (by omega) (by omega)).mono ?_; clear c0 c3 c4 c5 c6 hL hleft hprz hpmz; rintro e wn ⟨⟨x, hx, rfl⟩, hm, hk, -⟩; replace HK := hidIt (HK.out.trans hk); replace HM := hidIt hm; obtain ⟨c0, c3, c4, c5, c6, hL, hleft, hprz, hpmz⟩ := hm.read2; clear hm hk)
              | (go_at_call 27; refine (put_any B pr pm _ _ _ _ _ _ _ _ HM.out (by omega)).mono ?_; clear c0 c3 c4 c5 c6 hL hleft hprz hpmz; rintro e wn ⟨rfl, hm, hk⟩; replace HK := hidIt (HK.out.trans hk); replace HM := hidIt hm; obtain ⟨c0, c3, c4, c5, c6, hL, hleft, hprz, hpmz⟩ := hm.read2; clear hm hk))
        go_region_held3 (fun W => W.cell? ⟨pm, 0, none⟩ = some (.pointer (some ⟨pr, 0, none⟩))) (exact c0)
          (first
              | (go_at_call 17; (with_reducible show Calls Try.prog 17 _ (World.drew _) _); refine (take_int B pr pm _ _ _ _ _ _ HM.out.drew1 (by omega) (by omega)).mono ?_; clear c0 c3 c4 c5 c6 hL hleft hprz hpmz; rintro e wn ⟨⟨x, hx, rfl⟩, hm, hk0, -⟩; have hk := (Kq.refl B pr _).drew1.trans hk0; clear hk0; replace HK := hidIt (HK.out.trans hk); replace HM := hidIt hm; obtain ⟨c0, c3, c4, c5, c6, hL, hleft, hprz, hpmz⟩ := hm.read2; clear hm hk)
              | (go_at_call 27; (with_reducible show Calls Try.prog 27 _ (World.drew _) _); refine (put_any B pr pm _ _ _ _ _ _ _ _ HM.out.drew1 (by omega)).mono ?_; clear c0 c3 c4 c5 c6 hL hleft hprz hpmz; rintro e wn ⟨rfl, hm, hk0⟩; have hk := (Kq.refl B pr _).drew1.trans hk0; clear hk0; replace HK := hidIt (HK.out.trans hk); replace HM := hidIt hm; obtain ⟨c0, c3, c4, c5, c6, hL, hleft, hprz, hpmz⟩ := hm.read2; clear hm hk)
              | (go_at_call 17; refine (take_int B pr pm _ _ _ _ _ _ HM.out (by omega) (by omega)).mono ?_; clear c0 c3 c4 c5 c6 hL hleft hprz hpmz; rintro e wn ⟨⟨x, hx, rfl⟩, hm, hk, -⟩; replace HK := hidIt (HK.out.trans hk); replace HM := hidIt hm; obtain ⟨c0, c3, c4, c5, c6, hL, hleft, hprz, hpmz⟩ := hm.read2; clear hm hk)
              | (go_at_call 27; refine (put_any B pr pm _ _ _ _ _ _ _ _ HM.out (by omega)).mono ?_; clear c0 c3 c4 c5 c6 hL hleft hprz hpmz; rintro e wn ⟨rfl, hm, hk⟩; replace HK := hidIt (HK.out.trans hk); replace HM := hidIt hm; obtain ⟨c0, c3, c4, c5, c6, hL, hleft, hprz, hpmz⟩ := hm.read2; clear hm hk))
        go_upto_region 51 with (first
              | (go_at_call 17; refine (take_int B pr pm _ _ _ _ _ _ HM.out (by omega) (by omega)).mono ?_; clear c0 c3 c4 c5 c6 hL hleft hprz hpmz; rintro e wn ⟨⟨x, hx, rfl⟩, hm, hk, -⟩; replace HK := hidIt (HK.out.trans hk); replace HM := hidIt hm; obtain ⟨c0, c3, c4, c5, c6, hL, hleft, hprz, hpmz⟩ := hm.read2; clear hm hk)
              | (go_at_call 27; refine (put_any B pr pm _ _ _ _ _ _ _ _ HM.out (by omega)).mono ?_; clear c0 c3 c4 c5 c6 hL hleft hprz hpmz; rintro e wn ⟨rfl, hm, hk⟩; replace HK := hidIt (HK.out.trans hk); replace HM := hidIt hm; obtain ⟨c0, c3, c4, c5, c6, hL, hleft, hprz, hpmz⟩ := hm.read2; clear hm hk))
        have f6 := HM.out.frozen
        go_wp2
        go_end0
        refine ⟨rfl, _, ?_, (HM.out.depth (D := d) (by omega)).mono (by omega), HM.out.kset HK.out⟩
        (rw [wrap4 hx]; exact One.inc _ _ (by omega) (by omega))
      subst hy'
      all_goals
        go_upto_region 51 with (first
              | (go_at_call 17; refine (take_int B pr pm _ _ _ _ _ _ HM.out (by omega) (by omega)).mono ?_; clear c0 c3 c4 c5 c6 hL hleft hprz hpmz; rintro e wn ⟨⟨x, hx, rfl⟩, hm, hk, -⟩; replace HK := hidIt (HK.out.trans hk); replace HM := hidIt hm; obtain ⟨c0, c3, c4, c5, c6, hL, hleft, hprz, hpmz⟩ := hm.read2; clear hm hk)
              | (go_at_call 27; refine (put_any B pr pm _ _ _ _ _ _ _ _ HM.out (by omega)).mono ?_; clear c0 c3 c4 c5 c6 hL hleft hprz hpmz; rintro e wn ⟨rfl, hm, hk⟩; replace HK := hidIt (HK.out.trans hk); replace HM := hidIt hm; obtain ⟨c0, c3, c4, c5, c6, hL, hleft, hprz, hpmz⟩ := hm.read2; clear hm hk)
              | (go_at_call 30; (with_reducible show Calls Try.prog 30 #[_, Value.int IntKind.i64 3] _ _); refine (N3.out _ _ _ _ _ _ _ _ HM.out (by omega)).mono ?_; clear c0 c3 c4 c5 c6 hL hleft hprz hpmz; rintro e wn ⟨rfl, σn, hr, hm, hk⟩; replace HK := hidIt (HK.out.trans hk); replace HM := hidIt hm; obtain ⟨c0, c3, c4, c5, c6, hL, hleft, hprz, hpmz⟩ := hm.read2; clear hm hk))
        have f6 := HM.out.frozen
        go_wp2
        go_end0
        refine ⟨rfl, _, ?_, (HM.out.depth (D := d) (by omega)).mono (by omega), HM.out.kset HK.out⟩
        first | exact One.set_ _ (by omega) (by assumption) | (rw [wrap4 hx]; exact One.inc _ _ (by omega) (by omega))
    · go_upto_region 6 with (fail)
      have hy := hz
      have hy' : z = 1 ∨ z = 0 ∨ z = 2 ∨ z = 3 ∨ z = 4 := by omega
      clear hy
      rcases hy' with rfl | hy'
      · go_upto_region 11 with (first
              | (go_at_call 17; refine (take_int B pr pm _ _ _ _ _ _ HM.out (by omega) (by omega)).mono ?_; clear c0 c3 c4 c5 c6 hL hleft hprz hpmz; rintro e wn ⟨⟨x, hx, rfl⟩, hm, hk, -⟩; replace HK := hidIt (HK.out.trans hk); replace HM := hidIt hm; obtain ⟨c0, c3, c4, c5, c6, hL, hleft, hprz, hpmz⟩ := hm.read2; clear hm hk)
              | (go_at_call 27; refine (put_any B pr pm _ _ _ _ _ _ _ _ HM.out (by omega)).mono ?_; clear c0 c3 c4 c5 c6 hL hleft hprz hpmz; rintro e wn ⟨rfl, hm, hk⟩; replace HK := hidIt (HK.out.trans hk); replace HM := hidIt hm; obtain ⟨c0, c3, c4, c5, c6, hL, hleft, hprz, hpmz⟩ := hm.read2; clear hm hk))
        go_region_held3 (fun W => W.cell? ⟨pm, 0, none⟩ = some (.pointer (some ⟨pr, 0, none⟩))) (exact c0)
          (first
              | (go_at_call 17; (with_reducible show Calls Try.prog 17 _ (World.drew _) _); refine (take_int B pr pm _ _ _ _ _ _ HM.out.drew1 (by omega) (by omega)).mono ?_; clear c0 c3 c4 c5 c6 hL hleft hprz hpmz; rintro e wn ⟨⟨x, hx, rfl⟩, hm, hk0, -⟩; have hk := (Kq.refl B pr _).drew1.trans hk0; clear hk0; replace HK := hidIt (HK.out.trans hk); replace HM := hidIt hm; obtain ⟨c0, c3, c4, c5, c6, hL, hleft, hprz, hpmz⟩ := hm.read2; clear hm hk)
              | (go_at_call 27; (with_reducible show Calls Try.prog 27 _ (World.drew _) _); refine (put_any B pr pm _ _ _ _ _ _ _ _ HM.out.drew1 (by omega)).mono ?_; clear c0 c3 c4 c5 c6 hL hleft hprz hpmz; rintro e wn ⟨rfl, hm, hk0⟩; have hk := (Kq.refl B pr _).drew1.trans hk0; clear hk0; replace HK := hidIt (HK.out.trans hk); replace HM := hidIt hm; obtain ⟨c0, c3, c4, c5, c6, hL, hleft, hprz, hpmz⟩ := hm.read2; clear hm hk)
              | (go_at_call 17; refine (take_int B pr pm _ _ _ _ _ _ HM.out (by omega) (by omega)).mono ?_; clear c0 c3 c4 c5 c6 hL hleft hprz hpmz; rintro e wn ⟨⟨x, hx, rfl⟩, hm, hk, -⟩; replace HK := hidIt (HK.out.trans hk); replace HM := hidIt hm; obtain ⟨c0, c3, c4, c5, c6, hL, hleft, hprz, hpmz⟩ := hm.read2; clear hm hk)
              | (go_at_call 27; refine (put_any B pr pm _ _ _ _ _ _ _ _ HM.out (by omega)).mono ?_; clear c0 c3 c4 c5 c6 hL hleft hprz hpmz; rintro e wn ⟨rfl, hm, hk⟩; replace HK := hidIt (HK.out.trans hk); replace HM := hidIt hm; obtain ⟨c0, c3, c4, c5, c6, hL, hleft, hprz, hpmz⟩ := hm.read2; clear hm hk))
        go_upto_region 51 with (first
              | (go_at_call 17; refine (take_int B pr pm _ _ _ _ _ _ HM.out (by omega) (by omega)).mono ?_; clear c0 c3 c4 c5 c6 hL hleft hprz hpmz; rintro e wn ⟨⟨x, hx, rfl⟩, hm, hk, -⟩; replace HK := hidIt (HK.out.trans hk); replace HM := hidIt hm; obtain ⟨c0, c3, c4, c5, c6, hL, hleft, hprz, hpmz⟩ := hm.read2; clear hm hk)
              | (go_at_call 27; refine (put_any B pr pm _ _ _ _ _ _ _ _ HM.out (by omega)).mono ?_; clear c0 c3 c4 c5 c6 hL hleft hprz hpmz; rintro e wn ⟨rfl, hm, hk⟩; replace HK := hidIt (HK.out.trans hk); replace HM := hidIt hm; obtain ⟨c0, c3, c4, c5, c6, hL, hleft, hprz, hpmz⟩ := hm.read2; clear hm hk))
        have f6 := HM.out.frozen
        go_wp2
        go_end0
        refine ⟨rfl, _, ?_, (HM.out.depth (D := d) (by omega)).mono (by omega), HM.out.kset HK.out⟩
        (rw [wrap4 hx]; exact One.inc _ _ (by omega) (by omega))
      rcases hy' with rfl | rfl | rfl | rfl
      all_goals
        go_upto_region 51 with (first
              | (go_at_call 17; refine (take_int B pr pm _ _ _ _ _ _ HM.out (by omega) (by omega)).mono ?_; clear c0 c3 c4 c5 c6 hL hleft hprz hpmz; rintro e wn ⟨⟨x, hx, rfl⟩, hm, hk, -⟩; replace HK := hidIt (HK.out.trans hk); replace HM := hidIt hm; obtain ⟨c0, c3, c4, c5, c6, hL, hleft, hprz, hpmz⟩ := hm.read2; clear hm hk)
              | (go_at_call 27; refine (put_any B pr pm _ _ _ _ _ _ _ _ HM.out (by omega)).mono ?_; clear c0 c3 c4 c5 c6 hL hleft hprz hpmz; rintro e wn ⟨rfl, hm, hk⟩; replace HK := hidIt (HK.out.trans hk); replace HM := hidIt hm; obtain ⟨c0, c3, c4, c5, c6, hL, hleft, hprz, hpmz⟩ := hm.read2; clear hm hk)
              | (go_at_call 30; (with_reducible show Calls Try.prog 30 #[_, Value.int IntKind.i64 2] _ _); refine (N2.out _ _ _ _ _ _ _ _ HM.out (by omega)).mono ?_; clear c0 c3 c4 c5 c6 hL hleft hprz hpmz; rintro e wn ⟨rfl, σn, hr, hm, hk⟩; replace HK := hidIt (HK.out.trans hk); replace HM := hidIt hm; obtain ⟨c0, c3, c4, c5, c6, hL, hleft, hprz, hpmz⟩ := hm.read2; clear hm hk)
              | (go_at_call 30; (with_reducible show Calls Try.prog 30 #[_, Value.int IntKind.i64 3] _ _); refine (N3.out _ _ _ _ _ _ _ _ HM.out (by omega)).mono ?_; clear c0 c3 c4 c5 c6 hL hleft hprz hpmz; rintro e wn ⟨rfl, σn, hr, hm, hk⟩; replace HK := hidIt (HK.out.trans hk); replace HM := hidIt hm; obtain ⟨c0, c3, c4, c5, c6, hL, hleft, hprz, hpmz⟩ := hm.read2; clear hm hk)
              | (go_at_call 56; refine (CH.out B pr pm _ _ _ _ HM.out (by omega)).mono ?_; clear c0 c3 c4 c5 c6 hL hleft hprz hpmz; rintro e wn ⟨rfl, σn, hr, hm, hk⟩; replace HK := hidIt (HK.out.trans hk); replace HM := hidIt hm; obtain ⟨c0, c3, c4, c5, c6, hL, hleft, hprz, hpmz⟩ := hm.read2; clear hm hk)
              | (go_at_call 57; refine (LP.out B pr pm _ _ _ _ HM.out (by omega)).mono ?_; clear c0 c3 c4 c5 c6 hL hleft hprz hpmz; rintro e wn ⟨rfl, σn, hr, hm, hk⟩; replace HK := hidIt (HK.out.trans hk); replace HM := hidIt hm; obtain ⟨c0, c3, c4, c5, c6, hL, hleft, hprz, hpmz⟩ := hm.read2; clear hm hk))
        have f6 := HM.out.frozen
        go_wp2
        go_end0
        refine ⟨rfl, _, ?_, (HM.out.depth (D := d) (by omega)).mono (by omega), HM.out.kset HK.out⟩
        first | exact One.set_ _ (by omega) (by assumption) | (rw [wrap4 hx]; exact One.inc _ _ (by omega) (by omega)) | exact One.dup _ (by omega) (by assumption) | exact One.prt (by assumption) | exact One.ast _ (by omega) (by assumption) | exact One.ptx (by assumption) (by assumption) | exact One.ptn (by assumption) (by assumption) | exact One.pts (by assumption) | exact One.arr hr | exact One.thr hr | exact One.nwt _ hlm | exact One.chs (by omega) (by omega) (by rw [← HDE.out]; exact hr) | exact One.lp (by omega) (by omega) (by rw [← HDE.out]; exact hr) | exact One.tr (by omega) (by omega) (by rw [← HDE.out]; exact hr) | exact One.lk (by omega) (by rw [← HDE.out]; exact hr)
set_option maxRecDepth 8000 in
set_option maxHeartbeats 40000000 in
theorem one_deep (hs : Nums) (d D : Nat) (hD : D = d + 1) (hd : 4 ≤ d) (hd2 : d ≤ 100) : OneC d (120) := by
  intro B pr pm n pl σ w h hn
  have HDE := hidIt hD
  have hD1 : D ≤ d + 1 := by omega
  have hD2 : d + 1 ≤ D := by omega
  clear hD
  have N3 := hidIt hs.n3
  have HM := hidIt h
  have HK := hidIt (Kq.refl B pr w)
  obtain ⟨c0, c3, c4, c5, c6, hL, hleft⟩ := h.read
  have hprz := h.pr_lt
  have hpmz := h.pm_lt
  clear h hs
  go_enter Try.func39, Try.ntmps39
  go_upto_region 1 with (go_at_call 17; refine (take_int B pr pm _ _ _ _ _ _ HM.out (by omega) (by omega)).mono ?_; clear c0 c3 c4 c5 c6 hL hleft hprz hpmz; rintro e wn ⟨⟨x, hx, rfl⟩, hm, hk, -⟩; replace HK := hidIt (HK.out.trans hk); replace HM := hidIt hm; obtain ⟨c0, c3, c4, c5, c6, hL, hleft, hprz, hpmz⟩ := hm.read2; clear hm hk)
  have hx16 : (x : Int) < 16 := hx
  have hD4 : 4 < (D : Int) := by omega
  cases pl
  · have f0 := HM.out.frozen
    go_upto_region 4 with (fail)
    have HM2 := hidIt (HM.out.depth (D := D) (u := (d : Int) + 1) (by omega))
    have HK2 := hidIt (HM.out.kset (o := 6) (u := .int .i64 ((d : Int) + 1)) HK.out)
    clear c0 c3 c4 c5 c6 hL hleft hprz hpmz
    clear HM HK f0
    generalize wn.setCell ⟨pm, 6, none⟩ (.int .i64 ((d : Int) + 1)) = W at HM2 HK2 ⊢
    have HM := HM2
    have HK := HK2
    clear HM2 HK2
    obtain ⟨c0, c3, c4, c5, c6, hL, hleft⟩ := HM.out.read
    have hprz := HM.out.pr_lt
    have hpmz := HM.out.pm_lt
    go_upto_region 6 with (fail)
    obtain ⟨y, hy, hyx⟩ := mod2 x
    rw [hyx]
    clear hyx
    have hy' : y = 1 ∨ y = 0 := by omega
    clear hy
    rcases hy' with rfl | hy'
    · go_upto_region 11 with (first
            | (go_at_call 17; refine (take_int B pr pm _ _ _ _ _ _ HM.out (by omega) (by omega)).mono ?_; clear c0 c3 c4 c5 c6 hL hleft hprz hpmz; rintro e wn ⟨⟨x, hx, rfl⟩, hm, hk, -⟩; replace HK := hidIt (HK.out.trans hk); replace HM := hidIt hm; obtain ⟨c0, c3, c4, c5, c6, hL, hleft, hprz, hpmz⟩ := hm.read2; clear hm hk)
            | (go_at_call 27; refine (put_any B pr pm _ _ _ _ _ _ _ _ HM.out (by omega)).mono ?_; clear c0 c3 c4 c5 c6 hL hleft hprz hpmz; rintro e wn ⟨rfl, hm, hk⟩; replace HK := hidIt (HK.out.trans hk); replace HM := hidIt hm; obtain ⟨c0, c3, c4, c5, c6, hL, hleft, hprz, hpmz⟩ := hm.read2; clear hm hk))
      go_region_held3 (fun W => W.cell? ⟨pm, 0, none⟩ = some (.pointer (some ⟨pr, 0, none⟩))) (exact c0)
        (first
            | (go_at_call 17; (with_reducible show Calls Try.prog 17 _ (World.drew _) _); refine (take_int B pr pm _ _ _ _ _ _ HM.out.drew1 (by omega) (by omega)).mono ?_; clear c0 c3 c4 c5 c6 hL hleft hprz hpmz; rintro e wn ⟨⟨x, hx, rfl⟩, hm, hk0, -⟩; have hk := (Kq.refl B pr _).drew1.trans hk0; clear hk0; replace HK := hidIt (HK.out.trans hk); replace HM := hidIt hm; obtain ⟨c0, c3, c4, c5, c6, hL, hleft, hprz, hpmz⟩ := hm.read2; clear hm hk)
            | (go_at_call 27; (with_reducible show Calls Try.prog 27 _ (World.drew _) _); refine (put_any B pr pm _ _ _ _ _ _ _ _ HM.out.drew1 (by omega)).mono ?_; clear c0 c3 c4 c5 c6 hL hleft hprz hpmz; rintro e wn ⟨rfl, hm, hk0⟩; have hk := (Kq.refl B pr _).drew1.trans hk0; clear hk0; replace HK := hidIt (HK.out.trans hk); replace HM := hidIt hm; obtain ⟨c0, c3, c4, c5, c6, hL, hleft, hprz, hpmz⟩ := hm.read2; clear hm hk)
            | (go_at_call 17; refine (take_int B pr pm _ _ _ _ _ _ HM.out (by omega) (by omega)).mono ?_; clear c0 c3 c4 c5 c6 hL hleft hprz hpmz; rintro e wn ⟨⟨x, hx, rfl⟩, hm, hk, -⟩; replace HK := hidIt (HK.out.trans hk); replace HM := hidIt hm; obtain ⟨c0, c3, c4, c5, c6, hL, hleft, hprz, hpmz⟩ := hm.read2; clear hm hk)
            | (go_at_call 27; refine (put_any B pr pm _ _ _ _ _ _ _ _ HM.out (by omega)).mono ?_; clear c0 c3 c4 c5 c6 hL hleft hprz hpmz; rintro e wn ⟨rfl, hm, hk⟩; replace HK := hidIt (HK.out.trans hk); replace HM := hidIt hm; obtain ⟨c0, c3, c4, c5, c6, hL, hleft, hprz, hpmz⟩ := hm.read2; clear hm hk))
      go_upto_region 51 with (first
            | (go_at_call 17; refine (take_int B pr pm _ _ _ _ _ _ HM.out (by omega) (by omega)).mono ?_; clear c0 c3 c4 c5 c6 hL hleft hprz hpmz; rintro e wn ⟨⟨x, hx, rfl⟩, hm, hk, -⟩; replace HK := hidIt (HK.out.trans hk); replace HM := hidIt hm; obtain ⟨c0, c3, c4, c5, c6, hL, hleft, hprz, hpmz⟩ := hm.read2; clear hm hk)
            | (go_at_call 27; refine (put_any B pr pm _ _ _ _ _ _ _ _ HM.out (by omega)).mono ?_; clear c0 c3 c4 c5 c6 hL hleft hprz hpmz; rintro e wn ⟨rfl, hm, hk⟩; replace HK := hidIt (HK.out.trans hk); replace HM := hidIt hm; obtain ⟨c0, c3, c4, c5, c6, hL, hleft, hprz, hpmz⟩ := hm.read2; clear hm hk))
      have f6 := HM.out.frozen
      go_wp2
      go_end0
      refine ⟨rfl, _, ?_, (HM.out.depth (D := d) (by omega)).mono (by omega), HM.out.kset HK.out⟩
      (rw [wrap4 hx]; exact One.inc _ _ (by omega) (by omega))
    subst hy'
    all_goals
      go_upto_region 51 with (first
            | (go_at_call 17; refine (take_int B pr pm _ _ _ _ _ _ HM.out (by omega) (by omega)).mono ?_; clear c0 c3 c4 c5 c6 hL hleft hprz hpmz; rintro e wn ⟨⟨x, hx, rfl⟩, hm, hk, -⟩; replace HK := hidIt (HK.out.trans hk); replace HM := hidIt hm; obtain ⟨c0, c3, c4, c5, c6, hL, hleft, hprz, hpmz⟩ := hm.read2; clear hm hk)
            | (go_at_call 27; refine (put_any B pr pm _ _ _ _ _ _ _ _ HM.out (by omega)).mono ?_; clear c0 c3 c4 c5 c6 hL hleft hprz hpmz; rintro e wn ⟨rfl, hm, hk⟩; replace HK := hidIt (HK.out.trans hk); replace HM := hidIt hm; obtain ⟨c0, c3, c4, c5, c6, hL, hleft, hprz, hpmz⟩ := hm.read2; clear hm hk)
            | (go_at_call 30; (with_reducible show Calls Try.prog 30 #[_, Value.int IntKind.i64 3] _ _); refine (N3.out _ _ _ _ _ _ _ _ HM.out (by omega)).mono ?_; clear c0 c3 c4 c5 c6 hL hleft hprz hpmz; rintro e wn ⟨rfl, σn, hr, hm, hk⟩; replace HK := hidIt (HK.out.trans hk); replace HM := hidIt hm; obtain ⟨c0, c3, c4, c5, c6, hL, hleft, hprz, hpmz⟩ := hm.read2; clear hm hk))
      have f6 := HM.out.frozen
      go_wp2
      go_end0
      refine ⟨rfl, _, ?_, (HM.out.depth (D := d) (by omega)).mono (by omega), HM.out.kset HK.out⟩
      first | exact One.set_ _ (by omega) (by assumption) | (rw [wrap4 hx]; exact One.inc _ _ (by omega) (by omega))
  · go_upto_region 3 with (fail)
    obtain ⟨z, hz, hzx⟩ := mod5 x
    rw [hzx]
    clear hzx
    have f0 := HM.out.frozen
    go_upto_region 4 with (fail)
    have HM2 := hidIt (HM.out.depth (D := D) (u := (d : Int) + 1) (by omega))
    have HK2 := hidIt (HM.out.kset (o := 6) (u := .int .i64 ((d : Int) + 1)) HK.out)
    clear c0 c3 c4 c5 c6 hL hleft hprz hpmz
    clear HM HK f0
    generalize wn.setCell ⟨pm, 6, none⟩ (.int .i64 ((d : Int) + 1)) = W at HM2 HK2 ⊢
    have HM := HM2
    have HK := HK2
    clear HM2 HK2
    obtain ⟨c0, c3, c4, c5, c6, hL, hleft⟩ := HM.out.read
    have hprz := HM.out.pr_lt
    have hpmz := HM.out.pm_lt
    go_upto_region 6 with (fail)
    obtain ⟨y, hy, hyx⟩ := mod2 z
    rw [hyx]
    clear hyx
    have hy' : y = 1 ∨ y = 0 := by omega
    clear hy
    rcases hy' with rfl | hy'
    · go_upto_region 11 with (first
            | (go_at_call 17; refine (take_int B pr pm _ _ _ _ _ _ HM.out (by omega) (by omega)).mono ?_; clear c0 c3 c4 c5 c6 hL hleft hprz hpmz; rintro e wn ⟨⟨x, hx, rfl⟩, hm, hk, -⟩; replace HK := hidIt (HK.out.trans hk); replace HM := hidIt hm; obtain ⟨c0, c3, c4, c5, c6, hL, hleft, hprz, hpmz⟩ := hm.read2; clear hm hk)
            | (go_at_call 27; refine (put_any B pr pm _ _ _ _ _ _ _ _ HM.out (by omega)).mono ?_; clear c0 c3 c4 c5 c6 hL hleft hprz hpmz; rintro e wn ⟨rfl, hm, hk⟩; replace HK := hidIt (HK.out.trans hk); replace HM := hidIt hm; obtain ⟨c0, c3, c4, c5, c6, hL, hleft, hprz, hpmz⟩ := hm.read2; clear hm hk))
      go_region_held3 (fun W => W.cell? ⟨pm, 0, none⟩ = some (.pointer (some ⟨pr, 0, none⟩))) (exact c0)
        (first
            | (go_at_call 17; (with_reducible show Calls Try.prog 17 _ (World.drew _) _); refine (take_int B pr pm _ _ _ _ _ _ HM.out.drew1 (by omega) (by omega)).mono ?_; clear c0 c3 c4 c5 c6 hL hleft hprz hpmz; rintro e wn ⟨⟨x, hx, rfl⟩, hm, hk0, -⟩; have hk := (Kq.refl B pr _).drew1.trans hk0; clear hk0; replace HK := hidIt (HK.out.trans hk); replace HM := hidIt hm; obtain ⟨c0, c3, c4, c5, c6, hL, hleft, hprz, hpmz⟩ := hm.read2; clear hm hk)
            | (go_at_call 27; (with_reducible show Calls Try.prog 27 _ (World.drew _) _); refine (put_any B pr pm _ _ _ _ _ _ _ _ HM.out.drew1 (by omega)).mono ?_; clear c0 c3 c4 c5 c6 hL hleft hprz hpmz; rintro e wn ⟨rfl, hm, hk0⟩; have hk := (Kq.refl B pr _).drew1.trans hk0; clear hk0; replace HK := hidIt (HK.out.trans hk); replace HM := hidIt hm; obtain ⟨c0, c3, c4, c5, c6, hL, hleft, hprz, hpmz⟩ := hm.read2; clear hm hk)
            | (go_at_call 17; refine (take_int B pr pm _ _ _ _ _ _ HM.out (by omega) (by omega)).mono ?_; clear c0 c3 c4 c5 c6 hL hleft hprz hpmz; rintro e wn ⟨⟨x, hx, rfl⟩, hm, hk, -⟩; replace HK := hidIt (HK.out.trans hk); replace HM := hidIt hm; obtain ⟨c0, c3, c4, c5, c6, hL, hleft, hprz, hpmz⟩ := hm.read2; clear hm hk)
            | (go_at_call 27; refine (put_any B pr pm _ _ _ _ _ _ _ _ HM.out (by omega)).mono ?_; clear c0 c3 c4 c5 c6 hL hleft hprz hpmz; rintro e wn ⟨rfl, hm, hk⟩; replace HK := hidIt (HK.out.trans hk); replace HM := hidIt hm; obtain ⟨c0, c3, c4, c5, c6, hL, hleft, hprz, hpmz⟩ := hm.read2; clear hm hk))
      go_upto_region 51 with (first
            | (go_at_call 17; refine (take_int B pr pm _ _ _ _ _ _ HM.out (by omega) (by omega)).mono ?_; clear c0 c3 c4 c5 c6 hL hleft hprz hpmz; rintro e wn ⟨⟨x, hx, rfl⟩, hm, hk, -⟩; replace HK := hidIt (HK.out.trans hk); replace HM := hidIt hm; obtain ⟨c0, c3, c4, c5, c6, hL, hleft, hprz, hpmz⟩ := hm.read2; clear hm hk)
            | (go_at_call 27; refine (put_any B pr pm _ _ _ _ _ _ _ _ HM.out (by omega)).mono ?_; clear c0 c3 c4 c5 c6 hL hleft hprz hpmz; rintro e wn ⟨rfl, hm, hk⟩; replace HK := hidIt (HK.out.trans hk); replace HM := hidIt hm; obtain ⟨c0, c3, c4, c5, c6, hL, hleft, hprz, hpmz⟩ := hm.read2; clear hm hk))
      have f6 := HM.out.frozen
      go_wp2
      go_end0
      refine ⟨rfl, _, ?_, (HM.out.depth (D := d) (by omega)).mono (by omega), HM.out.kset HK.out⟩
      (rw [wrap4 hx]; exact One.inc _ _ (by omega) (by omega))
    subst hy'
    all_goals
      go_upto_region 51 with (first
            | (go_at_call 17; refine (take_int B pr pm _ _ _ _ _ _ HM.out (by omega) (by omega)).mono ?_; clear c0 c3 c4 c5 c6 hL hleft hprz hpmz; rintro e wn ⟨⟨x, hx, rfl⟩, hm, hk, -⟩; replace HK := hidIt (HK.out.trans hk); replace HM := hidIt hm; obtain ⟨c0, c3, c4, c5, c6, hL, hleft, hprz, hpmz⟩ := hm.read2; clear hm hk)
            | (go_at_call 27; refine (put_any B pr pm _ _ _ _ _ _ _ _ HM.out (by omega)).mono ?_; clear c0 c3 c4 c5 c6 hL hleft hprz hpmz; rintro e wn ⟨rfl, hm, hk⟩; replace HK := hidIt (HK.out.trans hk); replace HM := hidIt hm; obtain ⟨c0, c3, c4, c5, c6, hL, hleft, hprz, hpmz⟩ := hm.read2; clear hm hk)
            | (go_at_call 30; (with_reducible show Calls Try.prog 30 #[_, Value.int IntKind.i64 3] _ _); refine (N3.out _ _ _ _ _ _ _ _ HM.out (by omega)).mono ?_; clear c0 c3 c4 c5 c6 hL hleft hprz hpmz; rintro e wn ⟨rfl, σn, hr, hm, hk⟩; replace HK := hidIt (HK.out.trans hk); replace HM := hidIt hm; obtain ⟨c0, c3, c4, c5, c6, hL, hleft, hprz, hpmz⟩ := hm.read2; clear hm hk))
      have f6 := HM.out.frozen
      go_wp2
      go_end0
      refine ⟨rfl, _, ?_, (HM.out.depth (D := d) (by omega)).mono (by omega), HM.out.kset HK.out⟩
      first | exact One.set_ _ (by omega) (by assumption) | (rw [wrap4 hx]; exact One.inc _ _ (by omega) (by omega))
theorem nums_all : Nums := by
  have h1 := nr_all 1 (by decide)
  have h2 := nr_all 2 (by decide)
  have h3 := nr_all 3 (by decide)
  exact ⟨h1.1, h2.1, h3.1, h1.2, h2.2, h3.2⟩
theorem one_all : OneC 0 40920 := by
  have hs := nums_all
  have o4 : OneC 4 120 := one_deep hs 4 5 rfl (by decide) (by decide)
  have s4 := some_any 4 120 o4
  have o3 : OneC 3 600 := one_any hs 3 4 120 rfl (by decide) s4.one s4.two
  have s3 := some_any 3 600 o3
  have o2 : OneC 2 2520 := one_any hs 2 3 600 rfl (by decide) s3.one s3.two
  have s2 := some_any 2 2520 o2
  have o1 : OneC 1 10200 := one_any hs 1 2 2520 rfl (by decide) s2.one s2.two
  have s1 := some_any 1 10200 o1
  exact one_any hs 0 1 10200 rfl (by decide) s1.one s1.two
end Go.Proofs.Ytlnapfeglbdecaa.M
