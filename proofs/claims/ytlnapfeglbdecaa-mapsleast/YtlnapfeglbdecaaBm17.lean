/- Texts MJlocked MJchoice MI MF MG MH. -/
import Derived.Test.YtlnapfeglbdecaaBm15
import Derived.Deep.CutRange
namespace Go.Proofs.Ytlnapfeglbdecaa.M
open Go.RowKit
set_option maxRecDepth 8000 in
set_option maxHeartbeats 40000000 in
theorem locked_any (hs : Nums) (d c : Nat) (h1 : SomeL d 1 c) (h2 : SomeL d 2 (2 * c)) (B pr pm n : Nat) (pl : Bool) (σ : SG) (w : World) (h : Mk B pr pm n d pl σ w) (hn : n + c + 40 ≤ 700000) :
    Calls Try.prog 60 #[.pointer (some ⟨pm, 0, none⟩)] w fun e w' => e = .returned (.tuple #[]) ∧ ∃ σ', Lk d pl σ σ' ∧ Mk B pr pm (n + c + 40) d pl σ' w' ∧ Kq B pr w w' := by
  have N1 := hidIt hs.n1
  have N2 := hidIt hs.n2
  have R1 := hidIt hs.r1
  have R2 := hidIt hs.r2
  have S1 := hidIt h1
  have S2 := hidIt h2
  clear h1 h2
  have HM := hidIt h
  have HK := hidIt (Kq.refl B pr w)
  obtain ⟨c0, c3, c4, c5, c6, hL, hleft⟩ := h.read
  have hprz := h.pr_lt
  have hpmz := h.pm_lt
  clear h hs
  go_enter Try.func60, Try.ntmps60
  go_upto_region 5 with (first
      | (go_at_call 17; refine (take_int B pr pm _ _ _ _ _ _ HM.out (by omega) (by omega)).mono ?_; clear c0 c3 c4 c5 c6 hL hleft hprz hpmz; rintro e wn ⟨⟨x, hx, rfl⟩, hm, hk, -⟩; replace HK := hidIt (HK.out.trans hk); replace HM := hidIt hm; obtain ⟨c0, c3, c4, c5, c6, hL, hleft, hprz, hpmz⟩ := hm.read2; clear hm hk)
      | (go_at_call 27; refine (put_any B pr pm _ _ _ _ _ _ _ _ HM.out (by omega)).mono ?_; clear c0 c3 c4 c5 c6 hL hleft hprz hpmz; rintro e wn ⟨rfl, hm, hk⟩; replace HK := hidIt (HK.out.trans hk); replace HM := hidIt hm; obtain ⟨c0, c3, c4, c5, c6, hL, hleft, hprz, hpmz⟩ := hm.read2; clear hm hk)
      | (go_at_call 29; (with_reducible show Calls Try.prog 29 #[_, Value.int IntKind.i64 1] _ _); refine (S1.out _ _ _ _ _ _ _ HM.out (by omega)).mono ?_; clear c0 c3 c4 c5 c6 hL hleft hprz hpmz; rintro e wn ⟨rfl, σn, hr, hm, hk⟩; replace HK := hidIt (HK.out.trans hk); replace HM := hidIt hm; obtain ⟨c0, c3, c4, c5, c6, hL, hleft, hprz, hpmz⟩ := hm.read2; clear hm hk))
  have hx4 : (x = 0 ∨ x = 1 ∨ x = 2 ∨ x = 3) := by omega
  rcases hx4 with rfl | rfl | rfl | rfl
  all_goals
    go_wp2_with (first
      | (go_at_call 17; (with_reducible show Calls Try.prog 17 _ (World.alloc _ _) _); refine (take_int B pr pm _ _ _ _ _ _ (HM.out.below (below_alloc _ _)) (by omega) (by omega)).mono ?_; have hlp := hprz; clear c0 c3 c4 c5 c6 hL hleft hprz hpmz; rintro e wn ⟨⟨x, hx, rfl⟩, hm, hk0, hon⟩; have hk := (HM.out.kq (below_alloc _ _)).trans hk0; clear hk0; have hlit := lit_after hon hlp; clear hon hlp; (obtain ⟨lv, hlv, hlm⟩ := lit_str (l := [sNotify, sNotifyAll, sWait]) (x := x) hlit (by show _ < 3; omega); have hlz : lv.size ≤ 1000000 := strs_small hlm (by decide)); clear hlit; replace HK := hidIt (HK.out.trans hk); replace HM := hidIt hm; obtain ⟨c0, c3, c4, c5, c6, hL, hleft, hprz, hpmz⟩ := hm.read2; clear hm hk)
      | (go_at_call 17; refine (take_int B pr pm _ _ _ _ _ _ HM.out (by omega) (by omega)).mono ?_; clear c0 c3 c4 c5 c6 hL hleft hprz hpmz; rintro e wn ⟨⟨x, hx, rfl⟩, hm, hk, -⟩; replace HK := hidIt (HK.out.trans hk); replace HM := hidIt hm; obtain ⟨c0, c3, c4, c5, c6, hL, hleft, hprz, hpmz⟩ := hm.read2; clear hm hk)
      | (go_at_call 27; refine (put_any B pr pm _ _ _ _ _ _ _ _ HM.out (by omega)).mono ?_; clear c0 c3 c4 c5 c6 hL hleft hprz hpmz; rintro e wn ⟨rfl, hm, hk⟩; replace HK := hidIt (HK.out.trans hk); replace HM := hidIt hm; obtain ⟨c0, c3, c4, c5, c6, hL, hleft, hprz, hpmz⟩ := hm.read2; clear hm hk)
      | (go_at_call 42; refine (field_any B pr pm _ _ _ _ _ _ _ _ HM.out (by omega) (by first | assumption | exact Nat.le_of_ble_eq_true rfl | simp [ByteArray.size]) (by first | assumption | exact Nat.le_of_ble_eq_true rfl | simp [ByteArray.size]) (by first | assumption | exact Nat.le_of_ble_eq_true rfl | simp [ByteArray.size])).mono ?_; clear c0 c3 c4 c5 c6 hL hleft hprz hpmz; rintro e wn ⟨rfl, hm, hk⟩; replace HK := hidIt (HK.out.trans hk); replace HM := hidIt hm; obtain ⟨c0, c3, c4, c5, c6, hL, hleft, hprz, hpmz⟩ := hm.read2; clear hm hk)
      | (go_at_call 43; (with_reducible show Calls Try.prog 43 _ (World.alloc _ _) _); refine (method_any B pr pm _ _ _ _ _ _ _ _ (HM.out.below (below_alloc _ _)) (by omega) (by first | assumption | exact Nat.le_of_ble_eq_true rfl | simp [ByteArray.size]) (by first | assumption | exact Nat.le_of_ble_eq_true rfl | simp [ByteArray.size]) (by first | assumption | exact Nat.le_of_ble_eq_true rfl | simp [ByteArray.size])).mono ?_; clear c0 c3 c4 c5 c6 hL hleft hprz hpmz; rintro e wn ⟨rfl, hm, hk0⟩; have hk := (HM.out.kq (below_alloc _ _)).trans hk0; clear hk0; replace HK := hidIt (HK.out.trans hk); replace HM := hidIt hm; obtain ⟨c0, c3, c4, c5, c6, hL, hleft, hprz, hpmz⟩ := hm.read2; clear hm hk)
      | (go_at_call 43; refine (method_any B pr pm _ _ _ _ _ _ _ _ HM.out (by omega) (by first | assumption | exact Nat.le_of_ble_eq_true rfl | simp [ByteArray.size]) (by first | assumption | exact Nat.le_of_ble_eq_true rfl | simp [ByteArray.size]) (by first | assumption | exact Nat.le_of_ble_eq_true rfl | simp [ByteArray.size])).mono ?_; clear c0 c3 c4 c5 c6 hL hleft hprz hpmz; rintro e wn ⟨rfl, hm, hk⟩; replace HK := hidIt (HK.out.trans hk); replace HM := hidIt hm; obtain ⟨c0, c3, c4, c5, c6, hL, hleft, hprz, hpmz⟩ := hm.read2; clear hm hk)
      | (go_at_call 44; refine (class_any B pr pm _ _ _ _ _ _ HM.out (by omega) (by first | assumption | exact Nat.le_of_ble_eq_true rfl | simp [ByteArray.size])).mono ?_; clear c0 c3 c4 c5 c6 hL hleft hprz hpmz; rintro e wn ⟨rfl, hm, hk⟩; replace HK := hidIt (HK.out.trans hk); replace HM := hidIt hm; obtain ⟨c0, c3, c4, c5, c6, hL, hleft, hprz, hpmz⟩ := hm.read2; clear hm hk)
      | (go_at_call 68; refine (jump_any B pr pm _ _ _ _ _ _ _ HM.out (by omega)).mono ?_; clear c0 c3 c4 c5 c6 hL hleft hprz hpmz; rintro e wn ⟨rfl, hm, hk⟩; replace HK := hidIt (HK.out.trans hk); replace HM := hidIt hm; obtain ⟨c0, c3, c4, c5, c6, hL, hleft, hprz, hpmz⟩ := hm.read2; clear hm hk)
      | (go_at_call 69; refine (here_any B pr pm _ _ _ _ _ _ HM.out (by omega)).mono ?_; clear c0 c3 c4 c5 c6 hL hleft hprz hpmz; rintro e wn ⟨rfl, hm, hk⟩; replace HK := hidIt (HK.out.trans hk); replace HM := hidIt hm; obtain ⟨c0, c3, c4, c5, c6, hL, hleft, hprz, hpmz⟩ := hm.read2; clear hm hk)
      | (go_at_call 67; refine (mark_any B pr pm _ _ _ _ _ HM.out (by omega)).mono ?_; clear c0 c3 c4 c5 c6 hL hleft hprz hpmz; rintro e wn ⟨rfl, hm, hk⟩; replace HK := hidIt (HK.out.trans hk); replace HM := hidIt hm; obtain ⟨c0, c3, c4, c5, c6, hL, hleft, hprz, hpmz⟩ := hm.read2; clear hm hk)
      | (go_at_call 30; (with_reducible show Calls Try.prog 30 #[_, Value.int IntKind.i64 1] _ _); refine (N1.out _ _ _ _ _ _ _ _ HM.out (by omega)).mono ?_; clear c0 c3 c4 c5 c6 hL hleft hprz hpmz; rintro e wn ⟨rfl, σn, hr, hm, hk⟩; replace HK := hidIt (HK.out.trans hk); replace HM := hidIt hm; obtain ⟨c0, c3, c4, c5, c6, hL, hleft, hprz, hpmz⟩ := hm.read2; clear hm hk)
      | (go_at_call 30; (with_reducible show Calls Try.prog 30 #[_, Value.int IntKind.i64 2] _ _); refine (N2.out _ _ _ _ _ _ _ _ HM.out (by omega)).mono ?_; clear c0 c3 c4 c5 c6 hL hleft hprz hpmz; rintro e wn ⟨rfl, σn, hr, hm, hk⟩; replace HK := hidIt (HK.out.trans hk); replace HM := hidIt hm; obtain ⟨c0, c3, c4, c5, c6, hL, hleft, hprz, hpmz⟩ := hm.read2; clear hm hk)
      | (go_at_call 41; (with_reducible show Calls Try.prog 41 #[_, Value.int IntKind.i64 1] _ _); refine (R1.out _ _ _ _ _ _ _ _ HM.out (by omega)).mono ?_; clear c0 c3 c4 c5 c6 hL hleft hprz hpmz; rintro e wn ⟨rfl, σn, hr, hm, hk⟩; replace HK := hidIt (HK.out.trans hk); replace HM := hidIt hm; obtain ⟨c0, c3, c4, c5, c6, hL, hleft, hprz, hpmz⟩ := hm.read2; clear hm hk)
      | (go_at_call 41; (with_reducible show Calls Try.prog 41 #[_, Value.int IntKind.i64 2] _ _); refine (R2.out _ _ _ _ _ _ _ _ HM.out (by omega)).mono ?_; clear c0 c3 c4 c5 c6 hL hleft hprz hpmz; rintro e wn ⟨rfl, σn, hr, hm, hk⟩; replace HK := hidIt (HK.out.trans hk); replace HM := hidIt hm; obtain ⟨c0, c3, c4, c5, c6, hL, hleft, hprz, hpmz⟩ := hm.read2; clear hm hk)
      | (go_at_call 29; (with_reducible show Calls Try.prog 29 #[_, Value.int IntKind.i64 1] _ _); refine (S1.out _ _ _ _ _ _ _ HM.out (by omega)).mono ?_; clear c0 c3 c4 c5 c6 hL hleft hprz hpmz; rintro e wn ⟨rfl, σn, hr, hm, hk⟩; replace HK := hidIt (HK.out.trans hk); replace HM := hidIt hm; obtain ⟨c0, c3, c4, c5, c6, hL, hleft, hprz, hpmz⟩ := hm.read2; clear hm hk)
      | (go_at_call 29; (with_reducible show Calls Try.prog 29 #[_, Value.int IntKind.i64 2] _ _); refine (S2.out _ _ _ _ _ _ _ HM.out (by omega)).mono ?_; clear c0 c3 c4 c5 c6 hL hleft hprz hpmz; rintro e wn ⟨rfl, σn, hr, hm, hk⟩; replace HK := hidIt (HK.out.trans hk); replace HM := hidIt hm; obtain ⟨c0, c3, c4, c5, c6, hL, hleft, hprz, hpmz⟩ := hm.read2; clear hm hk))
    go_end0
    refine ⟨rfl, _, ?_, HM.out.mono (by omega), HK.out⟩
    first | exact Lk.l0 _ (by omega) (by assumption) | exact Lk.l1 _ _ (by omega) (by simp) (by assumption)
end Go.Proofs.Ytlnapfeglbdecaa.M
namespace Go.Proofs.Ytlnapfeglbdecaa.M
open Go.RowKit
set_option maxRecDepth 8000 in
set_option maxHeartbeats 40000000 in
theorem choice_any (hs : Nums) (d c : Nat) (h1 : SomeL d 1 c) (h2 : SomeL d 2 (2 * c)) (B pr pm n : Nat) (pl : Bool) (σ : SG) (w : World) (h : Mk B pr pm n d pl σ w) (hn : n + 4 * c + 100 ≤ 700000) :
    Calls Try.prog 56 #[.pointer (some ⟨pm, 0, none⟩)] w fun e w' => e = .returned (.tuple #[]) ∧ ∃ σ', Chs d pl σ σ' ∧ Mk B pr pm (n + 4 * c + 100) d pl σ' w' ∧ Kq B pr w w' := by
  have N1 := hidIt hs.n1
  have N2 := hidIt hs.n2
  have R1 := hidIt hs.r1
  have R2 := hidIt hs.r2
  have S1 := hidIt h1
  have S2 := hidIt h2
  clear h1 h2
  have HM := hidIt h
  have HK := hidIt (Kq.refl B pr w)
  obtain ⟨c0, c3, c4, c5, c6, hL, hleft⟩ := h.read
  have hprz := h.pr_lt
  have hpmz := h.pm_lt
  clear h hs
  go_enter Try.func56, Try.ntmps56
  go_upto_region 6 with (first
      | (go_at_call 17; refine (take_int B pr pm _ _ _ _ _ _ HM.out (by omega) (by omega)).mono ?_; clear c0 c3 c4 c5 c6 hL hleft hprz hpmz; rintro e wn ⟨⟨x, hx, rfl⟩, hm, hk, -⟩; replace HK := hidIt (HK.out.trans hk); replace HM := hidIt hm; obtain ⟨c0, c3, c4, c5, c6, hL, hleft, hprz, hpmz⟩ := hm.read2; clear hm hk)
      | (go_at_call 67; refine (mark_any B pr pm _ _ _ _ _ HM.out (by omega)).mono ?_; clear c0 c3 c4 c5 c6 hL hleft hprz hpmz; rintro e wn ⟨rfl, hm, hk⟩; replace HK := hidIt (HK.out.trans hk); replace HM := hidIt hm; obtain ⟨c0, c3, c4, c5, c6, hL, hleft, hprz, hpmz⟩ := hm.read2; clear hm hk))
  have hx4 : (x = 0 ∨ x = 1 ∨ x = 2 ∨ x = 3) := by omega
  rcases hx4 with rfl | rfl | rfl | rfl
  all_goals
    cases pl
    all_goals
      go_wp2_with (first
      | (go_at_call 17; (with_reducible show Calls Try.prog 17 _ (World.alloc _ _) _); refine (take_int B pr pm _ _ _ _ _ _ (HM.out.below (below_alloc _ _)) (by omega) (by omega)).mono ?_; have hlp := hprz; clear c0 c3 c4 c5 c6 hL hleft hprz hpmz; rintro e wn ⟨⟨x, hx, rfl⟩, hm, hk0, hon⟩; have hk := (HM.out.kq (below_alloc _ _)).trans hk0; clear hk0; have hlit := lit_after hon hlp; clear hon hlp; (first | (obtain ⟨lv, hlv, hlm⟩ := lit_int (k := .i64) (l := [198, 199]) (x := x) hlit (by show _ < 2; omega)) | (obtain ⟨lv, hlv, hlm⟩ := lit_int (k := .i64) (l := [165, 166]) (x := x) hlit (by show _ < 2; omega))); clear hlit; replace HK := hidIt (HK.out.trans hk); replace HM := hidIt hm; obtain ⟨c0, c3, c4, c5, c6, hL, hleft, hprz, hpmz⟩ := hm.read2; clear hm hk)
      | (go_at_call 17; refine (take_int B pr pm _ _ _ _ _ _ HM.out (by omega) (by omega)).mono ?_; clear c0 c3 c4 c5 c6 hL hleft hprz hpmz; rintro e wn ⟨⟨x, hx, rfl⟩, hm, hk, -⟩; replace HK := hidIt (HK.out.trans hk); replace HM := hidIt hm; obtain ⟨c0, c3, c4, c5, c6, hL, hleft, hprz, hpmz⟩ := hm.read2; clear hm hk)
      | (go_at_call 27; refine (put_any B pr pm _ _ _ _ _ _ _ _ HM.out (by omega)).mono ?_; clear c0 c3 c4 c5 c6 hL hleft hprz hpmz; rintro e wn ⟨rfl, hm, hk⟩; replace HK := hidIt (HK.out.trans hk); replace HM := hidIt hm; obtain ⟨c0, c3, c4, c5, c6, hL, hleft, hprz, hpmz⟩ := hm.read2; clear hm hk)
      | (go_at_call 42; refine (field_any B pr pm _ _ _ _ _ _ _ _ HM.out (by omega) (by first | assumption | exact Nat.le_of_ble_eq_true rfl | simp [ByteArray.size]) (by first | assumption | exact Nat.le_of_ble_eq_true rfl | simp [ByteArray.size]) (by first | assumption | exact Nat.le_of_ble_eq_true rfl | simp [ByteArray.size])).mono ?_; clear c0 c3 c4 c5 c6 hL hleft hprz hpmz; rintro e wn ⟨rfl, hm, hk⟩; replace HK := hidIt (HK.out.trans hk); replace HM := hidIt hm; obtain ⟨c0, c3, c4, c5, c6, hL, hleft, hprz, hpmz⟩ := hm.read2; clear hm hk)
      | (go_at_call 43; (with_reducible show Calls Try.prog 43 _ (World.alloc _ _) _); refine (method_any B pr pm _ _ _ _ _ _ _ _ (HM.out.below (below_alloc _ _)) (by omega) (by first | assumption | exact Nat.le_of_ble_eq_true rfl | simp [ByteArray.size]) (by first | assumption | exact Nat.le_of_ble_eq_true rfl | simp [ByteArray.size]) (by first | assumption | exact Nat.le_of_ble_eq_true rfl | simp [ByteArray.size])).mono ?_; clear c0 c3 c4 c5 c6 hL hleft hprz hpmz; rintro e wn ⟨rfl, hm, hk0⟩; have hk := (HM.out.kq (below_alloc _ _)).trans hk0; clear hk0; replace HK := hidIt (HK.out.trans hk); replace HM := hidIt hm; obtain ⟨c0, c3, c4, c5, c6, hL, hleft, hprz, hpmz⟩ := hm.read2; clear hm hk)
      | (go_at_call 43; refine (method_any B pr pm _ _ _ _ _ _ _ _ HM.out (by omega) (by first | assumption | exact Nat.le_of_ble_eq_true rfl | simp [ByteArray.size]) (by first | assumption | exact Nat.le_of_ble_eq_true rfl | simp [ByteArray.size]) (by first | assumption | exact Nat.le_of_ble_eq_true rfl | simp [ByteArray.size])).mono ?_; clear c0 c3 c4 c5 c6 hL hleft hprz hpmz; rintro e wn ⟨rfl, hm, hk⟩; replace HK := hidIt (HK.out.trans hk); replace HM := hidIt hm; obtain ⟨c0, c3, c4, c5, c6, hL, hleft, hprz, hpmz⟩ := hm.read2; clear hm hk)
      | (go_at_call 44; refine (class_any B pr pm _ _ _ _ _ _ HM.out (by omega) (by first | assumption | exact Nat.le_of_ble_eq_true rfl | simp [ByteArray.size])).mono ?_; clear c0 c3 c4 c5 c6 hL hleft hprz hpmz; rintro e wn ⟨rfl, hm, hk⟩; replace HK := hidIt (HK.out.trans hk); replace HM := hidIt hm; obtain ⟨c0, c3, c4, c5, c6, hL, hleft, hprz, hpmz⟩ := hm.read2; clear hm hk)
      | (go_at_call 68; refine (jump_any B pr pm _ _ _ _ _ _ _ HM.out (by omega)).mono ?_; clear c0 c3 c4 c5 c6 hL hleft hprz hpmz; rintro e wn ⟨rfl, hm, hk⟩; replace HK := hidIt (HK.out.trans hk); replace HM := hidIt hm; obtain ⟨c0, c3, c4, c5, c6, hL, hleft, hprz, hpmz⟩ := hm.read2; clear hm hk)
      | (go_at_call 69; refine (here_any B pr pm _ _ _ _ _ _ HM.out (by omega)).mono ?_; clear c0 c3 c4 c5 c6 hL hleft hprz hpmz; rintro e wn ⟨rfl, hm, hk⟩; replace HK := hidIt (HK.out.trans hk); replace HM := hidIt hm; obtain ⟨c0, c3, c4, c5, c6, hL, hleft, hprz, hpmz⟩ := hm.read2; clear hm hk)
      | (go_at_call 67; refine (mark_any B pr pm _ _ _ _ _ HM.out (by omega)).mono ?_; clear c0 c3 c4 c5 c6 hL hleft hprz hpmz; rintro e wn ⟨rfl, hm, hk⟩; replace HK := hidIt (HK.out.trans hk); replace HM := hidIt hm; obtain ⟨c0, c3, c4, c5, c6, hL, hleft, hprz, hpmz⟩ := hm.read2; clear hm hk)
      | (go_at_call 30; (with_reducible show Calls Try.prog 30 #[_, Value.int IntKind.i64 1] _ _); refine (N1.out _ _ _ _ _ _ _ _ HM.out (by omega)).mono ?_; clear c0 c3 c4 c5 c6 hL hleft hprz hpmz; rintro e wn ⟨rfl, σn, hr, hm, hk⟩; replace HK := hidIt (HK.out.trans hk); replace HM := hidIt hm; obtain ⟨c0, c3, c4, c5, c6, hL, hleft, hprz, hpmz⟩ := hm.read2; clear hm hk)
      | (go_at_call 30; (with_reducible show Calls Try.prog 30 #[_, Value.int IntKind.i64 2] _ _); refine (N2.out _ _ _ _ _ _ _ _ HM.out (by omega)).mono ?_; clear c0 c3 c4 c5 c6 hL hleft hprz hpmz; rintro e wn ⟨rfl, σn, hr, hm, hk⟩; replace HK := hidIt (HK.out.trans hk); replace HM := hidIt hm; obtain ⟨c0, c3, c4, c5, c6, hL, hleft, hprz, hpmz⟩ := hm.read2; clear hm hk)
      | (go_at_call 41; (with_reducible show Calls Try.prog 41 #[_, Value.int IntKind.i64 1] _ _); refine (R1.out _ _ _ _ _ _ _ _ HM.out (by omega)).mono ?_; clear c0 c3 c4 c5 c6 hL hleft hprz hpmz; rintro e wn ⟨rfl, σn, hr, hm, hk⟩; replace HK := hidIt (HK.out.trans hk); replace HM := hidIt hm; obtain ⟨c0, c3, c4, c5, c6, hL, hleft, hprz, hpmz⟩ := hm.read2; clear hm hk)
      | (go_at_call 41; (with_reducible show Calls Try.prog 41 #[_, Value.int IntKind.i64 2] _ _); refine (R2.out _ _ _ _ _ _ _ _ HM.out (by omega)).mono ?_; clear c0 c3 c4 c5 c6 hL hleft hprz hpmz; rintro e wn ⟨rfl, σn, hr, hm, hk⟩; replace HK := hidIt (HK.out.trans hk); replace HM := hidIt hm; obtain ⟨c0, c3, c4, c5, c6, hL, hleft, hprz, hpmz⟩ := hm.read2; clear hm hk)
      | (go_at_call 29; (with_reducible show Calls Try.prog 29 #[_, Value.int IntKind.i64 1] _ _); refine (S1.out _ _ _ _ _ _ _ HM.out (by omega)).mono ?_; clear c0 c3 c4 c5 c6 hL hleft hprz hpmz; rintro e wn ⟨rfl, σn, hr, hm, hk⟩; replace HK := hidIt (HK.out.trans hk); replace HM := hidIt hm; obtain ⟨c0, c3, c4, c5, c6, hL, hleft, hprz, hpmz⟩ := hm.read2; clear hm hk)
      | (go_at_call 29; (with_reducible show Calls Try.prog 29 #[_, Value.int IntKind.i64 2] _ _); refine (S2.out _ _ _ _ _ _ _ HM.out (by omega)).mono ?_; clear c0 c3 c4 c5 c6 hL hleft hprz hpmz; rintro e wn ⟨rfl, σn, hr, hm, hk⟩; replace HK := hidIt (HK.out.trans hk); replace HM := hidIt hm; obtain ⟨c0, c3, c4, c5, c6, hL, hleft, hprz, hpmz⟩ := hm.read2; clear hm hk))
      go_end0
      refine ⟨rfl, _, ?_, HM.out.mono (by omega), HK.out⟩
      (refine Chs.mk ?_ (by assumption) hr; first | exact Cond.null _ hlm (by assumption) | exact Cond.same _ hlm (by assumption) (by assumption) | exact Cond.one _ (by omega) (by assumption) | exact Cond.two _ (by omega) (by assumption) (by assumption))
end Go.Proofs.Ytlnapfeglbdecaa.M
namespace Go.Proofs.Ytlnapfeglbdecaa.M
open Go.RowKit
set_option maxRecDepth 8000 in
set_option maxHeartbeats 4000000 in
theorem some_any (d c : Nat) (h1 : OneC d c) : SomeC d c := by
  intro B pr pm n pl σ K w h hK1 hK6 hn
  have HO := hidIt h1
  have HM := hidIt h
  have HK := hidIt (Kq.refl B pr w)
  obtain ⟨c0, c3, c4, c5, c6, hL, hleft⟩ := h.read
  have hprz := h.pr_lt
  have hpmz := h.pm_lt
  clear h h1
  go_enter Try.func29, Try.ntmps29
  go_wp2_with (go_at_call 17; refine (take_int B pr pm _ _ _ _ _ _ HM.out (by omega) (by omega)).mono ?_; clear c0 c3 c4 c5 c6 hL hleft hprz hpmz; rintro e wn ⟨⟨x, hx, rfl⟩, hm, hk, -⟩; replace HK := hidIt (HK.out.trans hk); replace HM := hidIt hm; obtain ⟨c0, c3, c4, c5, c6, hL, hleft, hprz, hpmz⟩ := hm.read2; clear hm hk)
  go_loopw [4] (fun k_ wr => ∃ (j N : Nat) (σ' : SG), k_ = .int .i64 (j : Int) ∧ (j : Int) ≤ K ∧ Mk B pr pm N d pl σ' wr ∧ N + j * c ≤ n + K.toNat * c ∧ Kq B pr w wr ∧ Sm d pl σ σ') (fun k_ _ => (intOf k_).toNat)
  case atStart =>
    refine ⟨1 + x, n, σ, by go_num, by omega, HM.out, ?_, HK.out, .nil⟩
    have : (1 + x) * c ≤ K.toNat * c := Nat.mul_le_mul_right c (by omega)
    omega
  case round =>
    clear HM HK c0 c3 c4 c5 c6 hL hleft hprz hpmz
    obtain ⟨j, N, σ', rfl, hjK, hm, hN, hk, hsm⟩ := hrel
    have HM := hidIt hm
    have HK := hidIt hk
    obtain ⟨c0, c3, c4, c5, c6, hL, hleft⟩ := hm.read
    have hprz := hm.pr_lt
    have hpmz := hm.pm_lt
    clear hm hk
    by_cases hj : 0 < j
    · have hj' : (0 : Int) < (j : Int) := by omega
      by_cases hl : 25 < σ'.left
      · have hjc : (j - 1) * c + c = j * c := by rw [← Nat.succ_mul]; congr 1; omega
        have HJC := hidIt hjc
        have hNc : N + c ≤ 700000 := by omega
        have HN2 : Hid (N + c + (j - 1) * c ≤ n + K.toNat * c) := by show _ ≤ _; omega
        clear hjc hN
        go_wp2_with (go_at_call 39; refine (HO.out _ _ _ _ _ _ _ HM.out hNc).mono ?_; rintro e wn ⟨rfl, σ2, hone, hm, hk⟩; have HM2 := hidIt hm; have HK2 := hidIt (HK.out.trans hk); clear hm hk)
        exact ⟨⟨j - 1, N + c, σ2, by go_num, by omega, HM2.out, HN2.out, HK2.out, hsm.snoc hl hone⟩, by simp [intOf]; omega⟩
      · go_wp2
        go_end0
        exact ⟨rfl, σ', hsm, HM.out.mono (by have : 0 ≤ j * c := Nat.zero_le _; omega), HK.out⟩
    · have hj' : ¬ (0 : Int) < (j : Int) := by omega
      go_wp2
      go_end0
      exact ⟨rfl, σ', hsm, HM.out.mono (by have : 0 ≤ j * c := Nat.zero_le _; omega), HK.out⟩
end Go.Proofs.Ytlnapfeglbdecaa.M
namespace Go.Proofs.Ytlnapfeglbdecaa.M
open Go.RowKit
set_option maxRecDepth 8000 in
set_option maxHeartbeats 40000000 in
theorem numS (k : Nat) (hk : k ≤ 10) (hcs : cst k ≤ 20000) (hN : NumC k) (hR : RefC k) : NumC (k + 1) := by
  intro B pr pm n d pl σ w h hn
  have HM := hidIt h
  have HK := hidIt (Kq.refl B pr w)
  obtain ⟨c0, c3, c4, c5, c6, hL, hleft⟩ := h.read
  have hprz := h.pr_lt
  have hpmz := h.pm_lt
  clear h
  have HN := hidIt hN
  have HR := hidIt hR
  have hk1 : ((k + 1 : Nat) : Int) = (k : Int) + 1 := by omega
  rw [hk1]
  have HC : Hid (cst (k + 1) = 2 * cst k + 4) := rfl
  have hn1 : n + 2 * cst k + 4 ≤ 800000 := by have := HC.out; omega
  clear hn
  clear hN hR hk1
  generalize cst (k + 1) = C1 at *
  unfold NumC at HN
  unfold RefC at HR
  generalize cst k = C0 at *
  have hk0 : ¬ (k : Int) + 1 ≤ 0 := by omega
  go_enter Try.func30, Try.ntmps30
  go_upto_region 1 with (go_at_call 17; refine (take_int B pr pm _ _ _ _ _ _ HM.out (by omega) (by omega)).mono ?_; clear c0 c3 c4 c5 c6 hL hleft hprz hpmz; rintro e wn ⟨⟨x, hx, rfl⟩, hm, hk, -⟩; replace HK := hidIt (HK.out.trans hk); replace HM := hidIt hm; obtain ⟨c0, c3, c4, c5, c6, hL, hleft, hprz, hpmz⟩ := hm.read2; clear hm hk)
  have hx12 : (x = 0 ∨ x = 1 ∨ x = 2 ∨ x = 3 ∨ x = 4 ∨ x = 5 ∨ x = 6 ∨ x = 7 ∨ x = 8 ∨ x = 9 ∨ x = 10 ∨ x = 11) := by omega
  rcases hx12 with rfl | rfl | rfl | rfl | rfl | rfl | rfl | rfl | rfl | rfl | rfl | rfl
  all_goals
    cases pl
    all_goals
      by_cases hl20 : σ.left < 20
      all_goals
        go_wp2_with (first
      | (go_at_call 17; (with_reducible show Calls Try.prog 17 _ (World.alloc _ _) _); refine (take_int B pr pm _ _ _ _ _ _ (HM.out.below (below_alloc _ _)) (by omega) (by omega)).mono ?_; have hlp := hprz; clear c0 c3 c4 c5 c6 hL hleft hprz hpmz; rintro e wn ⟨⟨x, hx, rfl⟩, hm, hk0, hon⟩; have hk := (HM.out.kq (below_alloc _ _)).trans hk0; clear hk0; have hlit := lit_after hon hlp; clear hon hlp; (first | (obtain ⟨lv, hlv, hlm⟩ := lit_int (k := .i64) (l := binOps) (x := x) hlit (by show _ < 11; omega)) | (obtain ⟨lv, hlv, hlm⟩ := lit_int (k := .i32) (l := bigInts) (x := x) hlit (by show _ < 4; omega)) | (obtain ⟨lv, hlv, hlm⟩ := lit_str (l := [sA, sB, sObj]) (x := x) hlit (by show _ < 3; omega); have hlz : lv.size ≤ 1000000 := strs_small hlm (by decide))); clear hlit; replace HK := hidIt (HK.out.trans hk); replace HM := hidIt hm; obtain ⟨c0, c3, c4, c5, c6, hL, hleft, hprz, hpmz⟩ := hm.read2; clear hm hk)
      | (go_at_call 17; refine (take_int B pr pm _ _ _ _ _ _ HM.out (by omega) (by omega)).mono ?_; clear c0 c3 c4 c5 c6 hL hleft hprz hpmz; rintro e wn ⟨⟨x, hx, rfl⟩, hm, hk, -⟩; replace HK := hidIt (HK.out.trans hk); replace HM := hidIt hm; obtain ⟨c0, c3, c4, c5, c6, hL, hleft, hprz, hpmz⟩ := hm.read2; clear hm hk)
      | (go_at_call 27; refine (put_any B pr pm _ _ _ _ _ _ _ _ HM.out (by omega)).mono ?_; clear c0 c3 c4 c5 c6 hL hleft hprz hpmz; rintro e wn ⟨rfl, hm, hk⟩; replace HK := hidIt (HK.out.trans hk); replace HM := hidIt hm; obtain ⟨c0, c3, c4, c5, c6, hL, hleft, hprz, hpmz⟩ := hm.read2; clear hm hk)
      | (go_at_call 42; refine (field_any B pr pm _ _ _ _ _ _ _ _ HM.out (by omega) (by first | assumption | exact Nat.le_of_ble_eq_true rfl | simp [ByteArray.size]) (by first | assumption | exact Nat.le_of_ble_eq_true rfl | simp [ByteArray.size]) (by first | assumption | exact Nat.le_of_ble_eq_true rfl | simp [ByteArray.size])).mono ?_; clear c0 c3 c4 c5 c6 hL hleft hprz hpmz; rintro e wn ⟨rfl, hm, hk⟩; replace HK := hidIt (HK.out.trans hk); replace HM := hidIt hm; obtain ⟨c0, c3, c4, c5, c6, hL, hleft, hprz, hpmz⟩ := hm.read2; clear hm hk)
      | (go_at_call 43; refine (method_any B pr pm _ _ _ _ _ _ _ _ HM.out (by omega) (by first | assumption | exact Nat.le_of_ble_eq_true rfl | simp [ByteArray.size]) (by first | assumption | exact Nat.le_of_ble_eq_true rfl | simp [ByteArray.size]) (by first | assumption | exact Nat.le_of_ble_eq_true rfl | simp [ByteArray.size])).mono ?_; clear c0 c3 c4 c5 c6 hL hleft hprz hpmz; rintro e wn ⟨rfl, hm, hk⟩; replace HK := hidIt (HK.out.trans hk); replace HM := hidIt hm; obtain ⟨c0, c3, c4, c5, c6, hL, hleft, hprz, hpmz⟩ := hm.read2; clear hm hk)
      | (go_at_call 44; refine (class_any B pr pm _ _ _ _ _ _ HM.out (by omega) (by first | assumption | exact Nat.le_of_ble_eq_true rfl | simp [ByteArray.size])).mono ?_; clear c0 c3 c4 c5 c6 hL hleft hprz hpmz; rintro e wn ⟨rfl, hm, hk⟩; replace HK := hidIt (HK.out.trans hk); replace HM := hidIt hm; obtain ⟨c0, c3, c4, c5, c6, hL, hleft, hprz, hpmz⟩ := hm.read2; clear hm hk)
      | (go_at_call 30; refine (HN.out _ _ _ _ _ _ _ _ HM.out (by omega)).mono ?_; clear c0 c3 c4 c5 c6 hL hleft hprz hpmz; rintro e wn ⟨rfl, σn, hr, hm, hk⟩; replace HK := hidIt (HK.out.trans hk); replace HM := hidIt hm; obtain ⟨c0, c3, c4, c5, c6, hL, hleft, hprz, hpmz⟩ := hm.read2; clear hm hk)
      | (go_at_call 41; refine (HR.out _ _ _ _ _ _ _ _ HM.out (by omega)).mono ?_; clear c0 c3 c4 c5 c6 hL hleft hprz hpmz; rintro e wn ⟨rfl, σn, hr, hm, hk⟩; replace HK := hidIt (HK.out.trans hk); replace HM := hidIt hm; obtain ⟨c0, c3, c4, c5, c6, hL, hleft, hprz, hpmz⟩ := hm.read2; clear hm hk)
      | (go_at_call 40; refine (constI_any B pr pm _ _ _ _ _ _ HM.out (by omega) (by simp [bigInts] at hlm; omega) (by simp [bigInts] at hlm; omega)).mono ?_; clear c0 c3 c4 c5 c6 hL hleft hprz hpmz; rintro e wn ⟨rfl, hm, hk⟩; replace HK := hidIt (HK.out.trans hk); replace HM := hidIt hm; obtain ⟨c0, c3, c4, c5, c6, hL, hleft, hprz, hpmz⟩ := hm.read2; clear hm hk))
        go_end0
        refine ⟨rfl, _, ?_, HM.out.mono (by have := HC.out; omega), HK.out⟩
        first | exact Num.c0 _ (by omega) | exact Num.c1 _ (by omega) | exact Num.c2 _ (by omega) | exact Num.bin _ (by omega) hlm (by assumption) (by assumption) | exact Num.neg (by omega) (by assumption) | exact Num.ldc _ (by omega) hlm | exact Num.getx (by omega) (by assumption) | exact Num.iaload (by omega) (by assumption) | exact Num.calc_ (by omega) (by assumption) (by assumption) | exact Num.virt (by omega) (by assumption) (by assumption) | exact Num.isa _ (by omega) hlm (by assumption)
end Go.Proofs.Ytlnapfeglbdecaa.M
namespace Go.Proofs.Ytlnapfeglbdecaa.M
open Go.RowKit
set_option maxRecDepth 8000 in
set_option maxHeartbeats 40000000 in
theorem refS (k : Nat) (hk : k ≤ 10) (hcs : cst k ≤ 20000) (hN : NumC k) (hR : RefC k) : RefC (k + 1) := by
  intro B pr pm n d pl σ w h hn
  have HM := hidIt h
  have HK := hidIt (Kq.refl B pr w)
  obtain ⟨c0, c3, c4, c5, c6, hL, hleft⟩ := h.read
  have hprz := h.pr_lt
  have hpmz := h.pm_lt
  clear h
  have HN := hidIt hN
  have HR := hidIt hR
  have hk1 : ((k + 1 : Nat) : Int) = (k : Int) + 1 := by omega
  rw [hk1]
  have HC : Hid (cst (k + 1) = 2 * cst k + 4) := rfl
  have hn1 : n + 2 * cst k + 4 ≤ 800000 := by have := HC.out; omega
  clear hn
  clear hN hR hk1
  generalize cst (k + 1) = C1 at *
  unfold NumC at HN
  unfold RefC at HR
  generalize cst k = C0 at *
  have hk0 : ¬ (k : Int) + 1 ≤ 0 := by omega
  go_enter Try.func41, Try.ntmps41
  go_upto_region 1 with (go_at_call 17; refine (take_int B pr pm _ _ _ _ _ _ HM.out (by omega) (by omega)).mono ?_; clear c0 c3 c4 c5 c6 hL hleft hprz hpmz; rintro e wn ⟨⟨x, hx, rfl⟩, hm, hk, -⟩; replace HK := hidIt (HK.out.trans hk); replace HM := hidIt hm; obtain ⟨c0, c3, c4, c5, c6, hL, hleft, hprz, hpmz⟩ := hm.read2; clear hm hk)
  have hx12 : (x = 0 ∨ x = 1 ∨ x = 2 ∨ x = 3 ∨ x = 4 ∨ x = 5 ∨ x = 6 ∨ x = 7) := by omega
  rcases hx12 with rfl | rfl | rfl | rfl | rfl | rfl | rfl | rfl
  all_goals
    cases pl
    all_goals
      by_cases hl20 : σ.left < 20
      all_goals
        go_wp2_with (first
      | (go_at_call 17; (with_reducible show Calls Try.prog 17 _ (World.alloc _ _) _); refine (take_int B pr pm _ _ _ _ _ _ (HM.out.below (below_alloc _ _)) (by omega) (by omega)).mono ?_; have hlp := hprz; clear c0 c3 c4 c5 c6 hL hleft hprz hpmz; rintro e wn ⟨⟨x, hx, rfl⟩, hm, hk0, hon⟩; have hk := (HM.out.kq (below_alloc _ _)).trans hk0; clear hk0; have hlit := lit_after hon hlp; clear hon hlp; (obtain ⟨lv, hlv, hlm⟩ := lit_str (l := [sA, sB]) (x := x) hlit (by show _ < 2; omega); have hlz : lv.size ≤ 1000000 := strs_small hlm (by decide)); clear hlit; replace HK := hidIt (HK.out.trans hk); replace HM := hidIt hm; obtain ⟨c0, c3, c4, c5, c6, hL, hleft, hprz, hpmz⟩ := hm.read2; clear hm hk)
      | (go_at_call 17; refine (take_int B pr pm _ _ _ _ _ _ HM.out (by omega) (by omega)).mono ?_; clear c0 c3 c4 c5 c6 hL hleft hprz hpmz; rintro e wn ⟨⟨x, hx, rfl⟩, hm, hk, -⟩; replace HK := hidIt (HK.out.trans hk); replace HM := hidIt hm; obtain ⟨c0, c3, c4, c5, c6, hL, hleft, hprz, hpmz⟩ := hm.read2; clear hm hk)
      | (go_at_call 27; refine (put_any B pr pm _ _ _ _ _ _ _ _ HM.out (by omega)).mono ?_; clear c0 c3 c4 c5 c6 hL hleft hprz hpmz; rintro e wn ⟨rfl, hm, hk⟩; replace HK := hidIt (HK.out.trans hk); replace HM := hidIt hm; obtain ⟨c0, c3, c4, c5, c6, hL, hleft, hprz, hpmz⟩ := hm.read2; clear hm hk)
      | (go_at_call 42; refine (field_any B pr pm _ _ _ _ _ _ _ _ HM.out (by omega) (by first | assumption | exact Nat.le_of_ble_eq_true rfl | simp [ByteArray.size]) (by first | assumption | exact Nat.le_of_ble_eq_true rfl | simp [ByteArray.size]) (by first | assumption | exact Nat.le_of_ble_eq_true rfl | simp [ByteArray.size])).mono ?_; clear c0 c3 c4 c5 c6 hL hleft hprz hpmz; rintro e wn ⟨rfl, hm, hk⟩; replace HK := hidIt (HK.out.trans hk); replace HM := hidIt hm; obtain ⟨c0, c3, c4, c5, c6, hL, hleft, hprz, hpmz⟩ := hm.read2; clear hm hk)
      | (go_at_call 43; refine (method_any B pr pm _ _ _ _ _ _ _ _ HM.out (by omega) (by first | assumption | exact Nat.le_of_ble_eq_true rfl | simp [ByteArray.size]) (by first | assumption | exact Nat.le_of_ble_eq_true rfl | simp [ByteArray.size]) (by first | assumption | exact Nat.le_of_ble_eq_true rfl | simp [ByteArray.size])).mono ?_; clear c0 c3 c4 c5 c6 hL hleft hprz hpmz; rintro e wn ⟨rfl, hm, hk⟩; replace HK := hidIt (HK.out.trans hk); replace HM := hidIt hm; obtain ⟨c0, c3, c4, c5, c6, hL, hleft, hprz, hpmz⟩ := hm.read2; clear hm hk)
      | (go_at_call 44; refine (class_any B pr pm _ _ _ _ _ _ HM.out (by omega) (by first | assumption | exact Nat.le_of_ble_eq_true rfl | simp [ByteArray.size])).mono ?_; clear c0 c3 c4 c5 c6 hL hleft hprz hpmz; rintro e wn ⟨rfl, hm, hk⟩; replace HK := hidIt (HK.out.trans hk); replace HM := hidIt hm; obtain ⟨c0, c3, c4, c5, c6, hL, hleft, hprz, hpmz⟩ := hm.read2; clear hm hk)
      | (go_at_call 30; refine (HN.out _ _ _ _ _ _ _ _ HM.out (by omega)).mono ?_; clear c0 c3 c4 c5 c6 hL hleft hprz hpmz; rintro e wn ⟨rfl, σn, hr, hm, hk⟩; replace HK := hidIt (HK.out.trans hk); replace HM := hidIt hm; obtain ⟨c0, c3, c4, c5, c6, hL, hleft, hprz, hpmz⟩ := hm.read2; clear hm hk)
      | (go_at_call 41; refine (HR.out _ _ _ _ _ _ _ _ HM.out (by omega)).mono ?_; clear c0 c3 c4 c5 c6 hL hleft hprz hpmz; rintro e wn ⟨rfl, σn, hr, hm, hk⟩; replace HK := hidIt (HK.out.trans hk); replace HM := hidIt hm; obtain ⟨c0, c3, c4, c5, c6, hL, hleft, hprz, hpmz⟩ := hm.read2; clear hm hk)
      | (go_at_call 40; refine (constI_any B pr pm _ _ _ _ _ _ HM.out (by omega) (by simp [bigInts] at hlm; omega) (by simp [bigInts] at hlm; omega)).mono ?_; clear c0 c3 c4 c5 c6 hL hleft hprz hpmz; rintro e wn ⟨rfl, hm, hk⟩; replace HK := hidIt (HK.out.trans hk); replace HM := hidIt hm; obtain ⟨c0, c3, c4, c5, c6, hL, hleft, hprz, hpmz⟩ := hm.read2; clear hm hk))
        go_end0
        refine ⟨rfl, _, ?_, HM.out.mono (by have := HC.out; omega), HK.out⟩
        first | exact Ref.r0 _ (by omega) | exact Ref.newA | exact Ref.newB | exact Ref.next (by omega) (by assumption) | exact Ref.stat (by omega) | exact Ref.aaload (by omega) (by assumption) | exact Ref.cast _ (by omega) hlm (by assumption)
end Go.Proofs.Ytlnapfeglbdecaa.M
namespace Go.Proofs.Ytlnapfeglbdecaa.M
open Go.RowKit
theorem nr_all : ∀ k, k ≤ 4 → NumC k ∧ RefC k
  | 0, _ => ⟨num0, ref0⟩
  | k + 1, h => by
    obtain ⟨h1, h2⟩ := nr_all k (by omega)
    have hc : cst k ≤ 20000 := by
      match k, h with
      | 0, _ => decide
      | 1, _ => decide
      | 2, _ => decide
      | 3, _ => decide
    exact ⟨numS k (by omega) hc h1 h2, refS k (by omega) hc h1 h2⟩
end Go.Proofs.Ytlnapfeglbdecaa.M
