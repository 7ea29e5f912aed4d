import Derived.Test.YtpehimfnkmepnaaGreatBx30
set_option maxRecDepth 8000
set_option maxHeartbeats 40000000
namespace Go.Proofs.YtpehimfnkmepnaaGreat.M
open Go.RowKit
theorem zPu (hs : Nums) (d : Nat) (B pr pm n : Nat) (pl : Bool) (σ : SG) (w : World) (h : Mk B pr pm n d pl σ w) (hn : n + 60 ≤ 700000) :
 Calls Tryz.prog 161 #[.pointer (some ⟨pm, 0, none⟩)] w fun e w' => e = .returned (.tuple #[]) ∧ ∃ σ', Arr pl σ σ' ∧ Mk B pr pm (n + 60) d pl σ' w' ∧ Kq B pr w w' := by
 have N1 := zA0 hs.n1
 have N2 := zA0 hs.n2
 have R1 := zA0 hs.r1
 have R2 := zA0 hs.r2
 have HM := zA0 h
 have HK := zA0 (Kq.refl B pr w)
 obtain ⟨c0, c3, c4, c5, c6, hL, hleft⟩ := h.read
 have hprz := h.pr_lt
 have hpmz := h.pm_lt
 clear h hs
 go_enter Tryz.func161, Tryz.ntmps161
 go_upto_region 1 with (first
  | (go_at_call 55; refine (zA8 B pr pm _ _ _ _ _ _ HM.out (by omega) (by omega)).mono ?_; clear c0 c3 c4 c5 c6 hL hleft hprz hpmz; rintro e wn ⟨⟨x, hx, rfl⟩, hm, hk, -⟩; replace HK := zA0 (HK.out.trans hk); replace HM := zA0 hm; obtain ⟨c0, c3, c4, c5, c6, hL, hleft, hprz, hpmz⟩ := hm.read2; clear hm hk))
 have hx4 : (x = 0 ∨ x = 1 ∨ x = 2 ∨ x = 3) := by omega
 rcases hx4 with rfl | rfl | rfl | rfl
 all_goals
  go_wp2_with (first
   | (go_at_call 55; (with_reducible show Calls Tryz.prog 55 _ (World.alloc _ _) _); refine (zA8 B pr pm _ _ _ _ _ _ (HM.out.below (zA2 _ _)) (by omega) (by omega)).mono ?_; have hlp := hprz; clear c0 c3 c4 c5 c6 hL hleft hprz hpmz; rintro e wn ⟨⟨x, hx, rfl⟩, hm, hk0, hon⟩; have hk := (HM.out.kq (zA2 _ _)).trans hk0; clear hk0; have hlit := zEw hon hlp; clear hon hlp; (obtain ⟨lv, hlv, hlm⟩ := zJ1 (l := [sA, sB]) (x := x) hlit (by show _ < 2; omega); have hlz : lv.size ≤ 1000000 := zEy hlm (by decide)); clear hlit; replace HK := zA0 (HK.out.trans hk); replace HM := zA0 hm; obtain ⟨c0, c3, c4, c5, c6, hL, hleft, hprz, hpmz⟩ := hm.read2; clear hm hk)
   | (go_at_call 55; refine (zA8 B pr pm _ _ _ _ _ _ HM.out (by omega) (by omega)).mono ?_; clear c0 c3 c4 c5 c6 hL hleft hprz hpmz; rintro e wn ⟨⟨x, hx, rfl⟩, hm, hk, -⟩; replace HK := zA0 (HK.out.trans hk); replace HM := zA0 hm; obtain ⟨c0, c3, c4, c5, c6, hL, hleft, hprz, hpmz⟩ := hm.read2; clear hm hk)
   | (go_at_call 98; refine (zAj B pr pm _ _ _ _ _ _ _ _ HM.out (by omega)).mono ?_; clear c0 c3 c4 c5 c6 hL hleft hprz hpmz; rintro e wn ⟨rfl, hm, hk⟩; replace HK := zA0 (HK.out.trans hk); replace HM := zA0 hm; obtain ⟨c0, c3, c4, c5, c6, hL, hleft, hprz, hpmz⟩ := hm.read2; clear hm hk)
   | (go_at_call 140; refine (zB3 B pr pm _ _ _ _ _ _ _ _ HM.out (by omega) (by first | assumption | exact Nat.le_of_ble_eq_true rfl | simp [ByteArray.size]) (by first | assumption | exact Nat.le_of_ble_eq_true rfl | simp [ByteArray.size]) (by first | assumption | exact Nat.le_of_ble_eq_true rfl | simp [ByteArray.size])).mono ?_; clear c0 c3 c4 c5 c6 hL hleft hprz hpmz; rintro e wn ⟨rfl, hm, hk⟩; replace HK := zA0 (HK.out.trans hk); replace HM := zA0 hm; obtain ⟨c0, c3, c4, c5, c6, hL, hleft, hprz, hpmz⟩ := hm.read2; clear hm hk)
   | (go_at_call 141; (with_reducible show Calls Tryz.prog 141 _ (World.alloc _ _) _); refine (zAk B pr pm _ _ _ _ _ _ _ _ (HM.out.below (zA2 _ _)) (by omega) (by first | assumption | exact Nat.le_of_ble_eq_true rfl | simp [ByteArray.size]) (by first | assumption | exact Nat.le_of_ble_eq_true rfl | simp [ByteArray.size]) (by first | assumption | exact Nat.le_of_ble_eq_true rfl | simp [ByteArray.size])).mono ?_; clear c0 c3 c4 c5 c6 hL hleft hprz hpmz; rintro e wn ⟨rfl, hm, hk0⟩; have hk := (HM.out.kq (zA2 _ _)).trans hk0; clear hk0; replace HK := zA0 (HK.out.trans hk); replace HM := zA0 hm; obtain ⟨c0, c3, c4, c5, c6, hL, hleft, hprz, hpmz⟩ := hm.read2; clear hm hk)
   | (go_at_call 141; refine (zAk B pr pm _ _ _ _ _ _ _ _ HM.out (by omega) (by first | assumption | exact Nat.le_of_ble_eq_true rfl | simp [ByteArray.size]) (by first | assumption | exact Nat.le_of_ble_eq_true rfl | simp [ByteArray.size]) (by first | assumption | exact Nat.le_of_ble_eq_true rfl | simp [ByteArray.size])).mono ?_; clear c0 c3 c4 c5 c6 hL hleft hprz hpmz; rintro e wn ⟨rfl, hm, hk⟩; replace HK := zA0 (HK.out.trans hk); replace HM := zA0 hm; obtain ⟨c0, c3, c4, c5, c6, hL, hleft, hprz, hpmz⟩ := hm.read2; clear hm hk)
   | (go_at_call 142; refine (zBf B pr pm _ _ _ _ _ _ HM.out (by omega) (by first | assumption | exact Nat.le_of_ble_eq_true rfl | simp [ByteArray.size])).mono ?_; clear c0 c3 c4 c5 c6 hL hleft hprz hpmz; rintro e wn ⟨rfl, hm, hk⟩; replace HK := zA0 (HK.out.trans hk); replace HM := zA0 hm; obtain ⟨c0, c3, c4, c5, c6, hL, hleft, hprz, hpmz⟩ := hm.read2; clear hm hk)
   | (go_at_call 195; refine (zDi B pr pm _ _ _ _ _ _ _ HM.out (by omega)).mono ?_; clear c0 c3 c4 c5 c6 hL hleft hprz hpmz; rintro e wn ⟨rfl, hm, hk⟩; replace HK := zA0 (HK.out.trans hk); replace HM := zA0 hm; obtain ⟨c0, c3, c4, c5, c6, hL, hleft, hprz, hpmz⟩ := hm.read2; clear hm hk)
   | (go_at_call 196; refine (zDp B pr pm _ _ _ _ _ _ HM.out (by omega)).mono ?_; clear c0 c3 c4 c5 c6 hL hleft hprz hpmz; rintro e wn ⟨rfl, hm, hk⟩; replace HK := zA0 (HK.out.trans hk); replace HM := zA0 hm; obtain ⟨c0, c3, c4, c5, c6, hL, hleft, hprz, hpmz⟩ := hm.read2; clear hm hk)
   | (go_at_call 194; refine (zC4 B pr pm _ _ _ _ _ HM.out (by omega)).mono ?_; clear c0 c3 c4 c5 c6 hL hleft hprz hpmz; rintro e wn ⟨rfl, hm, hk⟩; replace HK := zA0 (HK.out.trans hk); replace HM := zA0 hm; obtain ⟨c0, c3, c4, c5, c6, hL, hleft, hprz, hpmz⟩ := hm.read2; clear hm hk)
   | (go_at_call 101; (with_reducible show Calls Tryz.prog 101 #[_, Value.int IntKind.i64 1] _ _); refine (N1.out _ _ _ _ _ _ _ _ HM.out (by omega)).mono ?_; clear c0 c3 c4 c5 c6 hL hleft hprz hpmz; rintro e wn ⟨rfl, σn, hr, hm, hk⟩; replace HK := zA0 (HK.out.trans hk); replace HM := zA0 hm; obtain ⟨c0, c3, c4, c5, c6, hL, hleft, hprz, hpmz⟩ := hm.read2; clear hm hk)
   | (go_at_call 101; (with_reducible show Calls Tryz.prog 101 #[_, Value.int IntKind.i64 2] _ _); refine (N2.out _ _ _ _ _ _ _ _ HM.out (by omega)).mono ?_; clear c0 c3 c4 c5 c6 hL hleft hprz hpmz; rintro e wn ⟨rfl, σn, hr, hm, hk⟩; replace HK := zA0 (HK.out.trans hk); replace HM := zA0 hm; obtain ⟨c0, c3, c4, c5, c6, hL, hleft, hprz, hpmz⟩ := hm.read2; clear hm hk)
   | (go_at_call 139; (with_reducible show Calls Tryz.prog 139 #[_, Value.int IntKind.i64 1] _ _); refine (R1.out _ _ _ _ _ _ _ _ HM.out (by omega)).mono ?_; clear c0 c3 c4 c5 c6 hL hleft hprz hpmz; rintro e wn ⟨rfl, σn, hr, hm, hk⟩; replace HK := zA0 (HK.out.trans hk); replace HM := zA0 hm; obtain ⟨c0, c3, c4, c5, c6, hL, hleft, hprz, hpmz⟩ := hm.read2; clear hm hk)
   | (go_at_call 139; (with_reducible show Calls Tryz.prog 139 #[_, Value.int IntKind.i64 2] _ _); refine (R2.out _ _ _ _ _ _ _ _ HM.out (by omega)).mono ?_; clear c0 c3 c4 c5 c6 hL hleft hprz hpmz; rintro e wn ⟨rfl, σn, hr, hm, hk⟩; replace HK := zA0 (HK.out.trans hk); replace HM := zA0 hm; obtain ⟨c0, c3, c4, c5, c6, hL, hleft, hprz, hpmz⟩ := hm.read2; clear hm hk))
  go_end0
  refine ⟨rfl, _, ?_, HM.out.mono (by omega), HK.out⟩
  first | exact Arr.a0 (by assumption) | exact Arr.a1 _ _ (by omega) hlm | exact Arr.a2 (by assumption) (by assumption) | exact Arr.a3 _ (by omega) hr
theorem zNq (hs : Nums) (d : Nat) (B pr pm n : Nat) (pl : Bool) (σ : SG) (w : World) (h : Mk B pr pm n d pl σ w) (hn : n + 20 ≤ 700000) :
 Calls Tryz.prog 164 #[.pointer (some ⟨pm, 0, none⟩)] w fun e w' => e = .returned (.tuple #[]) ∧ ∃ σ', Thr σ σ' ∧ Mk B pr pm (n + 20) d pl σ' w' ∧ Kq B pr w w' := by
 have N1 := zA0 hs.n1
 have N2 := zA0 hs.n2
 have R1 := zA0 hs.r1
 have R2 := zA0 hs.r2
 have HM := zA0 h
 have HK := zA0 (Kq.refl B pr w)
 obtain ⟨c0, c3, c4, c5, c6, hL, hleft⟩ := h.read
 have hprz := h.pr_lt
 have hpmz := h.pm_lt
 clear h hs
 go_enter Tryz.func164, Tryz.ntmps164
 go_upto_region 1 with (first
  | (go_at_call 55; refine (zA8 B pr pm _ _ _ _ _ _ HM.out (by omega) (by omega)).mono ?_; clear c0 c3 c4 c5 c6 hL hleft hprz hpmz; rintro e wn ⟨⟨x, hx, rfl⟩, hm, hk, -⟩; replace HK := zA0 (HK.out.trans hk); replace HM := zA0 hm; obtain ⟨c0, c3, c4, c5, c6, hL, hleft, hprz, hpmz⟩ := hm.read2; clear hm hk))
 have hx4 : (x = 0 ∨ x = 1 ∨ x = 2 ∨ x = 3) := by omega
 rcases hx4 with rfl | rfl | rfl | rfl
 all_goals
  go_wp2_with (first
   | (go_at_call 55; refine (zA8 B pr pm _ _ _ _ _ _ HM.out (by omega) (by omega)).mono ?_; clear c0 c3 c4 c5 c6 hL hleft hprz hpmz; rintro e wn ⟨⟨x, hx, rfl⟩, hm, hk, -⟩; replace HK := zA0 (HK.out.trans hk); replace HM := zA0 hm; obtain ⟨c0, c3, c4, c5, c6, hL, hleft, hprz, hpmz⟩ := hm.read2; clear hm hk)
   | (go_at_call 98; refine (zAj B pr pm _ _ _ _ _ _ _ _ HM.out (by omega)).mono ?_; clear c0 c3 c4 c5 c6 hL hleft hprz hpmz; rintro e wn ⟨rfl, hm, hk⟩; replace HK := zA0 (HK.out.trans hk); replace HM := zA0 hm; obtain ⟨c0, c3, c4, c5, c6, hL, hleft, hprz, hpmz⟩ := hm.read2; clear hm hk)
   | (go_at_call 140; refine (zB3 B pr pm _ _ _ _ _ _ _ _ HM.out (by omega) (by first | assumption | exact Nat.le_of_ble_eq_true rfl | simp [ByteArray.size]) (by first | assumption | exact Nat.le_of_ble_eq_true rfl | simp [ByteArray.size]) (by first | assumption | exact Nat.le_of_ble_eq_true rfl | simp [ByteArray.size])).mono ?_; clear c0 c3 c4 c5 c6 hL hleft hprz hpmz; rintro e wn ⟨rfl, hm, hk⟩; replace HK := zA0 (HK.out.trans hk); replace HM := zA0 hm; obtain ⟨c0, c3, c4, c5, c6, hL, hleft, hprz, hpmz⟩ := hm.read2; clear hm hk)
   | (go_at_call 141; (with_reducible show Calls Tryz.prog 141 _ (World.alloc _ _) _); refine (zAk B pr pm _ _ _ _ _ _ _ _ (HM.out.below (zA2 _ _)) (by omega) (by first | assumption | exact Nat.le_of_ble_eq_true rfl | simp [ByteArray.size]) (by first | assumption | exact Nat.le_of_ble_eq_true rfl | simp [ByteArray.size]) (by first | assumption | exact Nat.le_of_ble_eq_true rfl | simp [ByteArray.size])).mono ?_; clear c0 c3 c4 c5 c6 hL hleft hprz hpmz; rintro e wn ⟨rfl, hm, hk0⟩; have hk := (HM.out.kq (zA2 _ _)).trans hk0; clear hk0; replace HK := zA0 (HK.out.trans hk); replace HM := zA0 hm; obtain ⟨c0, c3, c4, c5, c6, hL, hleft, hprz, hpmz⟩ := hm.read2; clear hm hk)
   | (go_at_call 141; refine (zAk B pr pm _ _ _ _ _ _ _ _ HM.out (by omega) (by first | assumption | exact Nat.le_of_ble_eq_true rfl | simp [ByteArray.size]) (by first | assumption | exact Nat.le_of_ble_eq_true rfl | simp [ByteArray.size]) (by first | assumption | exact Nat.le_of_ble_eq_true rfl | simp [ByteArray.size])).mono ?_; clear c0 c3 c4 c5 c6 hL hleft hprz hpmz; rintro e wn ⟨rfl, hm, hk⟩; replace HK := zA0 (HK.out.trans hk); replace HM := zA0 hm; obtain ⟨c0, c3, c4, c5, c6, hL, hleft, hprz, hpmz⟩ := hm.read2; clear hm hk)
   | (go_at_call 142; refine (zBf B pr pm _ _ _ _ _ _ HM.out (by omega) (by first | assumption | exact Nat.le_of_ble_eq_true rfl | simp [ByteArray.size])).mono ?_; clear c0 c3 c4 c5 c6 hL hleft hprz hpmz; rintro e wn ⟨rfl, hm, hk⟩; replace HK := zA0 (HK.out.trans hk); replace HM := zA0 hm; obtain ⟨c0, c3, c4, c5, c6, hL, hleft, hprz, hpmz⟩ := hm.read2; clear hm hk)
   | (go_at_call 195; refine (zDi B pr pm _ _ _ _ _ _ _ HM.out (by omega)).mono ?_; clear c0 c3 c4 c5 c6 hL hleft hprz hpmz; rintro e wn ⟨rfl, hm, hk⟩; replace HK := zA0 (HK.out.trans hk); replace HM := zA0 hm; obtain ⟨c0, c3, c4, c5, c6, hL, hleft, hprz, hpmz⟩ := hm.read2; clear hm hk)
   | (go_at_call 196; refine (zDp B pr pm _ _ _ _ _ _ HM.out (by omega)).mono ?_; clear c0 c3 c4 c5 c6 hL hleft hprz hpmz; rintro e wn ⟨rfl, hm, hk⟩; replace HK := zA0 (HK.out.trans hk); replace HM := zA0 hm; obtain ⟨c0, c3, c4, c5, c6, hL, hleft, hprz, hpmz⟩ := hm.read2; clear hm hk)
   | (go_at_call 194; refine (zC4 B pr pm _ _ _ _ _ HM.out (by omega)).mono ?_; clear c0 c3 c4 c5 c6 hL hleft hprz hpmz; rintro e wn ⟨rfl, hm, hk⟩; replace HK := zA0 (HK.out.trans hk); replace HM := zA0 hm; obtain ⟨c0, c3, c4, c5, c6, hL, hleft, hprz, hpmz⟩ := hm.read2; clear hm hk)
   | (go_at_call 101; (with_reducible show Calls Tryz.prog 101 #[_, Value.int IntKind.i64 1] _ _); refine (N1.out _ _ _ _ _ _ _ _ HM.out (by omega)).mono ?_; clear c0 c3 c4 c5 c6 hL hleft hprz hpmz; rintro e wn ⟨rfl, σn, hr, hm, hk⟩; replace HK := zA0 (HK.out.trans hk); replace HM := zA0 hm; obtain ⟨c0, c3, c4, c5, c6, hL, hleft, hprz, hpmz⟩ := hm.read2; clear hm hk)
   | (go_at_call 101; (with_reducible show Calls Tryz.prog 101 #[_, Value.int IntKind.i64 2] _ _); refine (N2.out _ _ _ _ _ _ _ _ HM.out (by omega)).mono ?_; clear c0 c3 c4 c5 c6 hL hleft hprz hpmz; rintro e wn ⟨rfl, σn, hr, hm, hk⟩; replace HK := zA0 (HK.out.trans hk); replace HM := zA0 hm; obtain ⟨c0, c3, c4, c5, c6, hL, hleft, hprz, hpmz⟩ := hm.read2; clear hm hk)
   | (go_at_call 139; (with_reducible show Calls Tryz.prog 139 #[_, Value.int IntKind.i64 1] _ _); refine (R1.out _ _ _ _ _ _ _ _ HM.out (by omega)).mono ?_; clear c0 c3 c4 c5 c6 hL hleft hprz hpmz; rintro e wn ⟨rfl, σn, hr, hm, hk⟩; replace HK := zA0 (HK.out.trans hk); replace HM := zA0 hm; obtain ⟨c0, c3, c4, c5, c6, hL, hleft, hprz, hpmz⟩ := hm.read2; clear hm hk)
   | (go_at_call 139; (with_reducible show Calls Tryz.prog 139 #[_, Value.int IntKind.i64 2] _ _); refine (R2.out _ _ _ _ _ _ _ _ HM.out (by omega)).mono ?_; clear c0 c3 c4 c5 c6 hL hleft hprz hpmz; rintro e wn ⟨rfl, σn, hr, hm, hk⟩; replace HK := zA0 (HK.out.trans hk); replace HM := zA0 hm; obtain ⟨c0, c3, c4, c5, c6, hL, hleft, hprz, hpmz⟩ := hm.read2; clear hm hk))
  go_end0
  refine ⟨rfl, _, ?_, HM.out.mono (by omega), HK.out⟩
  first | exact Thr.t0 | exact Thr.t1 | exact Thr.t2 | exact Thr.t3 _ (by omega)
theorem zPi (hs : Nums) (d c : Nat) (h1 : zHl d 1 c) (h2 : zHl d 2 (2 * c)) (B pr pm n : Nat) (pl : Bool) (σ : SG) (w : World) (h : Mk B pr pm n d pl σ w) (hn : n + c + 40 ≤ 700000) :
 Calls Tryz.prog 163 #[.pointer (some ⟨pm, 0, none⟩)] w fun e w' => e = .returned (.tuple #[]) ∧ ∃ σ', Lk d pl σ σ' ∧ Mk B pr pm (n + c + 40) d pl σ' w' ∧ Kq B pr w w' := by
 have N1 := zA0 hs.n1
 have N2 := zA0 hs.n2
 have R1 := zA0 hs.r1
 have R2 := zA0 hs.r2
 have S1 := zA0 h1
 have S2 := zA0 h2
 clear h1 h2
 have HM := zA0 h
 have HK := zA0 (Kq.refl B pr w)
 obtain ⟨c0, c3, c4, c5, c6, hL, hleft⟩ := h.read
 have hprz := h.pr_lt
 have hpmz := h.pm_lt
 clear h hs
 go_enter Tryz.func163, Tryz.ntmps163
 go_upto_region 5 with (first
  | (go_at_call 55; refine (zA8 B pr pm _ _ _ _ _ _ HM.out (by omega) (by omega)).mono ?_; clear c0 c3 c4 c5 c6 hL hleft hprz hpmz; rintro e wn ⟨⟨x, hx, rfl⟩, hm, hk, -⟩; replace HK := zA0 (HK.out.trans hk); replace HM := zA0 hm; obtain ⟨c0, c3, c4, c5, c6, hL, hleft, hprz, hpmz⟩ := hm.read2; clear hm hk)
  | (go_at_call 98; refine (zAj B pr pm _ _ _ _ _ _ _ _ HM.out (by omega)).mono ?_; clear c0 c3 c4 c5 c6 hL hleft hprz hpmz; rintro e wn ⟨rfl, hm, hk⟩; replace HK := zA0 (HK.out.trans hk); replace HM := zA0 hm; obtain ⟨c0, c3, c4, c5, c6, hL, hleft, hprz, hpmz⟩ := hm.read2; clear hm hk)
  | (go_at_call 100; (with_reducible show Calls Tryz.prog 100 #[_, Value.int IntKind.i64 1] _ _); refine (S1.out _ _ _ _ _ _ _ HM.out (by omega)).mono ?_; clear c0 c3 c4 c5 c6 hL hleft hprz hpmz; rintro e wn ⟨rfl, σn, hr, hm, hk⟩; replace HK := zA0 (HK.out.trans hk); replace HM := zA0 hm; obtain ⟨c0, c3, c4, c5, c6, hL, hleft, hprz, hpmz⟩ := hm.read2; clear hm hk))
 have hx4 : (x = 0 ∨ x = 1 ∨ x = 2 ∨ x = 3) := by omega
 rcases hx4 with rfl | rfl | rfl | rfl
 all_goals
  go_wp2_with (first
   | (go_at_call 55; (with_reducible show Calls Tryz.prog 55 _ (World.alloc _ _) _); refine (zA8 B pr pm _ _ _ _ _ _ (HM.out.below (zA2 _ _)) (by omega) (by omega)).mono ?_; have hlp := hprz; clear c0 c3 c4 c5 c6 hL hleft hprz hpmz; rintro e wn ⟨⟨x, hx, rfl⟩, hm, hk0, hon⟩; have hk := (HM.out.kq (zA2 _ _)).trans hk0; clear hk0; have hlit := zEw hon hlp; clear hon hlp; (obtain ⟨lv, hlv, hlm⟩ := zJ1 (l := [zQo, zK7, sWait]) (x := x) hlit (by show _ < 3; omega); have hlz : lv.size ≤ 1000000 := zEy hlm (by decide)); clear hlit; replace HK := zA0 (HK.out.trans hk); replace HM := zA0 hm; obtain ⟨c0, c3, c4, c5, c6, hL, hleft, hprz, hpmz⟩ := hm.read2; clear hm hk)
   | (go_at_call 55; refine (zA8 B pr pm _ _ _ _ _ _ HM.out (by omega) (by omega)).mono ?_; clear c0 c3 c4 c5 c6 hL hleft hprz hpmz; rintro e wn ⟨⟨x, hx, rfl⟩, hm, hk, -⟩; replace HK := zA0 (HK.out.trans hk); replace HM := zA0 hm; obtain ⟨c0, c3, c4, c5, c6, hL, hleft, hprz, hpmz⟩ := hm.read2; clear hm hk)
   | (go_at_call 98; refine (zAj B pr pm _ _ _ _ _ _ _ _ HM.out (by omega)).mono ?_; clear c0 c3 c4 c5 c6 hL hleft hprz hpmz; rintro e wn ⟨rfl, hm, hk⟩; replace HK := zA0 (HK.out.trans hk); replace HM := zA0 hm; obtain ⟨c0, c3, c4, c5, c6, hL, hleft, hprz, hpmz⟩ := hm.read2; clear hm hk)
   | (go_at_call 140; refine (zB3 B pr pm _ _ _ _ _ _ _ _ HM.out (by omega) (by first | assumption | exact Nat.le_of_ble_eq_true rfl | simp [ByteArray.size]) (by first | assumption | exact Nat.le_of_ble_eq_true rfl | simp [ByteArray.size]) (by first | assumption | exact Nat.le_of_ble_eq_true rfl | simp [ByteArray.size])).mono ?_; clear c0 c3 c4 c5 c6 hL hleft hprz hpmz; rintro e wn ⟨rfl, hm, hk⟩; replace HK := zA0 (HK.out.trans hk); replace HM := zA0 hm; obtain ⟨c0, c3, c4, c5, c6, hL, hleft, hprz, hpmz⟩ := hm.read2; clear hm hk)
   | (go_at_call 141; (with_reducible show Calls Tryz.prog 141 _ (World.alloc _ _) _); refine (zAk B pr pm _ _ _ _ _ _ _ _ (HM.out.below (zA2 _ _)) (by omega) (by first | assumption | exact Nat.le_of_ble_eq_true rfl | simp [ByteArray.size]) (by first | assumption | exact Nat.le_of_ble_eq_true rfl | simp [ByteArray.size]) (by first | assumption | exact Nat.le_of_ble_eq_true rfl | simp [ByteArray.size])).mono ?_; clear c0 c3 c4 c5 c6 hL hleft hprz hpmz; rintro e wn ⟨rfl, hm, hk0⟩; have hk := (HM.out.kq (zA2 _ _)).trans hk0; clear hk0; replace HK := zA0 (HK.out.trans hk); replace HM := zA0 hm; obtain ⟨c0, c3, c4, c5, c6, hL, hleft, hprz, hpmz⟩ := hm.read2; clear hm hk)
   | (go_at_call 141; refine (zAk B pr pm _ _ _ _ _ _ _ _ HM.out (by omega) (by first | assumption | exact Nat.le_of_ble_eq_true rfl | simp [ByteArray.size]) (by first | assumption | exact Nat.le_of_ble_eq_true rfl | simp [ByteArray.size]) (by first | assumption | exact Nat.le_of_ble_eq_true rfl | simp [ByteArray.size])).mono ?_; clear c0 c3 c4 c5 c6 hL hleft hprz hpmz; rintro e wn ⟨rfl, hm, hk⟩; replace HK := zA0 (HK.out.trans hk); replace HM := zA0 hm; obtain ⟨c0, c3, c4, c5, c6, hL, hleft, hprz, hpmz⟩ := hm.read2; clear hm hk)
   | (go_at_call 142; refine (zBf B pr pm _ _ _ _ _ _ HM.out (by omega) (by first | assumption | exact Nat.le_of_ble_eq_true rfl | simp [ByteArray.size])).mono ?_; clear c0 c3 c4 c5 c6 hL hleft hprz hpmz; rintro e wn ⟨rfl, hm, hk⟩; replace HK := zA0 (HK.out.trans hk); replace HM := zA0 hm; obtain ⟨c0, c3, c4, c5, c6, hL, hleft, hprz, hpmz⟩ := hm.read2; clear hm hk)
   | (go_at_call 195; refine (zDi B pr pm _ _ _ _ _ _ _ HM.out (by omega)).mono ?_; clear c0 c3 c4 c5 c6 hL hleft hprz hpmz; rintro e wn ⟨rfl, hm, hk⟩; replace HK := zA0 (HK.out.trans hk); replace HM := zA0 hm; obtain ⟨c0, c3, c4, c5, c6, hL, hleft, hprz, hpmz⟩ := hm.read2; clear hm hk)
   | (go_at_call 196; refine (zDp B pr pm _ _ _ _ _ _ HM.out (by omega)).mono ?_; clear c0 c3 c4 c5 c6 hL hleft hprz hpmz; rintro e wn ⟨rfl, hm, hk⟩; replace HK := zA0 (HK.out.trans hk); replace HM := zA0 hm; obtain ⟨c0, c3, c4, c5, c6, hL, hleft, hprz, hpmz⟩ := hm.read2; clear hm hk)
   | (go_at_call 194; refine (zC4 B pr pm _ _ _ _ _ HM.out (by omega)).mono ?_; clear c0 c3 c4 c5 c6 hL hleft hprz hpmz; rintro e wn ⟨rfl, hm, hk⟩; replace HK := zA0 (HK.out.trans hk); replace HM := zA0 hm; obtain ⟨c0, c3, c4, c5, c6, hL, hleft, hprz, hpmz⟩ := hm.read2; clear hm hk)
   | (go_at_call 101; (with_reducible show Calls Tryz.prog 101 #[_, Value.int IntKind.i64 1] _ _); refine (N1.out _ _ _ _ _ _ _ _ HM.out (by omega)).mono ?_; clear c0 c3 c4 c5 c6 hL hleft hprz hpmz; rintro e wn ⟨rfl, σn, hr, hm, hk⟩; replace HK := zA0 (HK.out.trans hk); replace HM := zA0 hm; obtain ⟨c0, c3, c4, c5, c6, hL, hleft, hprz, hpmz⟩ := hm.read2; clear hm hk)
   | (go_at_call 101; (with_reducible show Calls Tryz.prog 101 #[_, Value.int IntKind.i64 2] _ _); refine (N2.out _ _ _ _ _ _ _ _ HM.out (by omega)).mono ?_; clear c0 c3 c4 c5 c6 hL hleft hprz hpmz; rintro e wn ⟨rfl, σn, hr, hm, hk⟩; replace HK := zA0 (HK.out.trans hk); replace HM := zA0 hm; obtain ⟨c0, c3, c4, c5, c6, hL, hleft, hprz, hpmz⟩ := hm.read2; clear hm hk)
   | (go_at_call 139; (with_reducible show Calls Tryz.prog 139 #[_, Value.int IntKind.i64 1] _ _); refine (R1.out _ _ _ _ _ _ _ _ HM.out (by omega)).mono ?_; clear c0 c3 c4 c5 c6 hL hleft hprz hpmz; rintro e wn ⟨rfl, σn, hr, hm, hk⟩; replace HK := zA0 (HK.out.trans hk); replace HM := zA0 hm; obtain ⟨c0, c3, c4, c5, c6, hL, hleft, hprz, hpmz⟩ := hm.read2; clear hm hk)
   | (go_at_call 139; (with_reducible show Calls Tryz.prog 139 #[_, Value.int IntKind.i64 2] _ _); refine (R2.out _ _ _ _ _ _ _ _ HM.out (by omega)).mono ?_; clear c0 c3 c4 c5 c6 hL hleft hprz hpmz; rintro e wn ⟨rfl, σn, hr, hm, hk⟩; replace HK := zA0 (HK.out.trans hk); replace HM := zA0 hm; obtain ⟨c0, c3, c4, c5, c6, hL, hleft, hprz, hpmz⟩ := hm.read2; clear hm hk)
   | (go_at_call 100; (with_reducible show Calls Tryz.prog 100 #[_, Value.int IntKind.i64 1] _ _); refine (S1.out _ _ _ _ _ _ _ HM.out (by omega)).mono ?_; clear c0 c3 c4 c5 c6 hL hleft hprz hpmz; rintro e wn ⟨rfl, σn, hr, hm, hk⟩; replace HK := zA0 (HK.out.trans hk); replace HM := zA0 hm; obtain ⟨c0, c3, c4, c5, c6, hL, hleft, hprz, hpmz⟩ := hm.read2; clear hm hk)
   | (go_at_call 100; (with_reducible show Calls Tryz.prog 100 #[_, Value.int IntKind.i64 2] _ _); refine (S2.out _ _ _ _ _ _ _ HM.out (by omega)).mono ?_; clear c0 c3 c4 c5 c6 hL hleft hprz hpmz; rintro e wn ⟨rfl, σn, hr, hm, hk⟩; replace HK := zA0 (HK.out.trans hk); replace HM := zA0 hm; obtain ⟨c0, c3, c4, c5, c6, hL, hleft, hprz, hpmz⟩ := hm.read2; clear hm hk))
  go_end0
  refine ⟨rfl, _, ?_, HM.out.mono (by omega), HK.out⟩
  first | exact Lk.l0 _ (by omega) (by assumption) | exact Lk.l1 _ _ (by omega) (by simp) (by assumption)
theorem zPs (hs : Nums) (d c : Nat) (h1 : zHl d 1 c) (h2 : zHl d 2 (2 * c)) (B pr pm n : Nat) (pl : Bool) (σ : SG) (w : World) (h : Mk B pr pm n d pl σ w) (hn : n + 4 * c + 100 ≤ 700000) :
 Calls Tryz.prog 159 #[.pointer (some ⟨pm, 0, none⟩)] w fun e w' => e = .returned (.tuple #[]) ∧ ∃ σ', Chs d pl σ σ' ∧ Mk B pr pm (n + 4 * c + 100) d pl σ' w' ∧ Kq B pr w w' := by
 have N1 := zA0 hs.n1
 have N2 := zA0 hs.n2
 have R1 := zA0 hs.r1
 have R2 := zA0 hs.r2
 have S1 := zA0 h1
 have S2 := zA0 h2
 clear h1 h2
 have HM := zA0 h
 have HK := zA0 (Kq.refl B pr w)
 obtain ⟨c0, c3, c4, c5, c6, hL, hleft⟩ := h.read
 have hprz := h.pr_lt
 have hpmz := h.pm_lt
 clear h hs
 go_enter Tryz.func159, Tryz.ntmps159
 go_upto_region 6 with (first
  | (go_at_call 55; refine (zA8 B pr pm _ _ _ _ _ _ HM.out (by omega) (by omega)).mono ?_; clear c0 c3 c4 c5 c6 hL hleft hprz hpmz; rintro e wn ⟨⟨x, hx, rfl⟩, hm, hk, -⟩; replace HK := zA0 (HK.out.trans hk); replace HM := zA0 hm; obtain ⟨c0, c3, c4, c5, c6, hL, hleft, hprz, hpmz⟩ := hm.read2; clear hm hk)
  | (go_at_call 194; refine (zC4 B pr pm _ _ _ _ _ HM.out (by omega)).mono ?_; clear c0 c3 c4 c5 c6 hL hleft hprz hpmz; rintro e wn ⟨rfl, hm, hk⟩; replace HK := zA0 (HK.out.trans hk); replace HM := zA0 hm; obtain ⟨c0, c3, c4, c5, c6, hL, hleft, hprz, hpmz⟩ := hm.read2; clear hm hk))
 have hx4 : (x = 0 ∨ x = 1 ∨ x = 2 ∨ x = 3) := by omega
 rcases hx4 with rfl | rfl | rfl | rfl
 all_goals
  cases pl
  all_goals
   go_wp2_with (first
   | (go_at_call 55; (with_reducible show Calls Tryz.prog 55 _ (World.alloc _ _) _); refine (zA8 B pr pm _ _ _ _ _ _ (HM.out.below (zA2 _ _)) (by omega) (by omega)).mono ?_; have hlp := hprz; clear c0 c3 c4 c5 c6 hL hleft hprz hpmz; rintro e wn ⟨⟨x, hx, rfl⟩, hm, hk0, hon⟩; have hk := (HM.out.kq (zA2 _ _)).trans hk0; clear hk0; have hlit := zEw hon hlp; clear hon hlp; (first | (obtain ⟨lv, hlv, hlm⟩ := zKi (k := .i64) (l := [198, 199]) (x := x) hlit (by show _ < 2; omega)) | (obtain ⟨lv, hlv, hlm⟩ := zKi (k := .i64) (l := [165, 166]) (x := x) hlit (by show _ < 2; omega))); clear hlit; replace HK := zA0 (HK.out.trans hk); replace HM := zA0 hm; obtain ⟨c0, c3, c4, c5, c6, hL, hleft, hprz, hpmz⟩ := hm.read2; clear hm hk)
   | (go_at_call 55; refine (zA8 B pr pm _ _ _ _ _ _ HM.out (by omega) (by omega)).mono ?_; clear c0 c3 c4 c5 c6 hL hleft hprz hpmz; rintro e wn ⟨⟨x, hx, rfl⟩, hm, hk, -⟩; replace HK := zA0 (HK.out.trans hk); replace HM := zA0 hm; obtain ⟨c0, c3, c4, c5, c6, hL, hleft, hprz, hpmz⟩ := hm.read2; clear hm hk)
   | (go_at_call 98; refine (zAj B pr pm _ _ _ _ _ _ _ _ HM.out (by omega)).mono ?_; clear c0 c3 c4 c5 c6 hL hleft hprz hpmz; rintro e wn ⟨rfl, hm, hk⟩; replace HK := zA0 (HK.out.trans hk); replace HM := zA0 hm; obtain ⟨c0, c3, c4, c5, c6, hL, hleft, hprz, hpmz⟩ := hm.read2; clear hm hk)
   | (go_at_call 140; refine (zB3 B pr pm _ _ _ _ _ _ _ _ HM.out (by omega) (by first | assumption | exact Nat.le_of_ble_eq_true rfl | simp [ByteArray.size]) (by first | assumption | exact Nat.le_of_ble_eq_true rfl | simp [ByteArray.size]) (by first | assumption | exact Nat.le_of_ble_eq_true rfl | simp [ByteArray.size])).mono ?_; clear c0 c3 c4 c5 c6 hL hleft hprz hpmz; rintro e wn ⟨rfl, hm, hk⟩; replace HK := zA0 (HK.out.trans hk); replace HM := zA0 hm; obtain ⟨c0, c3, c4, c5, c6, hL, hleft, hprz, hpmz⟩ := hm.read2; clear hm hk)
   | (go_at_call 141; (with_reducible show Calls Tryz.prog 141 _ (World.alloc _ _) _); refine (zAk B pr pm _ _ _ _ _ _ _ _ (HM.out.below (zA2 _ _)) (by omega) (by first | assumption | exact Nat.le_of_ble_eq_true rfl | simp [ByteArray.size]) (by first | assumption | exact Nat.le_of_ble_eq_true rfl | simp [ByteArray.size]) (by first | assumption | exact Nat.le_of_ble_eq_true rfl | simp [ByteArray.size])).mono ?_; clear c0 c3 c4 c5 c6 hL hleft hprz hpmz; rintro e wn ⟨rfl, hm, hk0⟩; have hk := (HM.out.kq (zA2 _ _)).trans hk0; clear hk0; replace HK := zA0 (HK.out.trans hk); replace HM := zA0 hm; obtain ⟨c0, c3, c4, c5, c6, hL, hleft, hprz, hpmz⟩ := hm.read2; clear hm hk)
   | (go_at_call 141; refine (zAk B pr pm _ _ _ _ _ _ _ _ HM.out (by omega) (by first | assumption | exact Nat.le_of_ble_eq_true rfl | simp [ByteArray.size]) (by first | assumption | exact Nat.le_of_ble_eq_true rfl | simp [ByteArray.size]) (by first | assumption | exact Nat.le_of_ble_eq_true rfl | simp [ByteArray.size])).mono ?_; clear c0 c3 c4 c5 c6 hL hleft hprz hpmz; rintro e wn ⟨rfl, hm, hk⟩; replace HK := zA0 (HK.out.trans hk); replace HM := zA0 hm; obtain ⟨c0, c3, c4, c5, c6, hL, hleft, hprz, hpmz⟩ := hm.read2; clear hm hk)
   | (go_at_call 142; refine (zBf B pr pm _ _ _ _ _ _ HM.out (by omega) (by first | assumption | exact Nat.le_of_ble_eq_true rfl | simp [ByteArray.size])).mono ?_; clear c0 c3 c4 c5 c6 hL hleft hprz hpmz; rintro e wn ⟨rfl, hm, hk⟩; replace HK := zA0 (HK.out.trans hk); replace HM := zA0 hm; obtain ⟨c0, c3, c4, c5, c6, hL, hleft, hprz, hpmz⟩ := hm.read2; clear hm hk)
   | (go_at_call 195; refine (zDi B pr pm _ _ _ _ _ _ _ HM.out (by omega)).mono ?_; clear c0 c3 c4 c5 c6 hL hleft hprz hpmz; rintro e wn ⟨rfl, hm, hk⟩; replace HK := zA0 (HK.out.trans hk); replace HM := zA0 hm; obtain ⟨c0, c3, c4, c5, c6, hL, hleft, hprz, hpmz⟩ := hm.read2; clear hm hk)
   | (go_at_call 196; refine (zDp B pr pm _ _ _ _ _ _ HM.out (by omega)).mono ?_; clear c0 c3 c4 c5 c6 hL hleft hprz hpmz; rintro e wn ⟨rfl, hm, hk⟩; replace HK := zA0 (HK.out.trans hk); replace HM := zA0 hm; obtain ⟨c0, c3, c4, c5, c6, hL, hleft, hprz, hpmz⟩ := hm.read2; clear hm hk)
   | (go_at_call 194; refine (zC4 B pr pm _ _ _ _ _ HM.out (by omega)).mono ?_; clear c0 c3 c4 c5 c6 hL hleft hprz hpmz; rintro e wn ⟨rfl, hm, hk⟩; replace HK := zA0 (HK.out.trans hk); replace HM := zA0 hm; obtain ⟨c0, c3, c4, c5, c6, hL, hleft, hprz, hpmz⟩ := hm.read2; clear hm hk)
   | (go_at_call 101; (with_reducible show Calls Tryz.prog 101 #[_, Value.int IntKind.i64 1] _ _); refine (N1.out _ _ _ _ _ _ _ _ HM.out (by omega)).mono ?_; clear c0 c3 c4 c5 c6 hL hleft hprz hpmz; rintro e wn ⟨rfl, σn, hr, hm, hk⟩; replace HK := zA0 (HK.out.trans hk); replace HM := zA0 hm; obtain ⟨c0, c3, c4, c5, c6, hL, hleft, hprz, hpmz⟩ := hm.read2; clear hm hk)
   | (go_at_call 101; (with_reducible show Calls Tryz.prog 101 #[_, Value.int IntKind.i64 2] _ _); refine (N2.out _ _ _ _ _ _ _ _ HM.out (by omega)).mono ?_; clear c0 c3 c4 c5 c6 hL hleft hprz hpmz; rintro e wn ⟨rfl, σn, hr, hm, hk⟩; replace HK := zA0 (HK.out.trans hk); replace HM := zA0 hm; obtain ⟨c0, c3, c4, c5, c6, hL, hleft, hprz, hpmz⟩ := hm.read2; clear hm hk)
   | (go_at_call 139; (with_reducible show Calls Tryz.prog 139 #[_, Value.int IntKind.i64 1] _ _); refine (R1.out _ _ _ _ _ _ _ _ HM.out (by omega)).mono ?_; clear c0 c3 c4 c5 c6 hL hleft hprz hpmz; rintro e wn ⟨rfl, σn, hr, hm, hk⟩; replace HK := zA0 (HK.out.trans hk); replace HM := zA0 hm; obtain ⟨c0, c3, c4, c5, c6, hL, hleft, hprz, hpmz⟩ := hm.read2; clear hm hk)
   | (go_at_call 139; (with_reducible show Calls Tryz.prog 139 #[_, Value.int IntKind.i64 2] _ _); refine (R2.out _ _ _ _ _ _ _ _ HM.out (by omega)).mono ?_; clear c0 c3 c4 c5 c6 hL hleft hprz hpmz; rintro e wn ⟨rfl, σn, hr, hm, hk⟩; replace HK := zA0 (HK.out.trans hk); replace HM := zA0 hm; obtain ⟨c0, c3, c4, c5, c6, hL, hleft, hprz, hpmz⟩ := hm.read2; clear hm hk)
   | (go_at_call 100; (with_reducible show Calls Tryz.prog 100 #[_, Value.int IntKind.i64 1] _ _); refine (S1.out _ _ _ _ _ _ _ HM.out (by omega)).mono ?_; clear c0 c3 c4 c5 c6 hL hleft hprz hpmz; rintro e wn ⟨rfl, σn, hr, hm, hk⟩; replace HK := zA0 (HK.out.trans hk); replace HM := zA0 hm; obtain ⟨c0, c3, c4, c5, c6, hL, hleft, hprz, hpmz⟩ := hm.read2; clear hm hk)
   | (go_at_call 100; (with_reducible show Calls Tryz.prog 100 #[_, Value.int IntKind.i64 2] _ _); refine (S2.out _ _ _ _ _ _ _ HM.out (by omega)).mono ?_; clear c0 c3 c4 c5 c6 hL hleft hprz hpmz; rintro e wn ⟨rfl, σn, hr, hm, hk⟩; replace HK := zA0 (HK.out.trans hk); replace HM := zA0 hm; obtain ⟨c0, c3, c4, c5, c6, hL, hleft, hprz, hpmz⟩ := hm.read2; clear hm hk))
   go_end0
   refine ⟨rfl, _, ?_, HM.out.mono (by omega), HK.out⟩
   (refine Chs.mk ?_ (by assumption) hr; first | exact Cond.null _ hlm (by assumption) | exact Cond.same _ hlm (by assumption) (by assumption) | exact Cond.one _ (by omega) (by assumption) | exact Cond.two _ (by omega) (by assumption) (by assumption))
theorem zGz (d c : Nat) (h1 : OneC d c) : zQe d c := by
 intro B pr pm n pl σ K w h hK1 hK6 hn
 have HO := zA0 h1
 have HM := zA0 h
 have HK := zA0 (Kq.refl B pr w)
 obtain ⟨c0, c3, c4, c5, c6, hL, hleft⟩ := h.read
 have hprz := h.pr_lt
 have hpmz := h.pm_lt
 clear h h1
 go_enter Tryz.func100, Tryz.ntmps100
 go_wp2_with (go_at_call 55; refine (zA8 B pr pm _ _ _ _ _ _ HM.out (by omega) (by omega)).mono ?_; clear c0 c3 c4 c5 c6 hL hleft hprz hpmz; rintro e wn ⟨⟨x, hx, rfl⟩, hm, hk, -⟩; replace HK := zA0 (HK.out.trans hk); replace HM := zA0 hm; obtain ⟨c0, c3, c4, c5, c6, hL, hleft, hprz, hpmz⟩ := hm.read2; clear hm hk)
 go_loopw [4] (fun k_ wr => ∃ (j N : Nat) (σ' : SG), k_ = .int .i64 (j : Int) ∧ (j : Int) ≤ K ∧ Mk B pr pm N d pl σ' wr ∧ N + j * c ≤ n + K.toNat * c ∧ Kq B pr w wr ∧ Sm d pl σ σ') (fun k_ _ => (intOf k_).toNat)
 case atStart =>
  refine ⟨1 + x, n, σ, by go_num, by omega, HM.out, ?_, HK.out, .nil⟩
  have : (1 + x) * c ≤ K.toNat * c := Nat.mul_le_mul_right c (by omega)
  omega
 case round =>
  clear HM HK c0 c3 c4 c5 c6 hL hleft hprz hpmz
  obtain ⟨j, N, σ', rfl, hjK, hm, hN, hk, hsm⟩ := hrel
  have HM := zA0 hm
  have HK := zA0 hk
  obtain ⟨c0, c3, c4, c5, c6, hL, hleft⟩ := hm.read
  have hprz := hm.pr_lt
  have hpmz := hm.pm_lt
  clear hm hk
  by_cases hj : 0 < j
  · have hj' : (0 : Int) < (j : Int) := by omega
    by_cases hl : 25 < σ'.left
    · have hjc : (j - 1) * c + c = j * c := by rw [← Nat.succ_mul]; congr 1; omega
      have HJC := zA0 hjc
      have hNc : N + c ≤ 700000 := by omega
      have HN2 : Hid (N + c + (j - 1) * c ≤ n + K.toNat * c) := by show _ ≤ _; omega
      clear hjc hN
      go_wp2_with (go_at_call 137; refine (HO.out _ _ _ _ _ _ _ HM.out hNc).mono ?_; rintro e wn ⟨rfl, σ2, hone, hm, hk⟩; have HM2 := zA0 hm; have HK2 := zA0 (HK.out.trans hk); clear hm hk)
      exact ⟨⟨j - 1, N + c, σ2, by go_num, by omega, HM2.out, HN2.out, HK2.out, hsm.snoc hl hone⟩, by simp [intOf]; omega⟩
    · go_wp2
      go_end0
      exact ⟨rfl, σ', hsm, HM.out.mono (by have : 0 ≤ j * c := Nat.zero_le _; omega), HK.out⟩
  · have hj' : ¬ (0 : Int) < (j : Int) := by omega
    go_wp2
    go_end0
    exact ⟨rfl, σ', hsm, HM.out.mono (by have : 0 ≤ j * c := Nat.zero_le _; omega), HK.out⟩
end Go.Proofs.YtpehimfnkmepnaaGreat.M
