import Derived.Test.YtpehimfnkmepnaaGreatBz14
set_option maxRecDepth 8000
set_option maxHeartbeats 40000000
namespace Go.Proofs.YtpehimfnkmepnaaGreat.M
open Go.RowKit
theorem zMg (hs : Nums) (d : Nat) (B pr pm n : Nat) (pl : Bool) (σ : SG) (w : World) (h : Mk B pr pm n d pl σ w) (hn : n + 60 ≤ 700000) :
 Calls Tryz.prog 161 #[.pointer (some ⟨pm, 0, none⟩)] w fun e w' => e = .returned (.tuple #[]) ∧ ∃ σ', Arr pl σ σ' ∧ Mk B pr pm (n + 60) d pl σ' w' ∧ Kq B pr w w' := by
 have N1 := zA0 hs.n1
 have N2 := zA0 hs.n2
 have R1 := zA0 hs.r1
 have R2 := zA0 hs.r2
 have HM := zA0 h
 have HK := zA0 (Kq.refl B pr w)
 obtain ⟨c0, c3, c4, c5, c6, hL, hleft⟩ := h.read
 have hprz := h.pr_lt
 have hpmz := h.pm_lt
 clear h hs
 go_enter Tryz.func161, Tryz.ntmps161
 go_upto_region 1 with (first
  | (go_at_call 55; refine (zA6 B pr pm _ _ _ _ _ _ HM.out (by omega) (by omega)).mono ?_; clear c0 c3 c4 c5 c6 hL hleft hprz hpmz; rintro e wn ⟨⟨x, hx, rfl⟩, hm, hk, -⟩; replace HK := zA0 (HK.out.trans hk); replace HM := zA0 hm; obtain ⟨c0, c3, c4, c5, c6, hL, hleft, hprz, hpmz⟩ := hm.read2; clear hm hk))
 have hx4 : (x = 0 ∨ x = 1 ∨ x = 2 ∨ x = 3) := by omega
 rcases hx4 with rfl | rfl | rfl | rfl
 all_goals
  go_wp2_with (first
   | (go_at_call 55; (with_reducible show Calls Tryz.prog 55 _ (World.alloc _ _) _); refine (zA6 B pr pm _ _ _ _ _ _ (HM.out.below (zA2 _ _)) (by omega) (by omega)).mono ?_; have hlp := hprz; clear c0 c3 c4 c5 c6 hL hleft hprz hpmz; rintro e wn ⟨⟨x, hx, rfl⟩, hm, hk0, hon⟩; have hk := (HM.out.kq (zA2 _ _)).trans hk0; clear hk0; have hlit := zDr hon hlp; clear hon hlp; (obtain ⟨lv, hlv, hlm⟩ := zH6 (l := [sA, sB]) (x := x) hlit (by show _ < 2; omega); have hlz : lv.size ≤ 1000000 := zDp hlm (by decide)); clear hlit; replace HK := zA0 (HK.out.trans hk); replace HM := zA0 hm; obtain ⟨c0, c3, c4, c5, c6, hL, hleft, hprz, hpmz⟩ := hm.read2; clear hm hk)
   | (go_at_call 55; refine (zA6 B pr pm _ _ _ _ _ _ HM.out (by omega) (by omega)).mono ?_; clear c0 c3 c4 c5 c6 hL hleft hprz hpmz; rintro e wn ⟨⟨x, hx, rfl⟩, hm, hk, -⟩; replace HK := zA0 (HK.out.trans hk); replace HM := zA0 hm; obtain ⟨c0, c3, c4, c5, c6, hL, hleft, hprz, hpmz⟩ := hm.read2; clear hm hk)
   | (go_at_call 98; refine (zAf B pr pm _ _ _ _ _ _ _ _ HM.out (by omega)).mono ?_; clear c0 c3 c4 c5 c6 hL hleft hprz hpmz; rintro e wn ⟨rfl, hm, hk⟩; replace HK := zA0 (HK.out.trans hk); replace HM := zA0 hm; obtain ⟨c0, c3, c4, c5, c6, hL, hleft, hprz, hpmz⟩ := hm.read2; clear hm hk)
   | (go_at_call 140; refine (zAy B pr pm _ _ _ _ _ _ _ _ HM.out (by omega) (by first | assumption | exact Nat.le_of_ble_eq_true rfl | simp [ByteArray.size]) (by first | assumption | exact Nat.le_of_ble_eq_true rfl | simp [ByteArray.size]) (by first | assumption | exact Nat.le_of_ble_eq_true rfl | simp [ByteArray.size])).mono ?_; clear c0 c3 c4 c5 c6 hL hleft hprz hpmz; rintro e wn ⟨rfl, hm, hk⟩; replace HK := zA0 (HK.out.trans hk); replace HM := zA0 hm; obtain ⟨c0, c3, c4, c5, c6, hL, hleft, hprz, hpmz⟩ := hm.read2; clear hm hk)
   | (go_at_call 141; (with_reducible show Calls Tryz.prog 141 _ (World.alloc _ _) _); refine (zAh B pr pm _ _ _ _ _ _ _ _ (HM.out.below (zA2 _ _)) (by omega) (by first | assumption | exact Nat.le_of_ble_eq_true rfl | simp [ByteArray.size]) (by first | assumption | exact Nat.le_of_ble_eq_true rfl | simp [ByteArray.size]) (by first | assumption | exact Nat.le_of_ble_eq_true rfl | simp [ByteArray.size])).mono ?_; clear c0 c3 c4 c5 c6 hL hleft hprz hpmz; rintro e wn ⟨rfl, hm, hk0⟩; have hk := (HM.out.kq (zA2 _ _)).trans hk0; clear hk0; replace HK := zA0 (HK.out.trans hk); replace HM := zA0 hm; obtain ⟨c0, c3, c4, c5, c6, hL, hleft, hprz, hpmz⟩ := hm.read2; clear hm hk)
   | (go_at_call 141; refine (zAh B pr pm _ _ _ _ _ _ _ _ HM.out (by omega) (by first | assumption | exact Nat.le_of_ble_eq_true rfl | simp [ByteArray.size]) (by first | assumption | exact Nat.le_of_ble_eq_true rfl | simp [ByteArray.size]) (by first | assumption | exact Nat.le_of_ble_eq_true rfl | simp [ByteArray.size])).mono ?_; clear c0 c3 c4 c5 c6 hL hleft hprz hpmz; rintro e wn ⟨rfl, hm, hk⟩; replace HK := zA0 (HK.out.trans hk); replace HM := zA0 hm; obtain ⟨c0, c3, c4, c5, c6, hL, hleft, hprz, hpmz⟩ := hm.read2; clear hm hk)
   | (go_at_call 142; refine (zBf B pr pm _ _ _ _ _ _ HM.out (by omega) (by first | assumption | exact Nat.le_of_ble_eq_true rfl | simp [ByteArray.size])).mono ?_; clear c0 c3 c4 c5 c6 hL hleft hprz hpmz; rintro e wn ⟨rfl, hm, hk⟩; replace HK := zA0 (HK.out.trans hk); replace HM := zA0 hm; obtain ⟨c0, c3, c4, c5, c6, hL, hleft, hprz, hpmz⟩ := hm.read2; clear hm hk)
   | (go_at_call 195; refine (zCs B pr pm _ _ _ _ _ _ _ HM.out (by omega)).mono ?_; clear c0 c3 c4 c5 c6 hL hleft hprz hpmz; rintro e wn ⟨rfl, hm, hk⟩; replace HK := zA0 (HK.out.trans hk); replace HM := zA0 hm; obtain ⟨c0, c3, c4, c5, c6, hL, hleft, hprz, hpmz⟩ := hm.read2; clear hm hk)
   | (go_at_call 196; refine (zCt B pr pm _ _ _ _ _ _ HM.out (by omega)).mono ?_; clear c0 c3 c4 c5 c6 hL hleft hprz hpmz; rintro e wn ⟨rfl, hm, hk⟩; replace HK := zA0 (HK.out.trans hk); replace HM := zA0 hm; obtain ⟨c0, c3, c4, c5, c6, hL, hleft, hprz, hpmz⟩ := hm.read2; clear hm hk)
   | (go_at_call 194; refine (zBp B pr pm _ _ _ _ _ HM.out (by omega)).mono ?_; clear c0 c3 c4 c5 c6 hL hleft hprz hpmz; rintro e wn ⟨rfl, hm, hk⟩; replace HK := zA0 (HK.out.trans hk); replace HM := zA0 hm; obtain ⟨c0, c3, c4, c5, c6, hL, hleft, hprz, hpmz⟩ := hm.read2; clear hm hk)
   | (go_at_call 101; (with_reducible show Calls Tryz.prog 101 #[_, Value.int IntKind.i64 1] _ _); refine (N1.out _ _ _ _ _ _ _ _ HM.out (by omega)).mono ?_; clear c0 c3 c4 c5 c6 hL hleft hprz hpmz; rintro e wn ⟨rfl, σn, hr, hm, hk⟩; replace HK := zA0 (HK.out.trans hk); replace HM := zA0 hm; obtain ⟨c0, c3, c4, c5, c6, hL, hleft, hprz, hpmz⟩ := hm.read2; clear hm hk)
   | (go_at_call 101; (with_reducible show Calls Tryz.prog 101 #[_, Value.int IntKind.i64 2] _ _); refine (N2.out _ _ _ _ _ _ _ _ HM.out (by omega)).mono ?_; clear c0 c3 c4 c5 c6 hL hleft hprz hpmz; rintro e wn ⟨rfl, σn, hr, hm, hk⟩; replace HK := zA0 (HK.out.trans hk); replace HM := zA0 hm; obtain ⟨c0, c3, c4, c5, c6, hL, hleft, hprz, hpmz⟩ := hm.read2; clear hm hk)
   | (go_at_call 139; (with_reducible show Calls Tryz.prog 139 #[_, Value.int IntKind.i64 1] _ _); refine (R1.out _ _ _ _ _ _ _ _ HM.out (by omega)).mono ?_; clear c0 c3 c4 c5 c6 hL hleft hprz hpmz; rintro e wn ⟨rfl, σn, hr, hm, hk⟩; replace HK := zA0 (HK.out.trans hk); replace HM := zA0 hm; obtain ⟨c0, c3, c4, c5, c6, hL, hleft, hprz, hpmz⟩ := hm.read2; clear hm hk)
   | (go_at_call 139; (with_reducible show Calls Tryz.prog 139 #[_, Value.int IntKind.i64 2] _ _); refine (R2.out _ _ _ _ _ _ _ _ HM.out (by omega)).mono ?_; clear c0 c3 c4 c5 c6 hL hleft hprz hpmz; rintro e wn ⟨rfl, σn, hr, hm, hk⟩; replace HK := zA0 (HK.out.trans hk); replace HM := zA0 hm; obtain ⟨c0, c3, c4, c5, c6, hL, hleft, hprz, hpmz⟩ := hm.read2; clear hm hk))
  go_end0
  refine ⟨rfl, _, ?_, HM.out.mono (by omega), HK.out⟩
  first | exact Arr.a0 (by assumption) | exact Arr.a1 _ _ (by omega) hlm | exact Arr.a2 (by assumption) (by assumption) | exact Arr.a3 _ (by omega) hr
theorem zL8 (hs : Nums) (d : Nat) (B pr pm n : Nat) (pl : Bool) (σ : SG) (w : World) (h : Mk B pr pm n d pl σ w) (hn : n + 20 ≤ 700000) :
 Calls Tryz.prog 164 #[.pointer (some ⟨pm, 0, none⟩)] w fun e w' => e = .returned (.tuple #[]) ∧ ∃ σ', Thr σ σ' ∧ Mk B pr pm (n + 20) d pl σ' w' ∧ Kq B pr w w' := by
 have N1 := zA0 hs.n1
 have N2 := zA0 hs.n2
 have R1 := zA0 hs.r1
 have R2 := zA0 hs.r2
 have HM := zA0 h
 have HK := zA0 (Kq.refl B pr w)
 obtain ⟨c0, c3, c4, c5, c6, hL, hleft⟩ := h.read
 have hprz := h.pr_lt
 have hpmz := h.pm_lt
 clear h hs
 go_enter Tryz.func164, Tryz.ntmps164
 go_upto_region 1 with (first
  | (go_at_call 55; refine (zA6 B pr pm _ _ _ _ _ _ HM.out (by omega) (by omega)).mono ?_; clear c0 c3 c4 c5 c6 hL hleft hprz hpmz; rintro e wn ⟨⟨x, hx, rfl⟩, hm, hk, -⟩; replace HK := zA0 (HK.out.trans hk); replace HM := zA0 hm; obtain ⟨c0, c3, c4, c5, c6, hL, hleft, hprz, hpmz⟩ := hm.read2; clear hm hk))
 have hx4 : (x = 0 ∨ x = 1 ∨ x = 2 ∨ x = 3) := by omega
 rcases hx4 with rfl | rfl | rfl | rfl
 all_goals
  go_wp2_with (first
   | (go_at_call 55; refine (zA6 B pr pm _ _ _ _ _ _ HM.out (by omega) (by omega)).mono ?_; clear c0 c3 c4 c5 c6 hL hleft hprz hpmz; rintro e wn ⟨⟨x, hx, rfl⟩, hm, hk, -⟩; replace HK := zA0 (HK.out.trans hk); replace HM := zA0 hm; obtain ⟨c0, c3, c4, c5, c6, hL, hleft, hprz, hpmz⟩ := hm.read2; clear hm hk)
   | (go_at_call 98; refine (zAf B pr pm _ _ _ _ _ _ _ _ HM.out (by omega)).mono ?_; clear c0 c3 c4 c5 c6 hL hleft hprz hpmz; rintro e wn ⟨rfl, hm, hk⟩; replace HK := zA0 (HK.out.trans hk); replace HM := zA0 hm; obtain ⟨c0, c3, c4, c5, c6, hL, hleft, hprz, hpmz⟩ := hm.read2; clear hm hk)
   | (go_at_call 140; refine (zAy B pr pm _ _ _ _ _ _ _ _ HM.out (by omega) (by first | assumption | exact Nat.le_of_ble_eq_true rfl | simp [ByteArray.size]) (by first | assumption | exact Nat.le_of_ble_eq_true rfl | simp [ByteArray.size]) (by first | assumption | exact Nat.le_of_ble_eq_true rfl | simp [ByteArray.size])).mono ?_; clear c0 c3 c4 c5 c6 hL hleft hprz hpmz; rintro e wn ⟨rfl, hm, hk⟩; replace HK := zA0 (HK.out.trans hk); replace HM := zA0 hm; obtain ⟨c0, c3, c4, c5, c6, hL, hleft, hprz, hpmz⟩ := hm.read2; clear hm hk)
   | (go_at_call 141; (with_reducible show Calls Tryz.prog 141 _ (World.alloc _ _) _); refine (zAh B pr pm _ _ _ _ _ _ _ _ (HM.out.below (zA2 _ _)) (by omega) (by first | assumption | exact Nat.le_of_ble_eq_true rfl | simp [ByteArray.size]) (by first | assumption | exact Nat.le_of_ble_eq_true rfl | simp [ByteArray.size]) (by first | assumption | exact Nat.le_of_ble_eq_true rfl | simp [ByteArray.size])).mono ?_; clear c0 c3 c4 c5 c6 hL hleft hprz hpmz; rintro e wn ⟨rfl, hm, hk0⟩; have hk := (HM.out.kq (zA2 _ _)).trans hk0; clear hk0; replace HK := zA0 (HK.out.trans hk); replace HM := zA0 hm; obtain ⟨c0, c3, c4, c5, c6, hL, hleft, hprz, hpmz⟩ := hm.read2; clear hm hk)
   | (go_at_call 141; refine (zAh B pr pm _ _ _ _ _ _ _ _ HM.out (by omega) (by first | assumption | exact Nat.le_of_ble_eq_true rfl | simp [ByteArray.size]) (by first | assumption | exact Nat.le_of_ble_eq_true rfl | simp [ByteArray.size]) (by first | assumption | exact Nat.le_of_ble_eq_true rfl | simp [ByteArray.size])).mono ?_; clear c0 c3 c4 c5 c6 hL hleft hprz hpmz; rintro e wn ⟨rfl, hm, hk⟩; replace HK := zA0 (HK.out.trans hk); replace HM := zA0 hm; obtain ⟨c0, c3, c4, c5, c6, hL, hleft, hprz, hpmz⟩ := hm.read2; clear hm hk)
   | (go_at_call 142; refine (zBf B pr pm _ _ _ _ _ _ HM.out (by omega) (by first | assumption | exact Nat.le_of_ble_eq_true rfl | simp [ByteArray.size])).mono ?_; clear c0 c3 c4 c5 c6 hL hleft hprz hpmz; rintro e wn ⟨rfl, hm, hk⟩; replace HK := zA0 (HK.out.trans hk); replace HM := zA0 hm; obtain ⟨c0, c3, c4, c5, c6, hL, hleft, hprz, hpmz⟩ := hm.read2; clear hm hk)
   | (go_at_call 195; refine (zCs B pr pm _ _ _ _ _ _ _ HM.out (by omega)).mono ?_; clear c0 c3 c4 c5 c6 hL hleft hprz hpmz; rintro e wn ⟨rfl, hm, hk⟩; replace HK := zA0 (HK.out.trans hk); replace HM := zA0 hm; obtain ⟨c0, c3, c4, c5, c6, hL, hleft, hprz, hpmz⟩ := hm.read2; clear hm hk)
   | (go_at_call 196; refine (zCt B pr pm _ _ _ _ _ _ HM.out (by omega)).mono ?_; clear c0 c3 c4 c5 c6 hL hleft hprz hpmz; rintro e wn ⟨rfl, hm, hk⟩; replace HK := zA0 (HK.out.trans hk); replace HM := zA0 hm; obtain ⟨c0, c3, c4, c5, c6, hL, hleft, hprz, hpmz⟩ := hm.read2; clear hm hk)
   | (go_at_call 194; refine (zBp B pr pm _ _ _ _ _ HM.out (by omega)).mono ?_; clear c0 c3 c4 c5 c6 hL hleft hprz hpmz; rintro e wn ⟨rfl, hm, hk⟩; replace HK := zA0 (HK.out.trans hk); replace HM := zA0 hm; obtain ⟨c0, c3, c4, c5, c6, hL, hleft, hprz, hpmz⟩ := hm.read2; clear hm hk)
   | (go_at_call 101; (with_reducible show Calls Tryz.prog 101 #[_, Value.int IntKind.i64 1] _ _); refine (N1.out _ _ _ _ _ _ _ _ HM.out (by omega)).mono ?_; clear c0 c3 c4 c5 c6 hL hleft hprz hpmz; rintro e wn ⟨rfl, σn, hr, hm, hk⟩; replace HK := zA0 (HK.out.trans hk); replace HM := zA0 hm; obtain ⟨c0, c3, c4, c5, c6, hL, hleft, hprz, hpmz⟩ := hm.read2; clear hm hk)
   | (go_at_call 101; (with_reducible show Calls Tryz.prog 101 #[_, Value.int IntKind.i64 2] _ _); refine (N2.out _ _ _ _ _ _ _ _ HM.out (by omega)).mono ?_; clear c0 c3 c4 c5 c6 hL hleft hprz hpmz; rintro e wn ⟨rfl, σn, hr, hm, hk⟩; replace HK := zA0 (HK.out.trans hk); replace HM := zA0 hm; obtain ⟨c0, c3, c4, c5, c6, hL, hleft, hprz, hpmz⟩ := hm.read2; clear hm hk)
   | (go_at_call 139; (with_reducible show Calls Tryz.prog 139 #[_, Value.int IntKind.i64 1] _ _); refine (R1.out _ _ _ _ _ _ _ _ HM.out (by omega)).mono ?_; clear c0 c3 c4 c5 c6 hL hleft hprz hpmz; rintro e wn ⟨rfl, σn, hr, hm, hk⟩; replace HK := zA0 (HK.out.trans hk); replace HM := zA0 hm; obtain ⟨c0, c3, c4, c5, c6, hL, hleft, hprz, hpmz⟩ := hm.read2; clear hm hk)
   | (go_at_call 139; (with_reducible show Calls Tryz.prog 139 #[_, Value.int IntKind.i64 2] _ _); refine (R2.out _ _ _ _ _ _ _ _ HM.out (by omega)).mono ?_; clear c0 c3 c4 c5 c6 hL hleft hprz hpmz; rintro e wn ⟨rfl, σn, hr, hm, hk⟩; replace HK := zA0 (HK.out.trans hk); replace HM := zA0 hm; obtain ⟨c0, c3, c4, c5, c6, hL, hleft, hprz, hpmz⟩ := hm.read2; clear hm hk))
  go_end0
  refine ⟨rfl, _, ?_, HM.out.mono (by omega), HK.out⟩
  first | exact Thr.t0 | exact Thr.t1 | exact Thr.t2 | exact Thr.t3 _ (by omega)
theorem zMz (hs : Nums) (d c : Nat) (h1 : zFy d 1 c) (h2 : zFy d 2 (2 * c)) (B pr pm n : Nat) (pl : Bool) (σ : SG) (w : World) (h : Mk B pr pm n d pl σ w) (hn : n + c + 40 ≤ 700000) :
 Calls Tryz.prog 163 #[.pointer (some ⟨pm, 0, none⟩)] w fun e w' => e = .returned (.tuple #[]) ∧ ∃ σ', Lk d pl σ σ' ∧ Mk B pr pm (n + c + 40) d pl σ' w' ∧ Kq B pr w w' := by
 have N1 := zA0 hs.n1
 have N2 := zA0 hs.n2
 have R1 := zA0 hs.r1
 have R2 := zA0 hs.r2
 have S1 := zA0 h1
 have S2 := zA0 h2
 clear h1 h2
 have HM := zA0 h
 have HK := zA0 (Kq.refl B pr w)
 obtain ⟨c0, c3, c4, c5, c6, hL, hleft⟩ := h.read
 have hprz := h.pr_lt
 have hpmz := h.pm_lt
 clear h hs
 go_enter Tryz.func163, Tryz.ntmps163
 go_upto_region 5 with (first
  | (go_at_call 55; refine (zA6 B pr pm _ _ _ _ _ _ HM.out (by omega) (by omega)).mono ?_; clear c0 c3 c4 c5 c6 hL hleft hprz hpmz; rintro e wn ⟨⟨x, hx, rfl⟩, hm, hk, -⟩; replace HK := zA0 (HK.out.trans hk); replace HM := zA0 hm; obtain ⟨c0, c3, c4, c5, c6, hL, hleft, hprz, hpmz⟩ := hm.read2; clear hm hk)
  | (go_at_call 98; refine (zAf B pr pm _ _ _ _ _ _ _ _ HM.out (by omega)).mono ?_; clear c0 c3 c4 c5 c6 hL hleft hprz hpmz; rintro e wn ⟨rfl, hm, hk⟩; replace HK := zA0 (HK.out.trans hk); replace HM := zA0 hm; obtain ⟨c0, c3, c4, c5, c6, hL, hleft, hprz, hpmz⟩ := hm.read2; clear hm hk)
  | (go_at_call 100; (with_reducible show Calls Tryz.prog 100 #[_, Value.int IntKind.i64 1] _ _); refine (S1.out _ _ _ _ _ _ _ HM.out (by omega)).mono ?_; clear c0 c3 c4 c5 c6 hL hleft hprz hpmz; rintro e wn ⟨rfl, σn, hr, hm, hk⟩; replace HK := zA0 (HK.out.trans hk); replace HM := zA0 hm; obtain ⟨c0, c3, c4, c5, c6, hL, hleft, hprz, hpmz⟩ := hm.read2; clear hm hk))
 have hx4 : (x = 0 ∨ x = 1 ∨ x = 2 ∨ x = 3) := by omega
 rcases hx4 with rfl | rfl | rfl | rfl
 all_goals
  go_wp2_with (first
   | (go_at_call 55; (with_reducible show Calls Tryz.prog 55 _ (World.alloc _ _) _); refine (zA6 B pr pm _ _ _ _ _ _ (HM.out.below (zA2 _ _)) (by omega) (by omega)).mono ?_; have hlp := hprz; clear c0 c3 c4 c5 c6 hL hleft hprz hpmz; rintro e wn ⟨⟨x, hx, rfl⟩, hm, hk0, hon⟩; have hk := (HM.out.kq (zA2 _ _)).trans hk0; clear hk0; have hlit := zDr hon hlp; clear hon hlp; (obtain ⟨lv, hlv, hlm⟩ := zH6 (l := [zOh, zIk, sWait]) (x := x) hlit (by show _ < 3; omega); have hlz : lv.size ≤ 1000000 := zDp hlm (by decide)); clear hlit; replace HK := zA0 (HK.out.trans hk); replace HM := zA0 hm; obtain ⟨c0, c3, c4, c5, c6, hL, hleft, hprz, hpmz⟩ := hm.read2; clear hm hk)
   | (go_at_call 55; refine (zA6 B pr pm _ _ _ _ _ _ HM.out (by omega) (by omega)).mono ?_; clear c0 c3 c4 c5 c6 hL hleft hprz hpmz; rintro e wn ⟨⟨x, hx, rfl⟩, hm, hk, -⟩; replace HK := zA0 (HK.out.trans hk); replace HM := zA0 hm; obtain ⟨c0, c3, c4, c5, c6, hL, hleft, hprz, hpmz⟩ := hm.read2; clear hm hk)
   | (go_at_call 98; refine (zAf B pr pm _ _ _ _ _ _ _ _ HM.out (by omega)).mono ?_; clear c0 c3 c4 c5 c6 hL hleft hprz hpmz; rintro e wn ⟨rfl, hm, hk⟩; replace HK := zA0 (HK.out.trans hk); replace HM := zA0 hm; obtain ⟨c0, c3, c4, c5, c6, hL, hleft, hprz, hpmz⟩ := hm.read2; clear hm hk)
   | (go_at_call 140; refine (zAy B pr pm _ _ _ _ _ _ _ _ HM.out (by omega) (by first | assumption | exact Nat.le_of_ble_eq_true rfl | simp [ByteArray.size]) (by first | assumption | exact Nat.le_of_ble_eq_true rfl | simp [ByteArray.size]) (by first | assumption | exact Nat.le_of_ble_eq_true rfl | simp [ByteArray.size])).mono ?_; clear c0 c3 c4 c5 c6 hL hleft hprz hpmz; rintro e wn ⟨rfl, hm, hk⟩; replace HK := zA0 (HK.out.trans hk); replace HM := zA0 hm; obtain ⟨c0, c3, c4, c5, c6, hL, hleft, hprz, hpmz⟩ := hm.read2; clear hm hk)
   | (go_at_call 141; (with_reducible show Calls Tryz.prog 141 _ (World.alloc _ _) _); refine (zAh B pr pm _ _ _ _ _ _ _ _ (HM.out.below (zA2 _ _)) (by omega) (by first | assumption | exact Nat.le_of_ble_eq_true rfl | simp [ByteArray.size]) (by first | assumption | exact Nat.le_of_ble_eq_true rfl | simp [ByteArray.size]) (by first | assumption | exact Nat.le_of_ble_eq_true rfl | simp [ByteArray.size])).mono ?_; clear c0 c3 c4 c5 c6 hL hleft hprz hpmz; rintro e wn ⟨rfl, hm, hk0⟩; have hk := (HM.out.kq (zA2 _ _)).trans hk0; clear hk0; replace HK := zA0 (HK.out.trans hk); replace HM := zA0 hm; obtain ⟨c0, c3, c4, c5, c6, hL, hleft, hprz, hpmz⟩ := hm.read2; clear hm hk)
   | (go_at_call 141; refine (zAh B pr pm _ _ _ _ _ _ _ _ HM.out (by omega) (by first | assumption | exact Nat.le_of_ble_eq_true rfl | simp [ByteArray.size]) (by first | assumption | exact Nat.le_of_ble_eq_true rfl | simp [ByteArray.size]) (by first | assumption | exact Nat.le_of_ble_eq_true rfl | simp [ByteArray.size])).mono ?_; clear c0 c3 c4 c5 c6 hL hleft hprz hpmz; rintro e wn ⟨rfl, hm, hk⟩; replace HK := zA0 (HK.out.trans hk); replace HM := zA0 hm; obtain ⟨c0, c3, c4, c5, c6, hL, hleft, hprz, hpmz⟩ := hm.read2; clear hm hk)
   | (go_at_call 142; refine (zBf B pr pm _ _ _ _ _ _ HM.out (by omega) (by first | assumption | exact Nat.le_of_ble_eq_true rfl | simp [ByteArray.size])).mono ?_; clear c0 c3 c4 c5 c6 hL hleft hprz hpmz; rintro e wn ⟨rfl, hm, hk⟩; replace HK := zA0 (HK.out.trans hk); replace HM := zA0 hm; obtain ⟨c0, c3, c4, c5, c6, hL, hleft, hprz, hpmz⟩ := hm.read2; clear hm hk)
   | (go_at_call 195; refine (zCs B pr pm _ _ _ _ _ _ _ HM.out (by omega)).mono ?_; clear c0 c3 c4 c5 c6 hL hleft hprz hpmz; rintro e wn ⟨rfl, hm, hk⟩; replace HK := zA0 (HK.out.trans hk); replace HM := zA0 hm; obtain ⟨c0, c3, c4, c5, c6, hL, hleft, hprz, hpmz⟩ := hm.read2; clear hm hk)
   | (go_at_call 196; refine (zCt B pr pm _ _ _ _ _ _ HM.out (by omega)).mono ?_; clear c0 c3 c4 c5 c6 hL hleft hprz hpmz; rintro e wn ⟨rfl, hm, hk⟩; replace HK := zA0 (HK.out.trans hk); replace HM := zA0 hm; obtain ⟨c0, c3, c4, c5, c6, hL, hleft, hprz, hpmz⟩ := hm.read2; clear hm hk)
   | (go_at_call 194; refine (zBp B pr pm _ _ _ _ _ HM.out (by omega)).mono ?_; clear c0 c3 c4 c5 c6 hL hleft hprz hpmz; rintro e wn ⟨rfl, hm, hk⟩; replace HK := zA0 (HK.out.trans hk); replace HM := zA0 hm; obtain ⟨c0, c3, c4, c5, c6, hL, hleft, hprz, hpmz⟩ := hm.read2; clear hm hk)
   | (go_at_call 101; (with_reducible show Calls Tryz.prog 101 #[_, Value.int IntKind.i64 1] _ _); refine (N1.out _ _ _ _ _ _ _ _ HM.out (by omega)).mono ?_; clear c0 c3 c4 c5 c6 hL hleft hprz hpmz; rintro e wn ⟨rfl, σn, hr, hm, hk⟩; replace HK := zA0 (HK.out.trans hk); replace HM := zA0 hm; obtain ⟨c0, c3, c4, c5, c6, hL, hleft, hprz, hpmz⟩ := hm.read2; clear hm hk)
   | (go_at_call 101; (with_reducible show Calls Tryz.prog 101 #[_, Value.int IntKind.i64 2] _ _); refine (N2.out _ _ _ _ _ _ _ _ HM.out (by omega)).mono ?_; clear c0 c3 c4 c5 c6 hL hleft hprz hpmz; rintro e wn ⟨rfl, σn, hr, hm, hk⟩; replace HK := zA0 (HK.out.trans hk); replace HM := zA0 hm; obtain ⟨c0, c3, c4, c5, c6, hL, hleft, hprz, hpmz⟩ := hm.read2; clear hm hk)
   | (go_at_call 139; (with_reducible show Calls Tryz.prog 139 #[_, Value.int IntKind.i64 1] _ _); refine (R1.out _ _ _ _ _ _ _ _ HM.out (by omega)).mono ?_; clear c0 c3 c4 c5 c6 hL hleft hprz hpmz; rintro e wn ⟨rfl, σn, hr, hm, hk⟩; replace HK := zA0 (HK.out.trans hk); replace HM := zA0 hm; obtain ⟨c0, c3, c4, c5, c6, hL, hleft, hprz, hpmz⟩ := hm.read2; clear hm hk)
   | (go_at_call 139; (with_reducible show Calls Tryz.prog 139 #[_, Value.int IntKind.i64 2] _ _); refine (R2.out _ _ _ _ _ _ _ _ HM.out (by omega)).mono ?_; clear c0 c3 c4 c5 c6 hL hleft hprz hpmz; rintro e wn ⟨rfl, σn, hr, hm, hk⟩; replace HK := zA0 (HK.out.trans hk); replace HM := zA0 hm; obtain ⟨c0, c3, c4, c5, c6, hL, hleft, hprz, hpmz⟩ := hm.read2; clear hm hk)
   | (go_at_call 100; (with_reducible show Calls Tryz.prog 100 #[_, Value.int IntKind.i64 1] _ _); refine (S1.out _ _ _ _ _ _ _ HM.out (by omega)).mono ?_; clear c0 c3 c4 c5 c6 hL hleft hprz hpmz; rintro e wn ⟨rfl, σn, hr, hm, hk⟩; replace HK := zA0 (HK.out.trans hk); replace HM := zA0 hm; obtain ⟨c0, c3, c4, c5, c6, hL, hleft, hprz, hpmz⟩ := hm.read2; clear hm hk)
   | (go_at_call 100; (with_reducible show Calls Tryz.prog 100 #[_, Value.int IntKind.i64 2] _ _); refine (S2.out _ _ _ _ _ _ _ HM.out (by omega)).mono ?_; clear c0 c3 c4 c5 c6 hL hleft hprz hpmz; rintro e wn ⟨rfl, σn, hr, hm, hk⟩; replace HK := zA0 (HK.out.trans hk); replace HM := zA0 hm; obtain ⟨c0, c3, c4, c5, c6, hL, hleft, hprz, hpmz⟩ := hm.read2; clear hm hk))
  go_end0
  refine ⟨rfl, _, ?_, HM.out.mono (by omega), HK.out⟩
  first | exact Lk.l0 _ (by omega) (by assumption) | exact Lk.l1 _ _ (by omega) (by simp) (by assumption)
end Go.Proofs.YtpehimfnkmepnaaGreat.M
