import Derived.Test.YtpehimfnkmepnaaGreatBx30
set_option maxRecDepth 8000
set_option maxHeartbeats 40000000
namespace Go.Proofs.YtpehimfnkmepnaaGreat.M
open Go.RowKit
theorem numS (k : Nat) (hk : k ≤ 10) (hcs : cst k ≤ 20000) (hN : NumC k) (hR : RefC k) : NumC (k + 1) := by
 intro B pr pm n d pl σ w h hn
 have HM := zA0 h
 have HK := zA0 (Kq.refl B pr w)
 obtain ⟨c0, c3, c4, c5, c6, hL, hleft⟩ := h.read
 have hprz := h.pr_lt
 have hpmz := h.pm_lt
 clear h
 have HN := zA0 hN
 have HR := zA0 hR
 have hk1 : ((k + 1 : Nat) : Int) = (k : Int) + 1 := by omega
 rw [hk1]
 have HC : Hid (cst (k + 1) = 2 * cst k + 4) := rfl
 have hn1 : n + 2 * cst k + 4 ≤ 800000 := by have := HC.out; omega
 clear hn
 clear hN hR hk1
 generalize cst (k + 1) = C1 at *
 unfold NumC at HN
 unfold RefC at HR
 generalize cst k = C0 at *
 have hk0 : ¬ (k : Int) + 1 ≤ 0 := by omega
 go_enter Tryz.func101, Tryz.ntmps101
 go_upto_region 1 with (go_at_call 55; refine (zA8 B pr pm _ _ _ _ _ _ HM.out (by omega) (by omega)).mono ?_; clear c0 c3 c4 c5 c6 hL hleft hprz hpmz; rintro e wn ⟨⟨x, hx, rfl⟩, hm, hk, -⟩; replace HK := zA0 (HK.out.trans hk); replace HM := zA0 hm; obtain ⟨c0, c3, c4, c5, c6, hL, hleft, hprz, hpmz⟩ := hm.read2; clear hm hk)
 have hx12 : (x = 0 ∨ x = 1 ∨ x = 2 ∨ x = 3 ∨ x = 4 ∨ x = 5 ∨ x = 6 ∨ x = 7 ∨ x = 8 ∨ x = 9 ∨ x = 10 ∨ x = 11) := by omega
 rcases hx12 with rfl | rfl | rfl | rfl | rfl | rfl | rfl | rfl | rfl | rfl | rfl | rfl
 all_goals
  cases pl
  all_goals
   by_cases hl20 : σ.left < 20
   all_goals
    go_wp2_with (first
   | (go_at_call 55; (with_reducible show Calls Tryz.prog 55 _ (World.alloc _ _) _); refine (zA8 B pr pm _ _ _ _ _ _ (HM.out.below (zA2 _ _)) (by omega) (by omega)).mono ?_; have hlp := hprz; clear c0 c3 c4 c5 c6 hL hleft hprz hpmz; rintro e wn ⟨⟨x, hx, rfl⟩, hm, hk0, hon⟩; have hk := (HM.out.kq (zA2 _ _)).trans hk0; clear hk0; have hlit := zEw hon hlp; clear hon hlp; (first | (obtain ⟨lv, hlv, hlm⟩ := zKi (k := .i64) (l := zOh) (x := x) hlit (by show _ < 11; omega)) | (obtain ⟨lv, hlv, hlm⟩ := zKi (k := .i32) (l := zHt) (x := x) hlit (by show _ < 4; omega)) | (obtain ⟨lv, hlv, hlm⟩ := zJ1 (l := [sA, sB, sObj]) (x := x) hlit (by show _ < 3; omega); have hlz : lv.size ≤ 1000000 := zEy hlm (by decide))); clear hlit; replace HK := zA0 (HK.out.trans hk); replace HM := zA0 hm; obtain ⟨c0, c3, c4, c5, c6, hL, hleft, hprz, hpmz⟩ := hm.read2; clear hm hk)
   | (go_at_call 55; refine (zA8 B pr pm _ _ _ _ _ _ HM.out (by omega) (by omega)).mono ?_; clear c0 c3 c4 c5 c6 hL hleft hprz hpmz; rintro e wn ⟨⟨x, hx, rfl⟩, hm, hk, -⟩; replace HK := zA0 (HK.out.trans hk); replace HM := zA0 hm; obtain ⟨c0, c3, c4, c5, c6, hL, hleft, hprz, hpmz⟩ := hm.read2; clear hm hk)
   | (go_at_call 98; refine (zAj B pr pm _ _ _ _ _ _ _ _ HM.out (by omega)).mono ?_; clear c0 c3 c4 c5 c6 hL hleft hprz hpmz; rintro e wn ⟨rfl, hm, hk⟩; replace HK := zA0 (HK.out.trans hk); replace HM := zA0 hm; obtain ⟨c0, c3, c4, c5, c6, hL, hleft, hprz, hpmz⟩ := hm.read2; clear hm hk)
   | (go_at_call 140; refine (zB3 B pr pm _ _ _ _ _ _ _ _ HM.out (by omega) (by first | assumption | exact Nat.le_of_ble_eq_true rfl | simp [ByteArray.size]) (by first | assumption | exact Nat.le_of_ble_eq_true rfl | simp [ByteArray.size]) (by first | assumption | exact Nat.le_of_ble_eq_true rfl | simp [ByteArray.size])).mono ?_; clear c0 c3 c4 c5 c6 hL hleft hprz hpmz; rintro e wn ⟨rfl, hm, hk⟩; replace HK := zA0 (HK.out.trans hk); replace HM := zA0 hm; obtain ⟨c0, c3, c4, c5, c6, hL, hleft, hprz, hpmz⟩ := hm.read2; clear hm hk)
   | (go_at_call 141; refine (zAk B pr pm _ _ _ _ _ _ _ _ HM.out (by omega) (by first | assumption | exact Nat.le_of_ble_eq_true rfl | simp [ByteArray.size]) (by first | assumption | exact Nat.le_of_ble_eq_true rfl | simp [ByteArray.size]) (by first | assumption | exact Nat.le_of_ble_eq_true rfl | simp [ByteArray.size])).mono ?_; clear c0 c3 c4 c5 c6 hL hleft hprz hpmz; rintro e wn ⟨rfl, hm, hk⟩; replace HK := zA0 (HK.out.trans hk); replace HM := zA0 hm; obtain ⟨c0, c3, c4, c5, c6, hL, hleft, hprz, hpmz⟩ := hm.read2; clear hm hk)
   | (go_at_call 142; refine (zBf B pr pm _ _ _ _ _ _ HM.out (by omega) (by first | assumption | exact Nat.le_of_ble_eq_true rfl | simp [ByteArray.size])).mono ?_; clear c0 c3 c4 c5 c6 hL hleft hprz hpmz; rintro e wn ⟨rfl, hm, hk⟩; replace HK := zA0 (HK.out.trans hk); replace HM := zA0 hm; obtain ⟨c0, c3, c4, c5, c6, hL, hleft, hprz, hpmz⟩ := hm.read2; clear hm hk)
   | (go_at_call 101; refine (HN.out _ _ _ _ _ _ _ _ HM.out (by omega)).mono ?_; clear c0 c3 c4 c5 c6 hL hleft hprz hpmz; rintro e wn ⟨rfl, σn, hr, hm, hk⟩; replace HK := zA0 (HK.out.trans hk); replace HM := zA0 hm; obtain ⟨c0, c3, c4, c5, c6, hL, hleft, hprz, hpmz⟩ := hm.read2; clear hm hk)
   | (go_at_call 139; refine (HR.out _ _ _ _ _ _ _ _ HM.out (by omega)).mono ?_; clear c0 c3 c4 c5 c6 hL hleft hprz hpmz; rintro e wn ⟨rfl, σn, hr, hm, hk⟩; replace HK := zA0 (HK.out.trans hk); replace HM := zA0 hm; obtain ⟨c0, c3, c4, c5, c6, hL, hleft, hprz, hpmz⟩ := hm.read2; clear hm hk)
   | (go_at_call 138; refine (zJx B pr pm _ _ _ _ _ _ HM.out (by omega) (by simp [zHt] at hlm; omega) (by simp [zHt] at hlm; omega)).mono ?_; clear c0 c3 c4 c5 c6 hL hleft hprz hpmz; rintro e wn ⟨rfl, hm, hk⟩; replace HK := zA0 (HK.out.trans hk); replace HM := zA0 hm; obtain ⟨c0, c3, c4, c5, c6, hL, hleft, hprz, hpmz⟩ := hm.read2; clear hm hk))
    go_end0
    refine ⟨rfl, _, ?_, HM.out.mono (by have := HC.out; omega), HK.out⟩
    first | exact Num.c0 _ (by omega) | exact Num.c1 _ (by omega) | exact Num.c2 _ (by omega) | exact Num.bin _ (by omega) hlm (by assumption) (by assumption) | exact Num.neg (by omega) (by assumption) | exact Num.ldc _ (by omega) hlm | exact Num.getx (by omega) (by assumption) | exact Num.iaload (by omega) (by assumption) | exact Num.calc_ (by omega) (by assumption) (by assumption) | exact Num.virt (by omega) (by assumption) (by assumption) | exact Num.isa _ (by omega) hlm (by assumption)
theorem refS (k : Nat) (hk : k ≤ 10) (hcs : cst k ≤ 20000) (hN : NumC k) (hR : RefC k) : RefC (k + 1) := by
 intro B pr pm n d pl σ w h hn
 have HM := zA0 h
 have HK := zA0 (Kq.refl B pr w)
 obtain ⟨c0, c3, c4, c5, c6, hL, hleft⟩ := h.read
 have hprz := h.pr_lt
 have hpmz := h.pm_lt
 clear h
 have HN := zA0 hN
 have HR := zA0 hR
 have hk1 : ((k + 1 : Nat) : Int) = (k : Int) + 1 := by omega
 rw [hk1]
 have HC : Hid (cst (k + 1) = 2 * cst k + 4) := rfl
 have hn1 : n + 2 * cst k + 4 ≤ 800000 := by have := HC.out; omega
 clear hn
 clear hN hR hk1
 generalize cst (k + 1) = C1 at *
 unfold NumC at HN
 unfold RefC at HR
 generalize cst k = C0 at *
 have hk0 : ¬ (k : Int) + 1 ≤ 0 := by omega
 go_enter Tryz.func139, Tryz.ntmps139
 go_upto_region 1 with (go_at_call 55; refine (zA8 B pr pm _ _ _ _ _ _ HM.out (by omega) (by omega)).mono ?_; clear c0 c3 c4 c5 c6 hL hleft hprz hpmz; rintro e wn ⟨⟨x, hx, rfl⟩, hm, hk, -⟩; replace HK := zA0 (HK.out.trans hk); replace HM := zA0 hm; obtain ⟨c0, c3, c4, c5, c6, hL, hleft, hprz, hpmz⟩ := hm.read2; clear hm hk)
 have hx12 : (x = 0 ∨ x = 1 ∨ x = 2 ∨ x = 3 ∨ x = 4 ∨ x = 5 ∨ x = 6 ∨ x = 7) := by omega
 rcases hx12 with rfl | rfl | rfl | rfl | rfl | rfl | rfl | rfl
 all_goals
  cases pl
  all_goals
   by_cases hl20 : σ.left < 20
   all_goals
    go_wp2_with (first
   | (go_at_call 55; (with_reducible show Calls Tryz.prog 55 _ (World.alloc _ _) _); refine (zA8 B pr pm _ _ _ _ _ _ (HM.out.below (zA2 _ _)) (by omega) (by omega)).mono ?_; have hlp := hprz; clear c0 c3 c4 c5 c6 hL hleft hprz hpmz; rintro e wn ⟨⟨x, hx, rfl⟩, hm, hk0, hon⟩; have hk := (HM.out.kq (zA2 _ _)).trans hk0; clear hk0; have hlit := zEw hon hlp; clear hon hlp; (obtain ⟨lv, hlv, hlm⟩ := zJ1 (l := [sA, sB]) (x := x) hlit (by show _ < 2; omega); have hlz : lv.size ≤ 1000000 := zEy hlm (by decide)); clear hlit; replace HK := zA0 (HK.out.trans hk); replace HM := zA0 hm; obtain ⟨c0, c3, c4, c5, c6, hL, hleft, hprz, hpmz⟩ := hm.read2; clear hm hk)
   | (go_at_call 55; refine (zA8 B pr pm _ _ _ _ _ _ HM.out (by omega) (by omega)).mono ?_; clear c0 c3 c4 c5 c6 hL hleft hprz hpmz; rintro e wn ⟨⟨x, hx, rfl⟩, hm, hk, -⟩; replace HK := zA0 (HK.out.trans hk); replace HM := zA0 hm; obtain ⟨c0, c3, c4, c5, c6, hL, hleft, hprz, hpmz⟩ := hm.read2; clear hm hk)
   | (go_at_call 98; refine (zAj B pr pm _ _ _ _ _ _ _ _ HM.out (by omega)).mono ?_; clear c0 c3 c4 c5 c6 hL hleft hprz hpmz; rintro e wn ⟨rfl, hm, hk⟩; replace HK := zA0 (HK.out.trans hk); replace HM := zA0 hm; obtain ⟨c0, c3, c4, c5, c6, hL, hleft, hprz, hpmz⟩ := hm.read2; clear hm hk)
   | (go_at_call 140; refine (zB3 B pr pm _ _ _ _ _ _ _ _ HM.out (by omega) (by first | assumption | exact Nat.le_of_ble_eq_true rfl | simp [ByteArray.size]) (by first | assumption | exact Nat.le_of_ble_eq_true rfl | simp [ByteArray.size]) (by first | assumption | exact Nat.le_of_ble_eq_true rfl | simp [ByteArray.size])).mono ?_; clear c0 c3 c4 c5 c6 hL hleft hprz hpmz; rintro e wn ⟨rfl, hm, hk⟩; replace HK := zA0 (HK.out.trans hk); replace HM := zA0 hm; obtain ⟨c0, c3, c4, c5, c6, hL, hleft, hprz, hpmz⟩ := hm.read2; clear hm hk)
   | (go_at_call 141; refine (zAk B pr pm _ _ _ _ _ _ _ _ HM.out (by omega) (by first | assumption | exact Nat.le_of_ble_eq_true rfl | simp [ByteArray.size]) (by first | assumption | exact Nat.le_of_ble_eq_true rfl | simp [ByteArray.size]) (by first | assumption | exact Nat.le_of_ble_eq_true rfl | simp [ByteArray.size])).mono ?_; clear c0 c3 c4 c5 c6 hL hleft hprz hpmz; rintro e wn ⟨rfl, hm, hk⟩; replace HK := zA0 (HK.out.trans hk); replace HM := zA0 hm; obtain ⟨c0, c3, c4, c5, c6, hL, hleft, hprz, hpmz⟩ := hm.read2; clear hm hk)
   | (go_at_call 142; refine (zBf B pr pm _ _ _ _ _ _ HM.out (by omega) (by first | assumption | exact Nat.le_of_ble_eq_true rfl | simp [ByteArray.size])).mono ?_; clear c0 c3 c4 c5 c6 hL hleft hprz hpmz; rintro e wn ⟨rfl, hm, hk⟩; replace HK := zA0 (HK.out.trans hk); replace HM := zA0 hm; obtain ⟨c0, c3, c4, c5, c6, hL, hleft, hprz, hpmz⟩ := hm.read2; clear hm hk)
   | (go_at_call 101; refine (HN.out _ _ _ _ _ _ _ _ HM.out (by omega)).mono ?_; clear c0 c3 c4 c5 c6 hL hleft hprz hpmz; rintro e wn ⟨rfl, σn, hr, hm, hk⟩; replace HK := zA0 (HK.out.trans hk); replace HM := zA0 hm; obtain ⟨c0, c3, c4, c5, c6, hL, hleft, hprz, hpmz⟩ := hm.read2; clear hm hk)
   | (go_at_call 139; refine (HR.out _ _ _ _ _ _ _ _ HM.out (by omega)).mono ?_; clear c0 c3 c4 c5 c6 hL hleft hprz hpmz; rintro e wn ⟨rfl, σn, hr, hm, hk⟩; replace HK := zA0 (HK.out.trans hk); replace HM := zA0 hm; obtain ⟨c0, c3, c4, c5, c6, hL, hleft, hprz, hpmz⟩ := hm.read2; clear hm hk)
   | (go_at_call 138; refine (zJx B pr pm _ _ _ _ _ _ HM.out (by omega) (by simp [zHt] at hlm; omega) (by simp [zHt] at hlm; omega)).mono ?_; clear c0 c3 c4 c5 c6 hL hleft hprz hpmz; rintro e wn ⟨rfl, hm, hk⟩; replace HK := zA0 (HK.out.trans hk); replace HM := zA0 hm; obtain ⟨c0, c3, c4, c5, c6, hL, hleft, hprz, hpmz⟩ := hm.read2; clear hm hk))
    go_end0
    refine ⟨rfl, _, ?_, HM.out.mono (by have := HC.out; omega), HK.out⟩
    first | exact Ref.r0 _ (by omega) | exact Ref.newA | exact Ref.newB | exact Ref.next (by omega) (by assumption) | exact Ref.stat (by omega) | exact Ref.aaload (by omega) (by assumption) | exact Ref.cast _ (by omega) hlm (by assumption)
theorem zOy : ∀ k, k ≤ 4 → NumC k ∧ RefC k
 | 0, _ => ⟨num0, ref0⟩
 | k + 1, h => by
   obtain ⟨h1, h2⟩ := zOy k (by omega)
   have hc : cst k ≤ 20000 := by
    match k, h with
    | 0, _ => decide
    | 1, _ => decide
    | 2, _ => decide
    | 3, _ => decide
   exact ⟨numS k (by omega) hc h1 h2, refS k (by omega) hc h1 h2⟩
end Go.Proofs.YtpehimfnkmepnaaGreat.M
