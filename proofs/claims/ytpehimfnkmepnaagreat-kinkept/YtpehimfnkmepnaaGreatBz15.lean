import Derived.Test.YtpehimfnkmepnaaGreatBz14
set_option maxRecDepth 8000
set_option maxHeartbeats 40000000
namespace Go.Proofs.YtpehimfnkmepnaaGreat.M
open Go.RowKit
theorem Mk.ofT {B pr pm n d : Nat} {pl : Bool} {σ : SG} {s : MS} {w : World} {v : Value} {x : Int} (h1 : MkP B pr pm { s with vt := v, ts := s.ts ++ [x] } w) (h : MkB n d pl s) (h3 : s.sg = σ) : Mk B pr pm (n + 1) d pl (σ.caught x) w :=
 ⟨_, h1, ⟨h.dep, h.pln, by have := h.lb; simp only; omega, by have := h.ln; simp only; omega, by have := h.pn; simp only; omega, by have := h.hn; simp only; omega, by have := h.tn; simp; omega, by have := h.l0; simp only; omega, h.l1, h.small⟩, by rw [← h3]; rfl⟩
theorem Mk.ofH {B pr pm n d : Nat} {pl : Bool} {σ : SG} {s : MS} {w : World} {v : Value} {x : TR} (h1 : MkP B pr pm { s with vh := v, hs := s.hs ++ [x] } w) (h : MkB n d pl s) (h3 : s.sg = σ) : Mk B pr pm (n + 1) d pl (σ.tried x) w :=
 ⟨_, h1, ⟨h.dep, h.pln, by have := h.lb; simp only; omega, by have := h.ln; simp only; omega, by have := h.pn; simp only; omega, by have := h.hn; simp; omega, by have := h.tn; simp only; omega, by have := h.l0; simp only; omega, h.l1, h.small⟩, by rw [← h3]; rfl⟩
theorem zRy (hs : Nums) (d c : Nat) (h1 : zFy d 1 c) (h2 : zFy d 2 (2 * c)) (B pr pm n : Nat) (pl : Bool) (σ : SG) (w : World) (h : Mk B pr pm n d pl σ w) (hn : n + 3 * c + 40 ≤ 700000) :
 Calls Tryz.prog 162 #[.pointer (some ⟨pm, 0, none⟩)] w fun e w' => e = .returned (.tuple #[]) ∧ ∃ σ', Tr d pl σ σ' ∧ Mk B pr pm (n + 3 * c + 40) d pl σ' w' ∧ Kq B pr w w' := by
 have N1 := zA0 hs.n1
 have N2 := zA0 hs.n2
 have R1 := zA0 hs.r1
 have R2 := zA0 hs.r2
 have S1 := zA0 h1
 have S2 := zA0 h2
 clear h1 h2
 have HM := zA0 h
 have HK := zA0 (Kq.refl B pr w)
 obtain ⟨c0, c3, c4, c5, c6, hL, hleft⟩ := h.read
 have hprz := h.pr_lt
 have hpmz := h.pm_lt
 clear h hs
 go_enter Tryz.func162, Tryz.ntmps162
 go_upto_region 1 with (go_at_call 194; refine (zBp B pr pm _ _ _ _ _ HM.out (by omega)).mono ?_; clear c0 c3 c4 c5 c6 hL hleft hprz hpmz; rintro e wn ⟨rfl, hm, hk⟩; replace HK := zA0 (HK.out.trans hk); replace HM := zA0 hm; obtain ⟨c0, c3, c4, c5, c6, hL, hleft, hprz, hpmz⟩ := hm.read2; clear hm hk)
 go_upto_region 2 with (go_at_call 194; refine (zBp B pr pm _ _ _ _ _ HM.out (by omega)).mono ?_; clear c0 c3 c4 c5 c6 hL hleft hprz hpmz; rintro e wn ⟨rfl, hm, hk⟩; replace HK := zA0 (HK.out.trans hk); replace HM := zA0 hm; obtain ⟨c0, c3, c4, c5, c6, hL, hleft, hprz, hpmz⟩ := hm.read2; clear hm hk)
 go_upto_region 3 with (go_at_call 194; refine (zBp B pr pm _ _ _ _ _ HM.out (by omega)).mono ?_; clear c0 c3 c4 c5 c6 hL hleft hprz hpmz; rintro e wn ⟨rfl, hm, hk⟩; replace HK := zA0 (HK.out.trans hk); replace HM := zA0 hm; obtain ⟨c0, c3, c4, c5, c6, hL, hleft, hprz, hpmz⟩ := hm.read2; clear hm hk)
 go_upto_region 4 with (go_at_call 194; refine (zBp B pr pm _ _ _ _ _ HM.out (by omega)).mono ?_; clear c0 c3 c4 c5 c6 hL hleft hprz hpmz; rintro e wn ⟨rfl, hm, hk⟩; replace HK := zA0 (HK.out.trans hk); replace HM := zA0 hm; obtain ⟨c0, c3, c4, c5, c6, hL, hleft, hprz, hpmz⟩ := hm.read2; clear hm hk)
 go_upto_region 10 with (first
  | (go_at_call 55; refine (zA6 B pr pm _ _ _ _ _ _ HM.out (by omega) (by omega)).mono ?_; clear c0 c3 c4 c5 c6 hL hleft hprz hpmz; rintro e wn ⟨⟨x, hx, rfl⟩, hm, hk, -⟩; replace HK := zA0 (HK.out.trans hk); replace HM := zA0 hm; obtain ⟨c0, c3, c4, c5, c6, hL, hleft, hprz, hpmz⟩ := hm.read2; clear hm hk)
  | (go_at_call 98; refine (zAf B pr pm _ _ _ _ _ _ _ _ HM.out (by omega)).mono ?_; clear c0 c3 c4 c5 c6 hL hleft hprz hpmz; rintro e wn ⟨rfl, hm, hk⟩; replace HK := zA0 (HK.out.trans hk); replace HM := zA0 hm; obtain ⟨c0, c3, c4, c5, c6, hL, hleft, hprz, hpmz⟩ := hm.read2; clear hm hk)
  | (go_at_call 140; refine (zAy B pr pm _ _ _ _ _ _ _ _ HM.out (by omega) (by first | assumption | exact Nat.le_of_ble_eq_true rfl | simp [ByteArray.size]) (by first | assumption | exact Nat.le_of_ble_eq_true rfl | simp [ByteArray.size]) (by first | assumption | exact Nat.le_of_ble_eq_true rfl | simp [ByteArray.size])).mono ?_; clear c0 c3 c4 c5 c6 hL hleft hprz hpmz; rintro e wn ⟨rfl, hm, hk⟩; replace HK := zA0 (HK.out.trans hk); replace HM := zA0 hm; obtain ⟨c0, c3, c4, c5, c6, hL, hleft, hprz, hpmz⟩ := hm.read2; clear hm hk)
  | (go_at_call 141; (with_reducible show Calls Tryz.prog 141 _ (World.alloc _ _) _); refine (zAh B pr pm _ _ _ _ _ _ _ _ (HM.out.below (zA2 _ _)) (by omega) (by first | assumption | exact Nat.le_of_ble_eq_true rfl | simp [ByteArray.size]) (by first | assumption | exact Nat.le_of_ble_eq_true rfl | simp [ByteArray.size]) (by first | assumption | exact Nat.le_of_ble_eq_true rfl | simp [ByteArray.size])).mono ?_; clear c0 c3 c4 c5 c6 hL hleft hprz hpmz; rintro e wn ⟨rfl, hm, hk0⟩; have hk := (HM.out.kq (zA2 _ _)).trans hk0; clear hk0; replace HK := zA0 (HK.out.trans hk); replace HM := zA0 hm; obtain ⟨c0, c3, c4, c5, c6, hL, hleft, hprz, hpmz⟩ := hm.read2; clear hm hk)
  | (go_at_call 141; refine (zAh B pr pm _ _ _ _ _ _ _ _ HM.out (by omega) (by first | assumption | exact Nat.le_of_ble_eq_true rfl | simp [ByteArray.size]) (by first | assumption | exact Nat.le_of_ble_eq_true rfl | simp [ByteArray.size]) (by first | assumption | exact Nat.le_of_ble_eq_true rfl | simp [ByteArray.size])).mono ?_; clear c0 c3 c4 c5 c6 hL hleft hprz hpmz; rintro e wn ⟨rfl, hm, hk⟩; replace HK := zA0 (HK.out.trans hk); replace HM := zA0 hm; obtain ⟨c0, c3, c4, c5, c6, hL, hleft, hprz, hpmz⟩ := hm.read2; clear hm hk)
  | (go_at_call 142; refine (zBf B pr pm _ _ _ _ _ _ HM.out (by omega) (by first | assumption | exact Nat.le_of_ble_eq_true rfl | simp [ByteArray.size])).mono ?_; clear c0 c3 c4 c5 c6 hL hleft hprz hpmz; rintro e wn ⟨rfl, hm, hk⟩; replace HK := zA0 (HK.out.trans hk); replace HM := zA0 hm; obtain ⟨c0, c3, c4, c5, c6, hL, hleft, hprz, hpmz⟩ := hm.read2; clear hm hk)
  | (go_at_call 195; refine (zCs B pr pm _ _ _ _ _ _ _ HM.out (by omega)).mono ?_; clear c0 c3 c4 c5 c6 hL hleft hprz hpmz; rintro e wn ⟨rfl, hm, hk⟩; replace HK := zA0 (HK.out.trans hk); replace HM := zA0 hm; obtain ⟨c0, c3, c4, c5, c6, hL, hleft, hprz, hpmz⟩ := hm.read2; clear hm hk)
  | (go_at_call 196; refine (zCt B pr pm _ _ _ _ _ _ HM.out (by omega)).mono ?_; clear c0 c3 c4 c5 c6 hL hleft hprz hpmz; rintro e wn ⟨rfl, hm, hk⟩; replace HK := zA0 (HK.out.trans hk); replace HM := zA0 hm; obtain ⟨c0, c3, c4, c5, c6, hL, hleft, hprz, hpmz⟩ := hm.read2; clear hm hk)
  | (go_at_call 194; refine (zBp B pr pm _ _ _ _ _ HM.out (by omega)).mono ?_; clear c0 c3 c4 c5 c6 hL hleft hprz hpmz; rintro e wn ⟨rfl, hm, hk⟩; replace HK := zA0 (HK.out.trans hk); replace HM := zA0 hm; obtain ⟨c0, c3, c4, c5, c6, hL, hleft, hprz, hpmz⟩ := hm.read2; clear hm hk)
  | (go_at_call 100; (with_reducible show Calls Tryz.prog 100 #[_, Value.int IntKind.i64 1] _ _); refine (S1.out _ _ _ _ _ _ _ HM.out (by omega)).mono ?_; clear c0 c3 c4 c5 c6 hL hleft hprz hpmz; rintro e wn ⟨rfl, σn, hr, hm, hk⟩; replace HK := zA0 (HK.out.trans hk); replace HM := zA0 hm; obtain ⟨c0, c3, c4, c5, c6, hL, hleft, hprz, hpmz⟩ := hm.read2; clear hm hk)
  | (go_at_call 100; (with_reducible show Calls Tryz.prog 100 #[_, Value.int IntKind.i64 2] _ _); refine (S2.out _ _ _ _ _ _ _ HM.out (by omega)).mono ?_; clear c0 c3 c4 c5 c6 hL hleft hprz hpmz; rintro e wn ⟨rfl, σn, hr, hm, hk⟩; replace HK := zA0 (HK.out.trans hk); replace HM := zA0 hm; obtain ⟨c0, c3, c4, c5, c6, hL, hleft, hprz, hpmz⟩ := hm.read2; clear hm hk))
 obtain ⟨s, HP, HB, hsg⟩ := HM.out
 have HSG := zA0 hsg
 have cx := zA1 HP.blk 8 rfl
 have f0 := zAa HP.blk
 have hz := HP.lt
 have hln := HB.tn
 have HPL := zA0 (fun v1 w1 hg ho => HP.putT (o := .cells ([Value.int .i64 (σ.mark.mark.labels : Int)]).toArray 3) (v1 := v1) (w1 := w1) (x := (σ.mark.mark.labels : Int)) hg ho)
 have hOl := HP.t
 obtain ⟨aol, capl, el⟩ := zA4 HP.t
 have HEL := zA0 el
 change _ = some s.vt at cx
 rw [el] at cx
 have HBB := zA0 HB
 have HPP := zA0 HP
 clear HP HB el hsg
 go_upto_region 11 with (at_builtin; refine zKt rfl _ _ rfl B (.slice aol s.ts.length capl) _ _ (σ.mark.mark.labels : Int) rfl (by rw [← HEL.out]; exact hOl) rfl (by omega) (by omega) ?_; intro v1 w1 ho1 hg1; obtain ⟨ao1, cap1, rfl⟩ := zA4 ho1; obtain ⟨hb1, HP1, K1⟩ := HPL.out _ w1 (by rw [HEL.out]; exact hg1) ho1; have qf := zAa hb1; have q8 := zA1 hb1 8 (v := s.vt) rfl; have HP2 := zA0 HP1; have HK2 := zA0 (HK.out.trans K1); clear HP1 K1 HK hb1)
 have HM2 := zA0 (Mk.ofT HP2.out HBB.out HSG.out)
 have HK := HK2
 clear HM HK2 HP2 HPL HEL qf q8 hOl HPP HSG cx f0 hln hz c0 c3 c4 c5 c6 hL hleft hprz hpmz
 have HM := HM2
 clear HM2
 obtain ⟨c0, c3, c4, c5, c6, hL, hleft⟩ := HM.out.read
 have hprz := HM.out.pr_lt
 have hpmz := HM.out.pm_lt
 go_upto_region 12 with (first
  | (go_at_call 55; refine (zA6 B pr pm _ _ _ _ _ _ HM.out (by omega) (by omega)).mono ?_; clear c0 c3 c4 c5 c6 hL hleft hprz hpmz; rintro e wn ⟨⟨x, hx, rfl⟩, hm, hk, -⟩; replace HK := zA0 (HK.out.trans hk); replace HM := zA0 hm; obtain ⟨c0, c3, c4, c5, c6, hL, hleft, hprz, hpmz⟩ := hm.read2; clear hm hk)
  | (go_at_call 98; refine (zAf B pr pm _ _ _ _ _ _ _ _ HM.out (by omega)).mono ?_; clear c0 c3 c4 c5 c6 hL hleft hprz hpmz; rintro e wn ⟨rfl, hm, hk⟩; replace HK := zA0 (HK.out.trans hk); replace HM := zA0 hm; obtain ⟨c0, c3, c4, c5, c6, hL, hleft, hprz, hpmz⟩ := hm.read2; clear hm hk)
  | (go_at_call 140; refine (zAy B pr pm _ _ _ _ _ _ _ _ HM.out (by omega) (by first | assumption | exact Nat.le_of_ble_eq_true rfl | simp [ByteArray.size]) (by first | assumption | exact Nat.le_of_ble_eq_true rfl | simp [ByteArray.size]) (by first | assumption | exact Nat.le_of_ble_eq_true rfl | simp [ByteArray.size])).mono ?_; clear c0 c3 c4 c5 c6 hL hleft hprz hpmz; rintro e wn ⟨rfl, hm, hk⟩; replace HK := zA0 (HK.out.trans hk); replace HM := zA0 hm; obtain ⟨c0, c3, c4, c5, c6, hL, hleft, hprz, hpmz⟩ := hm.read2; clear hm hk)
  | (go_at_call 141; (with_reducible show Calls Tryz.prog 141 _ (World.alloc _ _) _); refine (zAh B pr pm _ _ _ _ _ _ _ _ (HM.out.below (zA2 _ _)) (by omega) (by first | assumption | exact Nat.le_of_ble_eq_true rfl | simp [ByteArray.size]) (by first | assumption | exact Nat.le_of_ble_eq_true rfl | simp [ByteArray.size]) (by first | assumption | exact Nat.le_of_ble_eq_true rfl | simp [ByteArray.size])).mono ?_; clear c0 c3 c4 c5 c6 hL hleft hprz hpmz; rintro e wn ⟨rfl, hm, hk0⟩; have hk := (HM.out.kq (zA2 _ _)).trans hk0; clear hk0; replace HK := zA0 (HK.out.trans hk); replace HM := zA0 hm; obtain ⟨c0, c3, c4, c5, c6, hL, hleft, hprz, hpmz⟩ := hm.read2; clear hm hk)
  | (go_at_call 141; refine (zAh B pr pm _ _ _ _ _ _ _ _ HM.out (by omega) (by first | assumption | exact Nat.le_of_ble_eq_true rfl | simp [ByteArray.size]) (by first | assumption | exact Nat.le_of_ble_eq_true rfl | simp [ByteArray.size]) (by first | assumption | exact Nat.le_of_ble_eq_true rfl | simp [ByteArray.size])).mono ?_; clear c0 c3 c4 c5 c6 hL hleft hprz hpmz; rintro e wn ⟨rfl, hm, hk⟩; replace HK := zA0 (HK.out.trans hk); replace HM := zA0 hm; obtain ⟨c0, c3, c4, c5, c6, hL, hleft, hprz, hpmz⟩ := hm.read2; clear hm hk)
  | (go_at_call 142; refine (zBf B pr pm _ _ _ _ _ _ HM.out (by omega) (by first | assumption | exact Nat.le_of_ble_eq_true rfl | simp [ByteArray.size])).mono ?_; clear c0 c3 c4 c5 c6 hL hleft hprz hpmz; rintro e wn ⟨rfl, hm, hk⟩; replace HK := zA0 (HK.out.trans hk); replace HM := zA0 hm; obtain ⟨c0, c3, c4, c5, c6, hL, hleft, hprz, hpmz⟩ := hm.read2; clear hm hk)
  | (go_at_call 195; refine (zCs B pr pm _ _ _ _ _ _ _ HM.out (by omega)).mono ?_; clear c0 c3 c4 c5 c6 hL hleft hprz hpmz; rintro e wn ⟨rfl, hm, hk⟩; replace HK := zA0 (HK.out.trans hk); replace HM := zA0 hm; obtain ⟨c0, c3, c4, c5, c6, hL, hleft, hprz, hpmz⟩ := hm.read2; clear hm hk)
  | (go_at_call 196; refine (zCt B pr pm _ _ _ _ _ _ HM.out (by omega)).mono ?_; clear c0 c3 c4 c5 c6 hL hleft hprz hpmz; rintro e wn ⟨rfl, hm, hk⟩; replace HK := zA0 (HK.out.trans hk); replace HM := zA0 hm; obtain ⟨c0, c3, c4, c5, c6, hL, hleft, hprz, hpmz⟩ := hm.read2; clear hm hk)
  | (go_at_call 194; refine (zBp B pr pm _ _ _ _ _ HM.out (by omega)).mono ?_; clear c0 c3 c4 c5 c6 hL hleft hprz hpmz; rintro e wn ⟨rfl, hm, hk⟩; replace HK := zA0 (HK.out.trans hk); replace HM := zA0 hm; obtain ⟨c0, c3, c4, c5, c6, hL, hleft, hprz, hpmz⟩ := hm.read2; clear hm hk)
  | (go_at_call 100; (with_reducible show Calls Tryz.prog 100 #[_, Value.int IntKind.i64 1] _ _); refine (S1.out _ _ _ _ _ _ _ HM.out (by omega)).mono ?_; clear c0 c3 c4 c5 c6 hL hleft hprz hpmz; rintro e wn ⟨rfl, σn, hr, hm, hk⟩; replace HK := zA0 (HK.out.trans hk); replace HM := zA0 hm; obtain ⟨c0, c3, c4, c5, c6, hL, hleft, hprz, hpmz⟩ := hm.read2; clear hm hk)
  | (go_at_call 100; (with_reducible show Calls Tryz.prog 100 #[_, Value.int IntKind.i64 2] _ _); refine (S2.out _ _ _ _ _ _ _ HM.out (by omega)).mono ?_; clear c0 c3 c4 c5 c6 hL hleft hprz hpmz; rintro e wn ⟨rfl, σn, hr, hm, hk⟩; replace HK := zA0 (HK.out.trans hk); replace HM := zA0 hm; obtain ⟨c0, c3, c4, c5, c6, hL, hleft, hprz, hpmz⟩ := hm.read2; clear hm hk))
 obtain ⟨s, HP, HB, hsg⟩ := HM.out
 have HSG := zA0 hsg
 have cx := zA1 HP.blk 7 rfl
 have f0 := zAa HP.blk
 have hz := HP.lt
 have hln := HB.hn
 have HPL := zA0 (fun v1 w1 hg ho => HP.putH (o := .cells (trow ⟨(σ.labels : Int), (σ.mark.labels : Int), (σ.mark.mark.labels : Int)⟩).toArray 190) (v1 := v1) (w1 := w1) (x := ⟨(σ.labels : Int), (σ.mark.labels : Int), (σ.mark.mark.labels : Int)⟩) hg ho)
 have hOl := HP.h
 obtain ⟨aol, capl, el⟩ := zA4 HP.h
 have HEL := zA0 el
 change _ = some s.vh at cx
 rw [el] at cx
 have HBB := zA0 HB
 have HPP := zA0 HP
 clear HP HB el hsg
 go_upto_region 13 with (at_builtin; refine zKw rfl _ _ rfl B (.slice aol s.hs.length capl) _ _ ⟨(σ.labels : Int), (σ.mark.labels : Int), (σ.mark.mark.labels : Int)⟩ rfl (by rw [← HEL.out]; exact hOl) rfl (by omega) (by omega) ?_; intro v1 w1 ho1 hg1; obtain ⟨ao1, cap1, rfl⟩ := zA4 ho1; obtain ⟨hb1, HP1, K1⟩ := HPL.out _ w1 (by rw [HEL.out]; exact hg1) ho1; have qf := zAa hb1; have q8 := zA1 hb1 7 (v := s.vh) rfl; have HP2 := zA0 HP1; have HK2 := zA0 (HK.out.trans K1); clear HP1 K1 HK hb1)
 have HM2 := zA0 (Mk.ofH HP2.out HBB.out HSG.out)
 have HK := HK2
 clear HM HK2 HP2 HPL HEL qf q8 hOl HPP HSG cx f0 hln hz c0 c3 c4 c5 c6 hL hleft hprz hpmz
 have HM := HM2
 clear HM2
 obtain ⟨c0, c3, c4, c5, c6, hL, hleft⟩ := HM.out.read
 have hprz := HM.out.pr_lt
 have hpmz := HM.out.pm_lt
 go_upto_region 14 with (first
  | (go_at_call 55; refine (zA6 B pr pm _ _ _ _ _ _ HM.out (by omega) (by omega)).mono ?_; clear c0 c3 c4 c5 c6 hL hleft hprz hpmz; rintro e wn ⟨⟨x, hx, rfl⟩, hm, hk, -⟩; replace HK := zA0 (HK.out.trans hk); replace HM := zA0 hm; obtain ⟨c0, c3, c4, c5, c6, hL, hleft, hprz, hpmz⟩ := hm.read2; clear hm hk)
  | (go_at_call 98; refine (zAf B pr pm _ _ _ _ _ _ _ _ HM.out (by omega)).mono ?_; clear c0 c3 c4 c5 c6 hL hleft hprz hpmz; rintro e wn ⟨rfl, hm, hk⟩; replace HK := zA0 (HK.out.trans hk); replace HM := zA0 hm; obtain ⟨c0, c3, c4, c5, c6, hL, hleft, hprz, hpmz⟩ := hm.read2; clear hm hk)
  | (go_at_call 140; refine (zAy B pr pm _ _ _ _ _ _ _ _ HM.out (by omega) (by first | assumption | exact Nat.le_of_ble_eq_true rfl | simp [ByteArray.size]) (by first | assumption | exact Nat.le_of_ble_eq_true rfl | simp [ByteArray.size]) (by first | assumption | exact Nat.le_of_ble_eq_true rfl | simp [ByteArray.size])).mono ?_; clear c0 c3 c4 c5 c6 hL hleft hprz hpmz; rintro e wn ⟨rfl, hm, hk⟩; replace HK := zA0 (HK.out.trans hk); replace HM := zA0 hm; obtain ⟨c0, c3, c4, c5, c6, hL, hleft, hprz, hpmz⟩ := hm.read2; clear hm hk)
  | (go_at_call 141; (with_reducible show Calls Tryz.prog 141 _ (World.alloc _ _) _); refine (zAh B pr pm _ _ _ _ _ _ _ _ (HM.out.below (zA2 _ _)) (by omega) (by first | assumption | exact Nat.le_of_ble_eq_true rfl | simp [ByteArray.size]) (by first | assumption | exact Nat.le_of_ble_eq_true rfl | simp [ByteArray.size]) (by first | assumption | exact Nat.le_of_ble_eq_true rfl | simp [ByteArray.size])).mono ?_; clear c0 c3 c4 c5 c6 hL hleft hprz hpmz; rintro e wn ⟨rfl, hm, hk0⟩; have hk := (HM.out.kq (zA2 _ _)).trans hk0; clear hk0; replace HK := zA0 (HK.out.trans hk); replace HM := zA0 hm; obtain ⟨c0, c3, c4, c5, c6, hL, hleft, hprz, hpmz⟩ := hm.read2; clear hm hk)
  | (go_at_call 141; refine (zAh B pr pm _ _ _ _ _ _ _ _ HM.out (by omega) (by first | assumption | exact Nat.le_of_ble_eq_true rfl | simp [ByteArray.size]) (by first | assumption | exact Nat.le_of_ble_eq_true rfl | simp [ByteArray.size]) (by first | assumption | exact Nat.le_of_ble_eq_true rfl | simp [ByteArray.size])).mono ?_; clear c0 c3 c4 c5 c6 hL hleft hprz hpmz; rintro e wn ⟨rfl, hm, hk⟩; replace HK := zA0 (HK.out.trans hk); replace HM := zA0 hm; obtain ⟨c0, c3, c4, c5, c6, hL, hleft, hprz, hpmz⟩ := hm.read2; clear hm hk)
  | (go_at_call 142; refine (zBf B pr pm _ _ _ _ _ _ HM.out (by omega) (by first | assumption | exact Nat.le_of_ble_eq_true rfl | simp [ByteArray.size])).mono ?_; clear c0 c3 c4 c5 c6 hL hleft hprz hpmz; rintro e wn ⟨rfl, hm, hk⟩; replace HK := zA0 (HK.out.trans hk); replace HM := zA0 hm; obtain ⟨c0, c3, c4, c5, c6, hL, hleft, hprz, hpmz⟩ := hm.read2; clear hm hk)
  | (go_at_call 195; refine (zCs B pr pm _ _ _ _ _ _ _ HM.out (by omega)).mono ?_; clear c0 c3 c4 c5 c6 hL hleft hprz hpmz; rintro e wn ⟨rfl, hm, hk⟩; replace HK := zA0 (HK.out.trans hk); replace HM := zA0 hm; obtain ⟨c0, c3, c4, c5, c6, hL, hleft, hprz, hpmz⟩ := hm.read2; clear hm hk)
  | (go_at_call 196; refine (zCt B pr pm _ _ _ _ _ _ HM.out (by omega)).mono ?_; clear c0 c3 c4 c5 c6 hL hleft hprz hpmz; rintro e wn ⟨rfl, hm, hk⟩; replace HK := zA0 (HK.out.trans hk); replace HM := zA0 hm; obtain ⟨c0, c3, c4, c5, c6, hL, hleft, hprz, hpmz⟩ := hm.read2; clear hm hk)
  | (go_at_call 194; refine (zBp B pr pm _ _ _ _ _ HM.out (by omega)).mono ?_; clear c0 c3 c4 c5 c6 hL hleft hprz hpmz; rintro e wn ⟨rfl, hm, hk⟩; replace HK := zA0 (HK.out.trans hk); replace HM := zA0 hm; obtain ⟨c0, c3, c4, c5, c6, hL, hleft, hprz, hpmz⟩ := hm.read2; clear hm hk)
  | (go_at_call 100; (with_reducible show Calls Tryz.prog 100 #[_, Value.int IntKind.i64 1] _ _); refine (S1.out _ _ _ _ _ _ _ HM.out (by omega)).mono ?_; clear c0 c3 c4 c5 c6 hL hleft hprz hpmz; rintro e wn ⟨rfl, σn, hr, hm, hk⟩; replace HK := zA0 (HK.out.trans hk); replace HM := zA0 hm; obtain ⟨c0, c3, c4, c5, c6, hL, hleft, hprz, hpmz⟩ := hm.read2; clear hm hk)
  | (go_at_call 100; (with_reducible show Calls Tryz.prog 100 #[_, Value.int IntKind.i64 2] _ _); refine (S2.out _ _ _ _ _ _ _ HM.out (by omega)).mono ?_; clear c0 c3 c4 c5 c6 hL hleft hprz hpmz; rintro e wn ⟨rfl, σn, hr, hm, hk⟩; replace HK := zA0 (HK.out.trans hk); replace HM := zA0 hm; obtain ⟨c0, c3, c4, c5, c6, hL, hleft, hprz, hpmz⟩ := hm.read2; clear hm hk))
 go_wp2_with (first
  | (go_at_call 55; refine (zA6 B pr pm _ _ _ _ _ _ HM.out (by omega) (by omega)).mono ?_; clear c0 c3 c4 c5 c6 hL hleft hprz hpmz; rintro e wn ⟨⟨x, hx, rfl⟩, hm, hk, -⟩; replace HK := zA0 (HK.out.trans hk); replace HM := zA0 hm; obtain ⟨c0, c3, c4, c5, c6, hL, hleft, hprz, hpmz⟩ := hm.read2; clear hm hk)
  | (go_at_call 98; refine (zAf B pr pm _ _ _ _ _ _ _ _ HM.out (by omega)).mono ?_; clear c0 c3 c4 c5 c6 hL hleft hprz hpmz; rintro e wn ⟨rfl, hm, hk⟩; replace HK := zA0 (HK.out.trans hk); replace HM := zA0 hm; obtain ⟨c0, c3, c4, c5, c6, hL, hleft, hprz, hpmz⟩ := hm.read2; clear hm hk)
  | (go_at_call 140; refine (zAy B pr pm _ _ _ _ _ _ _ _ HM.out (by omega) (by first | assumption | exact Nat.le_of_ble_eq_true rfl | simp [ByteArray.size]) (by first | assumption | exact Nat.le_of_ble_eq_true rfl | simp [ByteArray.size]) (by first | assumption | exact Nat.le_of_ble_eq_true rfl | simp [ByteArray.size])).mono ?_; clear c0 c3 c4 c5 c6 hL hleft hprz hpmz; rintro e wn ⟨rfl, hm, hk⟩; replace HK := zA0 (HK.out.trans hk); replace HM := zA0 hm; obtain ⟨c0, c3, c4, c5, c6, hL, hleft, hprz, hpmz⟩ := hm.read2; clear hm hk)
  | (go_at_call 141; (with_reducible show Calls Tryz.prog 141 _ (World.alloc _ _) _); refine (zAh B pr pm _ _ _ _ _ _ _ _ (HM.out.below (zA2 _ _)) (by omega) (by first | assumption | exact Nat.le_of_ble_eq_true rfl | simp [ByteArray.size]) (by first | assumption | exact Nat.le_of_ble_eq_true rfl | simp [ByteArray.size]) (by first | assumption | exact Nat.le_of_ble_eq_true rfl | simp [ByteArray.size])).mono ?_; clear c0 c3 c4 c5 c6 hL hleft hprz hpmz; rintro e wn ⟨rfl, hm, hk0⟩; have hk := (HM.out.kq (zA2 _ _)).trans hk0; clear hk0; replace HK := zA0 (HK.out.trans hk); replace HM := zA0 hm; obtain ⟨c0, c3, c4, c5, c6, hL, hleft, hprz, hpmz⟩ := hm.read2; clear hm hk)
  | (go_at_call 141; refine (zAh B pr pm _ _ _ _ _ _ _ _ HM.out (by omega) (by first | assumption | exact Nat.le_of_ble_eq_true rfl | simp [ByteArray.size]) (by first | assumption | exact Nat.le_of_ble_eq_true rfl | simp [ByteArray.size]) (by first | assumption | exact Nat.le_of_ble_eq_true rfl | simp [ByteArray.size])).mono ?_; clear c0 c3 c4 c5 c6 hL hleft hprz hpmz; rintro e wn ⟨rfl, hm, hk⟩; replace HK := zA0 (HK.out.trans hk); replace HM := zA0 hm; obtain ⟨c0, c3, c4, c5, c6, hL, hleft, hprz, hpmz⟩ := hm.read2; clear hm hk)
  | (go_at_call 142; refine (zBf B pr pm _ _ _ _ _ _ HM.out (by omega) (by first | assumption | exact Nat.le_of_ble_eq_true rfl | simp [ByteArray.size])).mono ?_; clear c0 c3 c4 c5 c6 hL hleft hprz hpmz; rintro e wn ⟨rfl, hm, hk⟩; replace HK := zA0 (HK.out.trans hk); replace HM := zA0 hm; obtain ⟨c0, c3, c4, c5, c6, hL, hleft, hprz, hpmz⟩ := hm.read2; clear hm hk)
  | (go_at_call 195; refine (zCs B pr pm _ _ _ _ _ _ _ HM.out (by omega)).mono ?_; clear c0 c3 c4 c5 c6 hL hleft hprz hpmz; rintro e wn ⟨rfl, hm, hk⟩; replace HK := zA0 (HK.out.trans hk); replace HM := zA0 hm; obtain ⟨c0, c3, c4, c5, c6, hL, hleft, hprz, hpmz⟩ := hm.read2; clear hm hk)
  | (go_at_call 196; refine (zCt B pr pm _ _ _ _ _ _ HM.out (by omega)).mono ?_; clear c0 c3 c4 c5 c6 hL hleft hprz hpmz; rintro e wn ⟨rfl, hm, hk⟩; replace HK := zA0 (HK.out.trans hk); replace HM := zA0 hm; obtain ⟨c0, c3, c4, c5, c6, hL, hleft, hprz, hpmz⟩ := hm.read2; clear hm hk)
  | (go_at_call 194; refine (zBp B pr pm _ _ _ _ _ HM.out (by omega)).mono ?_; clear c0 c3 c4 c5 c6 hL hleft hprz hpmz; rintro e wn ⟨rfl, hm, hk⟩; replace HK := zA0 (HK.out.trans hk); replace HM := zA0 hm; obtain ⟨c0, c3, c4, c5, c6, hL, hleft, hprz, hpmz⟩ := hm.read2; clear hm hk)
  | (go_at_call 100; (with_reducible show Calls Tryz.prog 100 #[_, Value.int IntKind.i64 1] _ _); refine (S1.out _ _ _ _ _ _ _ HM.out (by omega)).mono ?_; clear c0 c3 c4 c5 c6 hL hleft hprz hpmz; rintro e wn ⟨rfl, σn, hr, hm, hk⟩; replace HK := zA0 (HK.out.trans hk); replace HM := zA0 hm; obtain ⟨c0, c3, c4, c5, c6, hL, hleft, hprz, hpmz⟩ := hm.read2; clear hm hk)
  | (go_at_call 100; (with_reducible show Calls Tryz.prog 100 #[_, Value.int IntKind.i64 2] _ _); refine (S2.out _ _ _ _ _ _ _ HM.out (by omega)).mono ?_; clear c0 c3 c4 c5 c6 hL hleft hprz hpmz; rintro e wn ⟨rfl, σn, hr, hm, hk⟩; replace HK := zA0 (HK.out.trans hk); replace HM := zA0 hm; obtain ⟨c0, c3, c4, c5, c6, hL, hleft, hprz, hpmz⟩ := hm.read2; clear hm hk))
 all_goals
  go_end0
  refine ⟨rfl, _, ?_, HM.out.mono (by omega), HK.out⟩
  first | exact Tr.t0 (by assumption) (by assumption) | exact Tr.t1 (by assumption) (by assumption)
theorem zPv (hs : Nums) (d c : Nat) (h1 : zFy d 1 c) (h2 : zFy d 2 (2 * c)) (B pr pm n : Nat) (pl : Bool) (σ : SG) (w : World) (h : Mk B pr pm n d pl σ w) (hn : n + 2 * c + 40 ≤ 700000) :
 Calls Tryz.prog 160 #[.pointer (some ⟨pm, 0, none⟩)] w fun e w' => e = .returned (.tuple #[]) ∧ ∃ σ', Lp d pl σ σ' ∧ Mk B pr pm (n + 2 * c + 40) d pl σ' w' ∧ Kq B pr w w' := by
 have N1 := zA0 hs.n1
 have N2 := zA0 hs.n2
 have R1 := zA0 hs.r1
 have R2 := zA0 hs.r2
 have S1 := zA0 h1
 have S2 := zA0 h2
 clear h1 h2
 have HM := zA0 h
 have HK := zA0 (Kq.refl B pr w)
 obtain ⟨c0, c3, c4, c5, c6, hL, hleft⟩ := h.read
 have hprz := h.pr_lt
 have hpmz := h.pm_lt
 clear h hs
 go_enter Tryz.func160, Tryz.ntmps160
 go_wp2_with (first
  | (go_at_call 55; refine (zA6 B pr pm _ _ _ _ _ _ HM.out (by omega) (by omega)).mono ?_; clear c0 c3 c4 c5 c6 hL hleft hprz hpmz; rintro e wn ⟨⟨x, hx, rfl⟩, hm, hk, -⟩; replace HK := zA0 (HK.out.trans hk); replace HM := zA0 hm; obtain ⟨c0, c3, c4, c5, c6, hL, hleft, hprz, hpmz⟩ := hm.read2; clear hm hk)
  | (go_at_call 98; refine (zAf B pr pm _ _ _ _ _ _ _ _ HM.out (by omega)).mono ?_; clear c0 c3 c4 c5 c6 hL hleft hprz hpmz; rintro e wn ⟨rfl, hm, hk⟩; replace HK := zA0 (HK.out.trans hk); replace HM := zA0 hm; obtain ⟨c0, c3, c4, c5, c6, hL, hleft, hprz, hpmz⟩ := hm.read2; clear hm hk)
  | (go_at_call 140; refine (zAy B pr pm _ _ _ _ _ _ _ _ HM.out (by omega) (by first | assumption | exact Nat.le_of_ble_eq_true rfl | simp [ByteArray.size]) (by first | assumption | exact Nat.le_of_ble_eq_true rfl | simp [ByteArray.size]) (by first | assumption | exact Nat.le_of_ble_eq_true rfl | simp [ByteArray.size])).mono ?_; clear c0 c3 c4 c5 c6 hL hleft hprz hpmz; rintro e wn ⟨rfl, hm, hk⟩; replace HK := zA0 (HK.out.trans hk); replace HM := zA0 hm; obtain ⟨c0, c3, c4, c5, c6, hL, hleft, hprz, hpmz⟩ := hm.read2; clear hm hk)
  | (go_at_call 141; (with_reducible show Calls Tryz.prog 141 _ (World.alloc _ _) _); refine (zAh B pr pm _ _ _ _ _ _ _ _ (HM.out.below (zA2 _ _)) (by omega) (by first | assumption | exact Nat.le_of_ble_eq_true rfl | simp [ByteArray.size]) (by first | assumption | exact Nat.le_of_ble_eq_true rfl | simp [ByteArray.size]) (by first | assumption | exact Nat.le_of_ble_eq_true rfl | simp [ByteArray.size])).mono ?_; clear c0 c3 c4 c5 c6 hL hleft hprz hpmz; rintro e wn ⟨rfl, hm, hk0⟩; have hk := (HM.out.kq (zA2 _ _)).trans hk0; clear hk0; replace HK := zA0 (HK.out.trans hk); replace HM := zA0 hm; obtain ⟨c0, c3, c4, c5, c6, hL, hleft, hprz, hpmz⟩ := hm.read2; clear hm hk)
  | (go_at_call 141; refine (zAh B pr pm _ _ _ _ _ _ _ _ HM.out (by omega) (by first | assumption | exact Nat.le_of_ble_eq_true rfl | simp [ByteArray.size]) (by first | assumption | exact Nat.le_of_ble_eq_true rfl | simp [ByteArray.size]) (by first | assumption | exact Nat.le_of_ble_eq_true rfl | simp [ByteArray.size])).mono ?_; clear c0 c3 c4 c5 c6 hL hleft hprz hpmz; rintro e wn ⟨rfl, hm, hk⟩; replace HK := zA0 (HK.out.trans hk); replace HM := zA0 hm; obtain ⟨c0, c3, c4, c5, c6, hL, hleft, hprz, hpmz⟩ := hm.read2; clear hm hk)
  | (go_at_call 142; refine (zBf B pr pm _ _ _ _ _ _ HM.out (by omega) (by first | assumption | exact Nat.le_of_ble_eq_true rfl | simp [ByteArray.size])).mono ?_; clear c0 c3 c4 c5 c6 hL hleft hprz hpmz; rintro e wn ⟨rfl, hm, hk⟩; replace HK := zA0 (HK.out.trans hk); replace HM := zA0 hm; obtain ⟨c0, c3, c4, c5, c6, hL, hleft, hprz, hpmz⟩ := hm.read2; clear hm hk)
  | (go_at_call 195; refine (zCs B pr pm _ _ _ _ _ _ _ HM.out (by omega)).mono ?_; clear c0 c3 c4 c5 c6 hL hleft hprz hpmz; rintro e wn ⟨rfl, hm, hk⟩; replace HK := zA0 (HK.out.trans hk); replace HM := zA0 hm; obtain ⟨c0, c3, c4, c5, c6, hL, hleft, hprz, hpmz⟩ := hm.read2; clear hm hk)
  | (go_at_call 196; refine (zCt B pr pm _ _ _ _ _ _ HM.out (by omega)).mono ?_; clear c0 c3 c4 c5 c6 hL hleft hprz hpmz; rintro e wn ⟨rfl, hm, hk⟩; replace HK := zA0 (HK.out.trans hk); replace HM := zA0 hm; obtain ⟨c0, c3, c4, c5, c6, hL, hleft, hprz, hpmz⟩ := hm.read2; clear hm hk)
  | (go_at_call 194; refine (zBp B pr pm _ _ _ _ _ HM.out (by omega)).mono ?_; clear c0 c3 c4 c5 c6 hL hleft hprz hpmz; rintro e wn ⟨rfl, hm, hk⟩; replace HK := zA0 (HK.out.trans hk); replace HM := zA0 hm; obtain ⟨c0, c3, c4, c5, c6, hL, hleft, hprz, hpmz⟩ := hm.read2; clear hm hk)
  | (go_at_call 100; (with_reducible show Calls Tryz.prog 100 #[_, Value.int IntKind.i64 1] _ _); refine (S1.out _ _ _ _ _ _ _ HM.out (by omega)).mono ?_; clear c0 c3 c4 c5 c6 hL hleft hprz hpmz; rintro e wn ⟨rfl, σn, hr, hm, hk⟩; replace HK := zA0 (HK.out.trans hk); replace HM := zA0 hm; obtain ⟨c0, c3, c4, c5, c6, hL, hleft, hprz, hpmz⟩ := hm.read2; clear hm hk)
  | (go_at_call 100; (with_reducible show Calls Tryz.prog 100 #[_, Value.int IntKind.i64 2] _ _); refine (S2.out _ _ _ _ _ _ _ HM.out (by omega)).mono ?_; clear c0 c3 c4 c5 c6 hL hleft hprz hpmz; rintro e wn ⟨rfl, σn, hr, hm, hk⟩; replace HK := zA0 (HK.out.trans hk); replace HM := zA0 hm; obtain ⟨c0, c3, c4, c5, c6, hL, hleft, hprz, hpmz⟩ := hm.read2; clear hm hk))
 go_end0
 refine ⟨rfl, _, ?_, HM.out.mono (by omega), HK.out⟩
 exact Lp.mk _ _ (by omega) (by omega) hr
end Go.Proofs.YtpehimfnkmepnaaGreat.M
