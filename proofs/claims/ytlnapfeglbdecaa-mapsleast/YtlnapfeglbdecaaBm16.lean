/- Texts ML MJloop MJarrays MJthreads. -/
import Derived.Test.YtlnapfeglbdecaaBm15
namespace Go.Proofs.Ytlnapfeglbdecaa.M
open Go.RowKit
theorem Mk.ofT {B pr pm n d : Nat} {pl : Bool} {σ : SG} {s : MS} {w : World} {v : Value} {x : Int} (h1 : MkP B pr pm { s with vt := v, ts := s.ts ++ [x] } w) (h : MkB n d pl s) (h3 : s.sg = σ) : Mk B pr pm (n + 1) d pl (σ.caught x) w :=
  ⟨_, h1, ⟨h.dep, h.pln, by have := h.lb; simp only; omega, by have := h.ln; simp only; omega, by have := h.pn; simp only; omega, by have := h.hn; simp only; omega, by have := h.tn; simp; omega, by have := h.l0; simp only; omega, h.l1, h.small⟩, by rw [← h3]; rfl⟩
theorem Mk.ofH {B pr pm n d : Nat} {pl : Bool} {σ : SG} {s : MS} {w : World} {v : Value} {x : TR} (h1 : MkP B pr pm { s with vh := v, hs := s.hs ++ [x] } w) (h : MkB n d pl s) (h3 : s.sg = σ) : Mk B pr pm (n + 1) d pl (σ.tried x) w :=
  ⟨_, h1, ⟨h.dep, h.pln, by have := h.lb; simp only; omega, by have := h.ln; simp only; omega, by have := h.pn; simp only; omega, by have := h.hn; simp; omega, by have := h.tn; simp only; omega, by have := h.l0; simp only; omega, h.l1, h.small⟩, by rw [← h3]; rfl⟩
set_option maxRecDepth 8000 in
set_option maxHeartbeats 40000000 in
theorem try_any (hs : Nums) (d c : Nat) (h1 : SomeL d 1 c) (h2 : SomeL d 2 (2 * c)) (B pr pm n : Nat) (pl : Bool) (σ : SG) (w : World) (h : Mk B pr pm n d pl σ w) (hn : n + 3 * c + 40 ≤ 700000) :
    Calls Try.prog 59 #[.pointer (some ⟨pm, 0, none⟩)] w fun e w' => e = .returned (.tuple #[]) ∧ ∃ σ', Tr d pl σ σ' ∧ Mk B pr pm (n + 3 * c + 40) d pl σ' w' ∧ Kq B pr w w' := by
  have N1 := hidIt hs.n1
  have N2 := hidIt hs.n2
  have R1 := hidIt hs.r1
  have R2 := hidIt hs.r2
  have S1 := hidIt h1
  have S2 := hidIt h2
  clear h1 h2
  have HM := hidIt h
  have HK := hidIt (Kq.refl B pr w)
  obtain ⟨c0, c3, c4, c5, c6, hL, hleft⟩ := h.read
  have hprz := h.pr_lt
  have hpmz := h.pm_lt
  clear h hs
  go_enter Try.func59, Try.ntmps59
  go_upto_region 1 with (go_at_call 67; refine (mark_any B pr pm _ _ _ _ _ HM.out (by omega)).mono ?_; clear c0 c3 c4 c5 c6 hL hleft hprz hpmz; rintro e wn ⟨rfl, hm, hk⟩; replace HK := hidIt (HK.out.trans hk); replace HM := hidIt hm; obtain ⟨c0, c3, c4, c5, c6, hL, hleft, hprz, hpmz⟩ := hm.read2; clear hm hk)
  go_upto_region 2 with (go_at_call 67; refine (mark_any B pr pm _ _ _ _ _ HM.out (by omega)).mono ?_; clear c0 c3 c4 c5 c6 hL hleft hprz hpmz; rintro e wn ⟨rfl, hm, hk⟩; replace HK := hidIt (HK.out.trans hk); replace HM := hidIt hm; obtain ⟨c0, c3, c4, c5, c6, hL, hleft, hprz, hpmz⟩ := hm.read2; clear hm hk)
  go_upto_region 3 with (go_at_call 67; refine (mark_any B pr pm _ _ _ _ _ HM.out (by omega)).mono ?_; clear c0 c3 c4 c5 c6 hL hleft hprz hpmz; rintro e wn ⟨rfl, hm, hk⟩; replace HK := hidIt (HK.out.trans hk); replace HM := hidIt hm; obtain ⟨c0, c3, c4, c5, c6, hL, hleft, hprz, hpmz⟩ := hm.read2; clear hm hk)
  go_upto_region 4 with (go_at_call 67; refine (mark_any B pr pm _ _ _ _ _ HM.out (by omega)).mono ?_; clear c0 c3 c4 c5 c6 hL hleft hprz hpmz; rintro e wn ⟨rfl, hm, hk⟩; replace HK := hidIt (HK.out.trans hk); replace HM := hidIt hm; obtain ⟨c0, c3, c4, c5, c6, hL, hleft, hprz, hpmz⟩ := hm.read2; clear hm hk)
  go_upto_region 10 with (first
      | (go_at_call 17; refine (take_int B pr pm _ _ _ _ _ _ HM.out (by omega) (by omega)).mono ?_; clear c0 c3 c4 c5 c6 hL hleft hprz hpmz; rintro e wn ⟨⟨x, hx, rfl⟩, hm, hk, -⟩; replace HK := hidIt (HK.out.trans hk); replace HM := hidIt hm; obtain ⟨c0, c3, c4, c5, c6, hL, hleft, hprz, hpmz⟩ := hm.read2; clear hm hk)
      | (go_at_call 27; refine (put_any B pr pm _ _ _ _ _ _ _ _ HM.out (by omega)).mono ?_; clear c0 c3 c4 c5 c6 hL hleft hprz hpmz; rintro e wn ⟨rfl, hm, hk⟩; replace HK := hidIt (HK.out.trans hk); replace HM := hidIt hm; obtain ⟨c0, c3, c4, c5, c6, hL, hleft, hprz, hpmz⟩ := hm.read2; clear hm hk)
      | (go_at_call 42; refine (field_any B pr pm _ _ _ _ _ _ _ _ HM.out (by omega) (by first | assumption | exact Nat.le_of_ble_eq_true rfl | simp [ByteArray.size]) (by first | assumption | exact Nat.le_of_ble_eq_true rfl | simp [ByteArray.size]) (by first | assumption | exact Nat.le_of_ble_eq_true rfl | simp [ByteArray.size])).mono ?_; clear c0 c3 c4 c5 c6 hL hleft hprz hpmz; rintro e wn ⟨rfl, hm, hk⟩; replace HK := hidIt (HK.out.trans hk); replace HM := hidIt hm; obtain ⟨c0, c3, c4, c5, c6, hL, hleft, hprz, hpmz⟩ := hm.read2; clear hm hk)
      | (go_at_call 43; (with_reducible show Calls Try.prog 43 _ (World.alloc _ _) _); refine (method_any B pr pm _ _ _ _ _ _ _ _ (HM.out.below (below_alloc _ _)) (by omega) (by first | assumption | exact Nat.le_of_ble_eq_true rfl | simp [ByteArray.size]) (by first | assumption | exact Nat.le_of_ble_eq_true rfl | simp [ByteArray.size]) (by first | assumption | exact Nat.le_of_ble_eq_true rfl | simp [ByteArray.size])).mono ?_; clear c0 c3 c4 c5 c6 hL hleft hprz hpmz; rintro e wn ⟨rfl, hm, hk0⟩; have hk := (HM.out.kq (below_alloc _ _)).trans hk0; clear hk0; replace HK := hidIt (HK.out.trans hk); replace HM := hidIt hm; obtain ⟨c0, c3, c4, c5, c6, hL, hleft, hprz, hpmz⟩ := hm.read2; clear hm hk)
      | (go_at_call 43; refine (method_any B pr pm _ _ _ _ _ _ _ _ HM.out (by omega) (by first | assumption | exact Nat.le_of_ble_eq_true rfl | simp [ByteArray.size]) (by first | assumption | exact Nat.le_of_ble_eq_true rfl | simp [ByteArray.size]) (by first | assumption | exact Nat.le_of_ble_eq_true rfl | simp [ByteArray.size])).mono ?_; clear c0 c3 c4 c5 c6 hL hleft hprz hpmz; rintro e wn ⟨rfl, hm, hk⟩; replace HK := hidIt (HK.out.trans hk); replace HM := hidIt hm; obtain ⟨c0, c3, c4, c5, c6, hL, hleft, hprz, hpmz⟩ := hm.read2; clear hm hk)
      | (go_at_call 44; refine (class_any B pr pm _ _ _ _ _ _ HM.out (by omega) (by first | assumption | exact Nat.le_of_ble_eq_true rfl | simp [ByteArray.size])).mono ?_; clear c0 c3 c4 c5 c6 hL hleft hprz hpmz; rintro e wn ⟨rfl, hm, hk⟩; replace HK := hidIt (HK.out.trans hk); replace HM := hidIt hm; obtain ⟨c0, c3, c4, c5, c6, hL, hleft, hprz, hpmz⟩ := hm.read2; clear hm hk)
      | (go_at_call 68; refine (jump_any B pr pm _ _ _ _ _ _ _ HM.out (by omega)).mono ?_; clear c0 c3 c4 c5 c6 hL hleft hprz hpmz; rintro e wn ⟨rfl, hm, hk⟩; replace HK := hidIt (HK.out.trans hk); replace HM := hidIt hm; obtain ⟨c0, c3, c4, c5, c6, hL, hleft, hprz, hpmz⟩ := hm.read2; clear hm hk)
      | (go_at_call 69; refine (here_any B pr pm _ _ _ _ _ _ HM.out (by omega)).mono ?_; clear c0 c3 c4 c5 c6 hL hleft hprz hpmz; rintro e wn ⟨rfl, hm, hk⟩; replace HK := hidIt (HK.out.trans hk); replace HM := hidIt hm; obtain ⟨c0, c3, c4, c5, c6, hL, hleft, hprz, hpmz⟩ := hm.read2; clear hm hk)
      | (go_at_call 67; refine (mark_any B pr pm _ _ _ _ _ HM.out (by omega)).mono ?_; clear c0 c3 c4 c5 c6 hL hleft hprz hpmz; rintro e wn ⟨rfl, hm, hk⟩; replace HK := hidIt (HK.out.trans hk); replace HM := hidIt hm; obtain ⟨c0, c3, c4, c5, c6, hL, hleft, hprz, hpmz⟩ := hm.read2; clear hm hk)
      | (go_at_call 29; (with_reducible show Calls Try.prog 29 #[_, Value.int IntKind.i64 1] _ _); refine (S1.out _ _ _ _ _ _ _ HM.out (by omega)).mono ?_; clear c0 c3 c4 c5 c6 hL hleft hprz hpmz; rintro e wn ⟨rfl, σn, hr, hm, hk⟩; replace HK := hidIt (HK.out.trans hk); replace HM := hidIt hm; obtain ⟨c0, c3, c4, c5, c6, hL, hleft, hprz, hpmz⟩ := hm.read2; clear hm hk)
      | (go_at_call 29; (with_reducible show Calls Try.prog 29 #[_, Value.int IntKind.i64 2] _ _); refine (S2.out _ _ _ _ _ _ _ HM.out (by omega)).mono ?_; clear c0 c3 c4 c5 c6 hL hleft hprz hpmz; rintro e wn ⟨rfl, σn, hr, hm, hk⟩; replace HK := hidIt (HK.out.trans hk); replace HM := hidIt hm; obtain ⟨c0, c3, c4, c5, c6, hL, hleft, hprz, hpmz⟩ := hm.read2; clear hm hk))
  obtain ⟨s, HP, HB, hsg⟩ := HM.out
  have HSG := hidIt hsg
  have cx := cell_row HP.blk 8 rfl
  have f0 := frozen_row HP.blk
  have hz := HP.lt
  have hln := HB.tn
  have HPL := hidIt (fun v1 w1 hg ho => HP.putT (o := .cells ([Value.int .i64 (σ.mark.mark.labels : Int)]).toArray 3) (v1 := v1) (w1 := w1) (x := (σ.mark.mark.labels : Int)) hg ho)
  have hOl := HP.t
  obtain ⟨aol, capl, el⟩ := own_slice HP.t
  have HEL := hidIt el
  change _ = some s.vt at cx
  rw [el] at cx
  have HBB := hidIt HB
  have HPP := hidIt HP
  clear HP HB el hsg
  go_upto_region 11 with (at_builtin; refine putT_append rfl _ _ rfl B (.slice aol s.ts.length capl) _ _ (σ.mark.mark.labels : Int) rfl (by rw [← HEL.out]; exact hOl) rfl (by omega) (by omega) ?_; intro v1 w1 ho1 hg1; obtain ⟨ao1, cap1, rfl⟩ := own_slice ho1; obtain ⟨hb1, HP1, K1⟩ := HPL.out _ w1 (by rw [HEL.out]; exact hg1) ho1; have qf := frozen_row hb1; have q8 := cell_row hb1 8 (v := s.vt) rfl; have HP2 := hidIt HP1; have HK2 := hidIt (HK.out.trans K1); clear HP1 K1 HK hb1)
  have HM2 := hidIt (Mk.ofT HP2.out HBB.out HSG.out)
  have HK := HK2
  clear HM HK2 HP2 HPL HEL qf q8 hOl HPP HSG cx f0 hln hz c0 c3 c4 c5 c6 hL hleft hprz hpmz
  have HM := HM2
  clear HM2
  obtain ⟨c0, c3, c4, c5, c6, hL, hleft⟩ := HM.out.read
  have hprz := HM.out.pr_lt
  have hpmz := HM.out.pm_lt
  go_upto_region 12 with (first
      | (go_at_call 17; refine (take_int B pr pm _ _ _ _ _ _ HM.out (by omega) (by omega)).mono ?_; clear c0 c3 c4 c5 c6 hL hleft hprz hpmz; rintro e wn ⟨⟨x, hx, rfl⟩, hm, hk, -⟩; replace HK := hidIt (HK.out.trans hk); replace HM := hidIt hm; obtain ⟨c0, c3, c4, c5, c6, hL, hleft, hprz, hpmz⟩ := hm.read2; clear hm hk)
      | (go_at_call 27; refine (put_any B pr pm _ _ _ _ _ _ _ _ HM.out (by omega)).mono ?_; clear c0 c3 c4 c5 c6 hL hleft hprz hpmz; rintro e wn ⟨rfl, hm, hk⟩; replace HK := hidIt (HK.out.trans hk); replace HM := hidIt hm; obtain ⟨c0, c3, c4, c5, c6, hL, hleft, hprz, hpmz⟩ := hm.read2; clear hm hk)
      | (go_at_call 42; refine (field_any B pr pm _ _ _ _ _ _ _ _ HM.out (by omega) (by first | assumption | exact Nat.le_of_ble_eq_true rfl | simp [ByteArray.size]) (by first | assumption | exact Nat.le_of_ble_eq_true rfl | simp [ByteArray.size]) (by first | assumption | exact Nat.le_of_ble_eq_true rfl | simp [ByteArray.size])).mono ?_; clear c0 c3 c4 c5 c6 hL hleft hprz hpmz; rintro e wn ⟨rfl, hm, hk⟩; replace HK := hidIt (HK.out.trans hk); replace HM := hidIt hm; obtain ⟨c0, c3, c4, c5, c6, hL, hleft, hprz, hpmz⟩ := hm.read2; clear hm hk)
      | (go_at_call 43; (with_reducible show Calls Try.prog 43 _ (World.alloc _ _) _); refine (method_any B pr pm _ _ _ _ _ _ _ _ (HM.out.below (below_alloc _ _)) (by omega) (by first | assumption | exact Nat.le_of_ble_eq_true rfl | simp [ByteArray.size]) (by first | assumption | exact Nat.le_of_ble_eq_true rfl | simp [ByteArray.size]) (by first | assumption | exact Nat.le_of_ble_eq_true rfl | simp [ByteArray.size])).mono ?_; clear c0 c3 c4 c5 c6 hL hleft hprz hpmz; rintro e wn ⟨rfl, hm, hk0⟩; have hk := (HM.out.kq (below_alloc _ _)).trans hk0; clear hk0; replace HK := hidIt (HK.out.trans hk); replace HM := hidIt hm; obtain ⟨c0, c3, c4, c5, c6, hL, hleft, hprz, hpmz⟩ := hm.read2; clear hm hk)
      | (go_at_call 43; refine (method_any B pr pm _ _ _ _ _ _ _ _ HM.out (by omega) (by first | assumption | exact Nat.le_of_ble_eq_true rfl | simp [ByteArray.size]) (by first | assumption | exact Nat.le_of_ble_eq_true rfl | simp [ByteArray.size]) (by first | assumption | exact Nat.le_of_ble_eq_true rfl | simp [ByteArray.size])).mono ?_; clear c0 c3 c4 c5 c6 hL hleft hprz hpmz; rintro e wn ⟨rfl, hm, hk⟩; replace HK := hidIt (HK.out.trans hk); replace HM := hidIt hm; obtain ⟨c0, c3, c4, c5, c6, hL, hleft, hprz, hpmz⟩ := hm.read2; clear hm hk)
      | (go_at_call 44; refine (class_any B pr pm _ _ _ _ _ _ HM.out (by omega) (by first | assumption | exact Nat.le_of_ble_eq_true rfl | simp [ByteArray.size])).mono ?_; clear c0 c3 c4 c5 c6 hL hleft hprz hpmz; rintro e wn ⟨rfl, hm, hk⟩; replace HK := hidIt (HK.out.trans hk); replace HM := hidIt hm; obtain ⟨c0, c3, c4, c5, c6, hL, hleft, hprz, hpmz⟩ := hm.read2; clear hm hk)
      | (go_at_call 68; refine (jump_any B pr pm _ _ _ _ _ _ _ HM.out (by omega)).mono ?_; clear c0 c3 c4 c5 c6 hL hleft hprz hpmz; rintro e wn ⟨rfl, hm, hk⟩; replace HK := hidIt (HK.out.trans hk); replace HM := hidIt hm; obtain ⟨c0, c3, c4, c5, c6, hL, hleft, hprz, hpmz⟩ := hm.read2; clear hm hk)
      | (go_at_call 69; refine (here_any B pr pm _ _ _ _ _ _ HM.out (by omega)).mono ?_; clear c0 c3 c4 c5 c6 hL hleft hprz hpmz; rintro e wn ⟨rfl, hm, hk⟩; replace HK := hidIt (HK.out.trans hk); replace HM := hidIt hm; obtain ⟨c0, c3, c4, c5, c6, hL, hleft, hprz, hpmz⟩ := hm.read2; clear hm hk)
      | (go_at_call 67; refine (mark_any B pr pm _ _ _ _ _ HM.out (by omega)).mono ?_; clear c0 c3 c4 c5 c6 hL hleft hprz hpmz; rintro e wn ⟨rfl, hm, hk⟩; replace HK := hidIt (HK.out.trans hk); replace HM := hidIt hm; obtain ⟨c0, c3, c4, c5, c6, hL, hleft, hprz, hpmz⟩ := hm.read2; clear hm hk)
      | (go_at_call 29; (with_reducible show Calls Try.prog 29 #[_, Value.int IntKind.i64 1] _ _); refine (S1.out _ _ _ _ _ _ _ HM.out (by omega)).mono ?_; clear c0 c3 c4 c5 c6 hL hleft hprz hpmz; rintro e wn ⟨rfl, σn, hr, hm, hk⟩; replace HK := hidIt (HK.out.trans hk); replace HM := hidIt hm; obtain ⟨c0, c3, c4, c5, c6, hL, hleft, hprz, hpmz⟩ := hm.read2; clear hm hk)
      | (go_at_call 29; (with_reducible show Calls Try.prog 29 #[_, Value.int IntKind.i64 2] _ _); refine (S2.out _ _ _ _ _ _ _ HM.out (by omega)).mono ?_; clear c0 c3 c4 c5 c6 hL hleft hprz hpmz; rintro e wn ⟨rfl, σn, hr, hm, hk⟩; replace HK := hidIt (HK.out.trans hk); replace HM := hidIt hm; obtain ⟨c0, c3, c4, c5, c6, hL, hleft, hprz, hpmz⟩ := hm.read2; clear hm hk))
  obtain ⟨s, HP, HB, hsg⟩ := HM.out
  have HSG := hidIt hsg
  have cx := cell_row HP.blk 7 rfl
  have f0 := frozen_row HP.blk
  have hz := HP.lt
  have hln := HB.hn
  have HPL := hidIt (fun v1 w1 hg ho => HP.putH (o := .cells (trow ⟨(σ.labels : Int), (σ.mark.labels : Int), (σ.mark.mark.labels : Int)⟩).toArray 106) (v1 := v1) (w1 := w1) (x := ⟨(σ.labels : Int), (σ.mark.labels : Int), (σ.mark.mark.labels : Int)⟩) hg ho)
  have hOl := HP.h
  obtain ⟨aol, capl, el⟩ := own_slice HP.h
  have HEL := hidIt el
  change _ = some s.vh at cx
  rw [el] at cx
  have HBB := hidIt HB
  have HPP := hidIt HP
  clear HP HB el hsg
  go_upto_region 13 with (at_builtin; refine putH_append rfl _ _ rfl B (.slice aol s.hs.length capl) _ _ ⟨(σ.labels : Int), (σ.mark.labels : Int), (σ.mark.mark.labels : Int)⟩ rfl (by rw [← HEL.out]; exact hOl) rfl (by omega) (by omega) ?_; intro v1 w1 ho1 hg1; obtain ⟨ao1, cap1, rfl⟩ := own_slice ho1; obtain ⟨hb1, HP1, K1⟩ := HPL.out _ w1 (by rw [HEL.out]; exact hg1) ho1; have qf := frozen_row hb1; have q8 := cell_row hb1 7 (v := s.vh) rfl; have HP2 := hidIt HP1; have HK2 := hidIt (HK.out.trans K1); clear HP1 K1 HK hb1)
  have HM2 := hidIt (Mk.ofH HP2.out HBB.out HSG.out)
  have HK := HK2
  clear HM HK2 HP2 HPL HEL qf q8 hOl HPP HSG cx f0 hln hz c0 c3 c4 c5 c6 hL hleft hprz hpmz
  have HM := HM2
  clear HM2
  obtain ⟨c0, c3, c4, c5, c6, hL, hleft⟩ := HM.out.read
  have hprz := HM.out.pr_lt
  have hpmz := HM.out.pm_lt
  go_upto_region 14 with (first
      | (go_at_call 17; refine (take_int B pr pm _ _ _ _ _ _ HM.out (by omega) (by omega)).mono ?_; clear c0 c3 c4 c5 c6 hL hleft hprz hpmz; rintro e wn ⟨⟨x, hx, rfl⟩, hm, hk, -⟩; replace HK := hidIt (HK.out.trans hk); replace HM := hidIt hm; obtain ⟨c0, c3, c4, c5, c6, hL, hleft, hprz, hpmz⟩ := hm.read2; clear hm hk)
      | (go_at_call 27; refine (put_any B pr pm _ _ _ _ _ _ _ _ HM.out (by omega)).mono ?_; clear c0 c3 c4 c5 c6 hL hleft hprz hpmz; rintro e wn ⟨rfl, hm, hk⟩; replace HK := hidIt (HK.out.trans hk); replace HM := hidIt hm; obtain ⟨c0, c3, c4, c5, c6, hL, hleft, hprz, hpmz⟩ := hm.read2; clear hm hk)
      | (go_at_call 42; refine (field_any B pr pm _ _ _ _ _ _ _ _ HM.out (by omega) (by first | assumption | exact Nat.le_of_ble_eq_true rfl | simp [ByteArray.size]) (by first | assumption | exact Nat.le_of_ble_eq_true rfl | simp [ByteArray.size]) (by first | assumption | exact Nat.le_of_ble_eq_true rfl | simp [ByteArray.size])).mono ?_; clear c0 c3 c4 c5 c6 hL hleft hprz hpmz; rintro e wn ⟨rfl, hm, hk⟩; replace HK := hidIt (HK.out.trans hk); replace HM := hidIt hm; obtain ⟨c0, c3, c4, c5, c6, hL, hleft, hprz, hpmz⟩ := hm.read2; clear hm hk)
      | (go_at_call 43; (with_reducible show Calls Try.prog 43 _ (World.alloc _ _) _); refine (method_any B pr pm _ _ _ _ _ _ _ _ (HM.out.below (below_alloc _ _)) (by omega) (by first | assumption | exact Nat.le_of_ble_eq_true rfl | simp [ByteArray.size]) (by first | assumption | exact Nat.le_of_ble_eq_true rfl | simp [ByteArray.size]) (by first | assumption | exact Nat.le_of_ble_eq_true rfl | simp [ByteArray.size])).mono ?_; clear c0 c3 c4 c5 c6 hL hleft hprz hpmz; rintro e wn ⟨rfl, hm, hk0⟩; have hk := (HM.out.kq (below_alloc _ _)).trans hk0; clear hk0; replace HK := hidIt (HK.out.trans hk); replace HM := hidIt hm; obtain ⟨c0, c3, c4, c5, c6, hL, hleft, hprz, hpmz⟩ := hm.read2; clear hm hk)
      | (go_at_call 43; refine (method_any B pr pm _ _ _ _ _ _ _ _ HM.out (by omega) (by first | assumption | exact Nat.le_of_ble_eq_true rfl | simp [ByteArray.size]) (by first | assumption | exact Nat.le_of_ble_eq_true rfl | simp [ByteArray.size]) (by first | assumption | exact Nat.le_of_ble_eq_true rfl | simp [ByteArray.size])).mono ?_; clear c0 c3 c4 c5 c6 hL hleft hprz hpmz; rintro e wn ⟨rfl, hm, hk⟩; replace HK := hidIt (HK.out.trans hk); replace HM := hidIt hm; obtain ⟨c0, c3, c4, c5, c6, hL, hleft, hprz, hpmz⟩ := hm.read2; clear hm hk)
      | (go_at_call 44; refine (class_any B pr pm _ _ _ _ _ _ HM.out (by omega) (by first | assumption | exact Nat.le_of_ble_eq_true rfl | simp [ByteArray.size])).mono ?_; clear c0 c3 c4 c5 c6 hL hleft hprz hpmz; rintro e wn ⟨rfl, hm, hk⟩; replace HK := hidIt (HK.out.trans hk); replace HM := hidIt hm; obtain ⟨c0, c3, c4, c5, c6, hL, hleft, hprz, hpmz⟩ := hm.read2; clear hm hk)
      | (go_at_call 68; refine (jump_any B pr pm _ _ _ _ _ _ _ HM.out (by omega)).mono ?_; clear c0 c3 c4 c5 c6 hL hleft hprz hpmz; rintro e wn ⟨rfl, hm, hk⟩; replace HK := hidIt (HK.out.trans hk); replace HM := hidIt hm; obtain ⟨c0, c3, c4, c5, c6, hL, hleft, hprz, hpmz⟩ := hm.read2; clear hm hk)
      | (go_at_call 69; refine (here_any B pr pm _ _ _ _ _ _ HM.out (by omega)).mono ?_; clear c0 c3 c4 c5 c6 hL hleft hprz hpmz; rintro e wn ⟨rfl, hm, hk⟩; replace HK := hidIt (HK.out.trans hk); replace HM := hidIt hm; obtain ⟨c0, c3, c4, c5, c6, hL, hleft, hprz, hpmz⟩ := hm.read2; clear hm hk)
      | (go_at_call 67; refine (mark_any B pr pm _ _ _ _ _ HM.out (by omega)).mono ?_; clear c0 c3 c4 c5 c6 hL hleft hprz hpmz; rintro e wn ⟨rfl, hm, hk⟩; replace HK := hidIt (HK.out.trans hk); replace HM := hidIt hm; obtain ⟨c0, c3, c4, c5, c6, hL, hleft, hprz, hpmz⟩ := hm.read2; clear hm hk)
      | (go_at_call 29; (with_reducible show Calls Try.prog 29 #[_, Value.int IntKind.i64 1] _ _); refine (S1.out _ _ _ _ _ _ _ HM.out (by omega)).mono ?_; clear c0 c3 c4 c5 c6 hL hleft hprz hpmz; rintro e wn ⟨rfl, σn, hr, hm, hk⟩; replace HK := hidIt (HK.out.trans hk); replace HM := hidIt hm; obtain ⟨c0, c3, c4, c5, c6, hL, hleft, hprz, hpmz⟩ := hm.read2; clear hm hk)
      | (go_at_call 29; (with_reducible show Calls Try.prog 29 #[_, Value.int IntKind.i64 2] _ _); refine (S2.out _ _ _ _ _ _ _ HM.out (by omega)).mono ?_; clear c0 c3 c4 c5 c6 hL hleft hprz hpmz; rintro e wn ⟨rfl, σn, hr, hm, hk⟩; replace HK := hidIt (HK.out.trans hk); replace HM := hidIt hm; obtain ⟨c0, c3, c4, c5, c6, hL, hleft, hprz, hpmz⟩ := hm.read2; clear hm hk))
  go_wp2_with (first
      | (go_at_call 17; refine (take_int B pr pm _ _ _ _ _ _ HM.out (by omega) (by omega)).mono ?_; clear c0 c3 c4 c5 c6 hL hleft hprz hpmz; rintro e wn ⟨⟨x, hx, rfl⟩, hm, hk, -⟩; replace HK := hidIt (HK.out.trans hk); replace HM := hidIt hm; obtain ⟨c0, c3, c4, c5, c6, hL, hleft, hprz, hpmz⟩ := hm.read2; clear hm hk)
      | (go_at_call 27; refine (put_any B pr pm _ _ _ _ _ _ _ _ HM.out (by omega)).mono ?_; clear c0 c3 c4 c5 c6 hL hleft hprz hpmz; rintro e wn ⟨rfl, hm, hk⟩; replace HK := hidIt (HK.out.trans hk); replace HM := hidIt hm; obtain ⟨c0, c3, c4, c5, c6, hL, hleft, hprz, hpmz⟩ := hm.read2; clear hm hk)
      | (go_at_call 42; refine (field_any B pr pm _ _ _ _ _ _ _ _ HM.out (by omega) (by first | assumption | exact Nat.le_of_ble_eq_true rfl | simp [ByteArray.size]) (by first | assumption | exact Nat.le_of_ble_eq_true rfl | simp [ByteArray.size]) (by first | assumption | exact Nat.le_of_ble_eq_true rfl | simp [ByteArray.size])).mono ?_; clear c0 c3 c4 c5 c6 hL hleft hprz hpmz; rintro e wn ⟨rfl, hm, hk⟩; replace HK := hidIt (HK.out.trans hk); replace HM := hidIt hm; obtain ⟨c0, c3, c4, c5, c6, hL, hleft, hprz, hpmz⟩ := hm.read2; clear hm hk)
      | (go_at_call 43; (with_reducible show Calls Try.prog 43 _ (World.alloc _ _) _); refine (method_any B pr pm _ _ _ _ _ _ _ _ (HM.out.below (below_alloc _ _)) (by omega) (by first | assumption | exact Nat.le_of_ble_eq_true rfl | simp [ByteArray.size]) (by first | assumption | exact Nat.le_of_ble_eq_true rfl | simp [ByteArray.size]) (by first | assumption | exact Nat.le_of_ble_eq_true rfl | simp [ByteArray.size])).mono ?_; clear c0 c3 c4 c5 c6 hL hleft hprz hpmz; rintro e wn ⟨rfl, hm, hk0⟩; have hk := (HM.out.kq (below_alloc _ _)).trans hk0; clear hk0; replace HK := hidIt (HK.out.trans hk); replace HM := hidIt hm; obtain ⟨c0, c3, c4, c5, c6, hL, hleft, hprz, hpmz⟩ := hm.read2; clear hm hk)
      | (go_at_call 43; refine (method_any B pr pm _ _ _ _ _ _ _ _ HM.out (by omega) (by first | assumption | exact Nat.le_of_ble_eq_true rfl | simp [ByteArray.size]) (by first | assumption | exact Nat.le_of_ble_eq_true rfl | simp [ByteArray.size]) (by first | assumption | exact Nat.le_of_ble_eq_true rfl | simp [ByteArray.size])).mono ?_; clear c0 c3 c4 c5 c6 hL hleft hprz hpmz; rintro e wn ⟨rfl, hm, hk⟩; replace HK := hidIt (HK.out.trans hk); replace HM := hidIt hm; obtain ⟨c0, c3, c4, c5, c6, hL, hleft, hprz, hpmz⟩ := hm.read2; clear hm hk)
      | (go_at_call 44; refine (class_any B pr pm _ _ _ _ _ _ HM.out (by omega) (by first | assumption | exact Nat.le_of_ble_eq_true rfl | simp [ByteArray.size])).mono ?_; clear c0 c3 c4 c5 c6 hL hleft hprz hpmz; rintro e wn ⟨rfl, hm, hk⟩; replace HK := hidIt (HK.out.trans hk); replace HM := hidIt hm; obtain ⟨c0, c3, c4, c5, c6, hL, hleft, hprz, hpmz⟩ := hm.read2; clear hm hk)
      | (go_at_call 68; refine (jump_any B pr pm _ _ _ _ _ _ _ HM.out (by omega)).mono ?_; clear c0 c3 c4 c5 c6 hL hleft hprz hpmz; rintro e wn ⟨rfl, hm, hk⟩; replace HK := hidIt (HK.out.trans hk); replace HM := hidIt hm; obtain ⟨c0, c3, c4, c5, c6, hL, hleft, hprz, hpmz⟩ := hm.read2; clear hm hk)
      | (go_at_call 69; refine (here_any B pr pm _ _ _ _ _ _ HM.out (by omega)).mono ?_; clear c0 c3 c4 c5 c6 hL hleft hprz hpmz; rintro e wn ⟨rfl, hm, hk⟩; replace HK := hidIt (HK.out.trans hk); replace HM := hidIt hm; obtain ⟨c0, c3, c4, c5, c6, hL, hleft, hprz, hpmz⟩ := hm.read2; clear hm hk)
      | (go_at_call 67; refine (mark_any B pr pm _ _ _ _ _ HM.out (by omega)).mono ?_; clear c0 c3 c4 c5 c6 hL hleft hprz hpmz; rintro e wn ⟨rfl, hm, hk⟩; replace HK := hidIt (HK.out.trans hk); replace HM := hidIt hm; obtain ⟨c0, c3, c4, c5, c6, hL, hleft, hprz, hpmz⟩ := hm.read2; clear hm hk)
      | (go_at_call 29; (with_reducible show Calls Try.prog 29 #[_, Value.int IntKind.i64 1] _ _); refine (S1.out _ _ _ _ _ _ _ HM.out (by omega)).mono ?_; clear c0 c3 c4 c5 c6 hL hleft hprz hpmz; rintro e wn ⟨rfl, σn, hr, hm, hk⟩; replace HK := hidIt (HK.out.trans hk); replace HM := hidIt hm; obtain ⟨c0, c3, c4, c5, c6, hL, hleft, hprz, hpmz⟩ := hm.read2; clear hm hk)
      | (go_at_call 29; (with_reducible show Calls Try.prog 29 #[_, Value.int IntKind.i64 2] _ _); refine (S2.out _ _ _ _ _ _ _ HM.out (by omega)).mono ?_; clear c0 c3 c4 c5 c6 hL hleft hprz hpmz; rintro e wn ⟨rfl, σn, hr, hm, hk⟩; replace HK := hidIt (HK.out.trans hk); replace HM := hidIt hm; obtain ⟨c0, c3, c4, c5, c6, hL, hleft, hprz, hpmz⟩ := hm.read2; clear hm hk))
  all_goals
    go_end0
    refine ⟨rfl, _, ?_, HM.out.mono (by omega), HK.out⟩
    first | exact Tr.t0 (by assumption) (by assumption) | exact Tr.t1 (by assumption) (by assumption)
end Go.Proofs.Ytlnapfeglbdecaa.M
namespace Go.Proofs.Ytlnapfeglbdecaa.M
open Go.RowKit
set_option maxRecDepth 8000 in
set_option maxHeartbeats 40000000 in
theorem loop_any (hs : Nums) (d c : Nat) (h1 : SomeL d 1 c) (h2 : SomeL d 2 (2 * c)) (B pr pm n : Nat) (pl : Bool) (σ : SG) (w : World) (h : Mk B pr pm n d pl σ w) (hn : n + 2 * c + 40 ≤ 700000) :
    Calls Try.prog 57 #[.pointer (some ⟨pm, 0, none⟩)] w fun e w' => e = .returned (.tuple #[]) ∧ ∃ σ', Lp d pl σ σ' ∧ Mk B pr pm (n + 2 * c + 40) d pl σ' w' ∧ Kq B pr w w' := by
  have N1 := hidIt hs.n1
  have N2 := hidIt hs.n2
  have R1 := hidIt hs.r1
  have R2 := hidIt hs.r2
  have S1 := hidIt h1
  have S2 := hidIt h2
  clear h1 h2
  have HM := hidIt h
  have HK := hidIt (Kq.refl B pr w)
  obtain ⟨c0, c3, c4, c5, c6, hL, hleft⟩ := h.read
  have hprz := h.pr_lt
  have hpmz := h.pm_lt
  clear h hs
  go_enter Try.func57, Try.ntmps57
  go_wp2_with (first
      | (go_at_call 17; refine (take_int B pr pm _ _ _ _ _ _ HM.out (by omega) (by omega)).mono ?_; clear c0 c3 c4 c5 c6 hL hleft hprz hpmz; rintro e wn ⟨⟨x, hx, rfl⟩, hm, hk, -⟩; replace HK := hidIt (HK.out.trans hk); replace HM := hidIt hm; obtain ⟨c0, c3, c4, c5, c6, hL, hleft, hprz, hpmz⟩ := hm.read2; clear hm hk)
      | (go_at_call 27; refine (put_any B pr pm _ _ _ _ _ _ _ _ HM.out (by omega)).mono ?_; clear c0 c3 c4 c5 c6 hL hleft hprz hpmz; rintro e wn ⟨rfl, hm, hk⟩; replace HK := hidIt (HK.out.trans hk); replace HM := hidIt hm; obtain ⟨c0, c3, c4, c5, c6, hL, hleft, hprz, hpmz⟩ := hm.read2; clear hm hk)
      | (go_at_call 42; refine (field_any B pr pm _ _ _ _ _ _ _ _ HM.out (by omega) (by first | assumption | exact Nat.le_of_ble_eq_true rfl | simp [ByteArray.size]) (by first | assumption | exact Nat.le_of_ble_eq_true rfl | simp [ByteArray.size]) (by first | assumption | exact Nat.le_of_ble_eq_true rfl | simp [ByteArray.size])).mono ?_; clear c0 c3 c4 c5 c6 hL hleft hprz hpmz; rintro e wn ⟨rfl, hm, hk⟩; replace HK := hidIt (HK.out.trans hk); replace HM := hidIt hm; obtain ⟨c0, c3, c4, c5, c6, hL, hleft, hprz, hpmz⟩ := hm.read2; clear hm hk)
      | (go_at_call 43; (with_reducible show Calls Try.prog 43 _ (World.alloc _ _) _); refine (method_any B pr pm _ _ _ _ _ _ _ _ (HM.out.below (below_alloc _ _)) (by omega) (by first | assumption | exact Nat.le_of_ble_eq_true rfl | simp [ByteArray.size]) (by first | assumption | exact Nat.le_of_ble_eq_true rfl | simp [ByteArray.size]) (by first | assumption | exact Nat.le_of_ble_eq_true rfl | simp [ByteArray.size])).mono ?_; clear c0 c3 c4 c5 c6 hL hleft hprz hpmz; rintro e wn ⟨rfl, hm, hk0⟩; have hk := (HM.out.kq (below_alloc _ _)).trans hk0; clear hk0; replace HK := hidIt (HK.out.trans hk); replace HM := hidIt hm; obtain ⟨c0, c3, c4, c5, c6, hL, hleft, hprz, hpmz⟩ := hm.read2; clear hm hk)
      | (go_at_call 43; refine (method_any B pr pm _ _ _ _ _ _ _ _ HM.out (by omega) (by first | assumption | exact Nat.le_of_ble_eq_true rfl | simp [ByteArray.size]) (by first | assumption | exact Nat.le_of_ble_eq_true rfl | simp [ByteArray.size]) (by first | assumption | exact Nat.le_of_ble_eq_true rfl | simp [ByteArray.size])).mono ?_; clear c0 c3 c4 c5 c6 hL hleft hprz hpmz; rintro e wn ⟨rfl, hm, hk⟩; replace HK := hidIt (HK.out.trans hk); replace HM := hidIt hm; obtain ⟨c0, c3, c4, c5, c6, hL, hleft, hprz, hpmz⟩ := hm.read2; clear hm hk)
      | (go_at_call 44; refine (class_any B pr pm _ _ _ _ _ _ HM.out (by omega) (by first | assumption | exact Nat.le_of_ble_eq_true rfl | simp [ByteArray.size])).mono ?_; clear c0 c3 c4 c5 c6 hL hleft hprz hpmz; rintro e wn ⟨rfl, hm, hk⟩; replace HK := hidIt (HK.out.trans hk); replace HM := hidIt hm; obtain ⟨c0, c3, c4, c5, c6, hL, hleft, hprz, hpmz⟩ := hm.read2; clear hm hk)
      | (go_at_call 68; refine (jump_any B pr pm _ _ _ _ _ _ _ HM.out (by omega)).mono ?_; clear c0 c3 c4 c5 c6 hL hleft hprz hpmz; rintro e wn ⟨rfl, hm, hk⟩; replace HK := hidIt (HK.out.trans hk); replace HM := hidIt hm; obtain ⟨c0, c3, c4, c5, c6, hL, hleft, hprz, hpmz⟩ := hm.read2; clear hm hk)
      | (go_at_call 69; refine (here_any B pr pm _ _ _ _ _ _ HM.out (by omega)).mono ?_; clear c0 c3 c4 c5 c6 hL hleft hprz hpmz; rintro e wn ⟨rfl, hm, hk⟩; replace HK := hidIt (HK.out.trans hk); replace HM := hidIt hm; obtain ⟨c0, c3, c4, c5, c6, hL, hleft, hprz, hpmz⟩ := hm.read2; clear hm hk)
      | (go_at_call 67; refine (mark_any B pr pm _ _ _ _ _ HM.out (by omega)).mono ?_; clear c0 c3 c4 c5 c6 hL hleft hprz hpmz; rintro e wn ⟨rfl, hm, hk⟩; replace HK := hidIt (HK.out.trans hk); replace HM := hidIt hm; obtain ⟨c0, c3, c4, c5, c6, hL, hleft, hprz, hpmz⟩ := hm.read2; clear hm hk)
      | (go_at_call 29; (with_reducible show Calls Try.prog 29 #[_, Value.int IntKind.i64 1] _ _); refine (S1.out _ _ _ _ _ _ _ HM.out (by omega)).mono ?_; clear c0 c3 c4 c5 c6 hL hleft hprz hpmz; rintro e wn ⟨rfl, σn, hr, hm, hk⟩; replace HK := hidIt (HK.out.trans hk); replace HM := hidIt hm; obtain ⟨c0, c3, c4, c5, c6, hL, hleft, hprz, hpmz⟩ := hm.read2; clear hm hk)
      | (go_at_call 29; (with_reducible show Calls Try.prog 29 #[_, Value.int IntKind.i64 2] _ _); refine (S2.out _ _ _ _ _ _ _ HM.out (by omega)).mono ?_; clear c0 c3 c4 c5 c6 hL hleft hprz hpmz; rintro e wn ⟨rfl, σn, hr, hm, hk⟩; replace HK := hidIt (HK.out.trans hk); replace HM := hidIt hm; obtain ⟨c0, c3, c4, c5, c6, hL, hleft, hprz, hpmz⟩ := hm.read2; clear hm hk))
  go_end0
  refine ⟨rfl, _, ?_, HM.out.mono (by omega), HK.out⟩
  exact Lp.mk _ _ (by omega) (by omega) hr
end Go.Proofs.Ytlnapfeglbdecaa.M
namespace Go.Proofs.Ytlnapfeglbdecaa.M
open Go.RowKit
set_option maxRecDepth 8000 in
set_option maxHeartbeats 40000000 in
theorem arrays_any (hs : Nums) (d : Nat) (B pr pm n : Nat) (pl : Bool) (σ : SG) (w : World) (h : Mk B pr pm n d pl σ w) (hn : n + 60 ≤ 700000) :
    Calls Try.prog 58 #[.pointer (some ⟨pm, 0, none⟩)] w fun e w' => e = .returned (.tuple #[]) ∧ ∃ σ', Arr pl σ σ' ∧ Mk B pr pm (n + 60) d pl σ' w' ∧ Kq B pr w w' := by
  have N1 := hidIt hs.n1
  have N2 := hidIt hs.n2
  have R1 := hidIt hs.r1
  have R2 := hidIt hs.r2
  have HM := hidIt h
  have HK := hidIt (Kq.refl B pr w)
  obtain ⟨c0, c3, c4, c5, c6, hL, hleft⟩ := h.read
  have hprz := h.pr_lt
  have hpmz := h.pm_lt
  clear h hs
  go_enter Try.func58, Try.ntmps58
  go_upto_region 1 with (first
      | (go_at_call 17; refine (take_int B pr pm _ _ _ _ _ _ HM.out (by omega) (by omega)).mono ?_; clear c0 c3 c4 c5 c6 hL hleft hprz hpmz; rintro e wn ⟨⟨x, hx, rfl⟩, hm, hk, -⟩; replace HK := hidIt (HK.out.trans hk); replace HM := hidIt hm; obtain ⟨c0, c3, c4, c5, c6, hL, hleft, hprz, hpmz⟩ := hm.read2; clear hm hk))
  have hx4 : (x = 0 ∨ x = 1 ∨ x = 2 ∨ x = 3) := by omega
  rcases hx4 with rfl | rfl | rfl | rfl
  all_goals
    go_wp2_with (first
      | (go_at_call 17; (with_reducible show Calls Try.prog 17 _ (World.alloc _ _) _); refine (take_int B pr pm _ _ _ _ _ _ (HM.out.below (below_alloc _ _)) (by omega) (by omega)).mono ?_; have hlp := hprz; clear c0 c3 c4 c5 c6 hL hleft hprz hpmz; rintro e wn ⟨⟨x, hx, rfl⟩, hm, hk0, hon⟩; have hk := (HM.out.kq (below_alloc _ _)).trans hk0; clear hk0; have hlit := lit_after hon hlp; clear hon hlp; (obtain ⟨lv, hlv, hlm⟩ := lit_str (l := [sA, sB]) (x := x) hlit (by show _ < 2; omega); have hlz : lv.size ≤ 1000000 := strs_small hlm (by decide)); clear hlit; replace HK := hidIt (HK.out.trans hk); replace HM := hidIt hm; obtain ⟨c0, c3, c4, c5, c6, hL, hleft, hprz, hpmz⟩ := hm.read2; clear hm hk)
      | (go_at_call 17; refine (take_int B pr pm _ _ _ _ _ _ HM.out (by omega) (by omega)).mono ?_; clear c0 c3 c4 c5 c6 hL hleft hprz hpmz; rintro e wn ⟨⟨x, hx, rfl⟩, hm, hk, -⟩; replace HK := hidIt (HK.out.trans hk); replace HM := hidIt hm; obtain ⟨c0, c3, c4, c5, c6, hL, hleft, hprz, hpmz⟩ := hm.read2; clear hm hk)
      | (go_at_call 27; refine (put_any B pr pm _ _ _ _ _ _ _ _ HM.out (by omega)).mono ?_; clear c0 c3 c4 c5 c6 hL hleft hprz hpmz; rintro e wn ⟨rfl, hm, hk⟩; replace HK := hidIt (HK.out.trans hk); replace HM := hidIt hm; obtain ⟨c0, c3, c4, c5, c6, hL, hleft, hprz, hpmz⟩ := hm.read2; clear hm hk)
      | (go_at_call 42; refine (field_any B pr pm _ _ _ _ _ _ _ _ HM.out (by omega) (by first | assumption | exact Nat.le_of_ble_eq_true rfl | simp [ByteArray.size]) (by first | assumption | exact Nat.le_of_ble_eq_true rfl | simp [ByteArray.size]) (by first | assumption | exact Nat.le_of_ble_eq_true rfl | simp [ByteArray.size])).mono ?_; clear c0 c3 c4 c5 c6 hL hleft hprz hpmz; rintro e wn ⟨rfl, hm, hk⟩; replace HK := hidIt (HK.out.trans hk); replace HM := hidIt hm; obtain ⟨c0, c3, c4, c5, c6, hL, hleft, hprz, hpmz⟩ := hm.read2; clear hm hk)
      | (go_at_call 43; (with_reducible show Calls Try.prog 43 _ (World.alloc _ _) _); refine (method_any B pr pm _ _ _ _ _ _ _ _ (HM.out.below (below_alloc _ _)) (by omega) (by first | assumption | exact Nat.le_of_ble_eq_true rfl | simp [ByteArray.size]) (by first | assumption | exact Nat.le_of_ble_eq_true rfl | simp [ByteArray.size]) (by first | assumption | exact Nat.le_of_ble_eq_true rfl | simp [ByteArray.size])).mono ?_; clear c0 c3 c4 c5 c6 hL hleft hprz hpmz; rintro e wn ⟨rfl, hm, hk0⟩; have hk := (HM.out.kq (below_alloc _ _)).trans hk0; clear hk0; replace HK := hidIt (HK.out.trans hk); replace HM := hidIt hm; obtain ⟨c0, c3, c4, c5, c6, hL, hleft, hprz, hpmz⟩ := hm.read2; clear hm hk)
      | (go_at_call 43; refine (method_any B pr pm _ _ _ _ _ _ _ _ HM.out (by omega) (by first | assumption | exact Nat.le_of_ble_eq_true rfl | simp [ByteArray.size]) (by first | assumption | exact Nat.le_of_ble_eq_true rfl | simp [ByteArray.size]) (by first | assumption | exact Nat.le_of_ble_eq_true rfl | simp [ByteArray.size])).mono ?_; clear c0 c3 c4 c5 c6 hL hleft hprz hpmz; rintro e wn ⟨rfl, hm, hk⟩; replace HK := hidIt (HK.out.trans hk); replace HM := hidIt hm; obtain ⟨c0, c3, c4, c5, c6, hL, hleft, hprz, hpmz⟩ := hm.read2; clear hm hk)
      | (go_at_call 44; refine (class_any B pr pm _ _ _ _ _ _ HM.out (by omega) (by first | assumption | exact Nat.le_of_ble_eq_true rfl | simp [ByteArray.size])).mono ?_; clear c0 c3 c4 c5 c6 hL hleft hprz hpmz; rintro e wn ⟨rfl, hm, hk⟩; replace HK := hidIt (HK.out.trans hk); replace HM := hidIt hm; obtain ⟨c0, c3, c4, c5, c6, hL, hleft, hprz, hpmz⟩ := hm.read2; clear hm hk)
      | (go_at_call 68; refine (jump_any B pr pm _ _ _ _ _ _ _ HM.out (by omega)).mono ?_; clear c0 c3 c4 c5 c6 hL hleft hprz hpmz; rintro e wn ⟨rfl, hm, hk⟩; replace HK := hidIt (HK.out.trans hk); replace HM := hidIt hm; obtain ⟨c0, c3, c4, c5, c6, hL, hleft, hprz, hpmz⟩ := hm.read2; clear hm hk)
      | (go_at_call 69; refine (here_any B pr pm _ _ _ _ _ _ HM.out (by omega)).mono ?_; clear c0 c3 c4 c5 c6 hL hleft hprz hpmz; rintro e wn ⟨rfl, hm, hk⟩; replace HK := hidIt (HK.out.trans hk); replace HM := hidIt hm; obtain ⟨c0, c3, c4, c5, c6, hL, hleft, hprz, hpmz⟩ := hm.read2; clear hm hk)
      | (go_at_call 67; refine (mark_any B pr pm _ _ _ _ _ HM.out (by omega)).mono ?_; clear c0 c3 c4 c5 c6 hL hleft hprz hpmz; rintro e wn ⟨rfl, hm, hk⟩; replace HK := hidIt (HK.out.trans hk); replace HM := hidIt hm; obtain ⟨c0, c3, c4, c5, c6, hL, hleft, hprz, hpmz⟩ := hm.read2; clear hm hk)
      | (go_at_call 30; (with_reducible show Calls Try.prog 30 #[_, Value.int IntKind.i64 1] _ _); refine (N1.out _ _ _ _ _ _ _ _ HM.out (by omega)).mono ?_; clear c0 c3 c4 c5 c6 hL hleft hprz hpmz; rintro e wn ⟨rfl, σn, hr, hm, hk⟩; replace HK := hidIt (HK.out.trans hk); replace HM := hidIt hm; obtain ⟨c0, c3, c4, c5, c6, hL, hleft, hprz, hpmz⟩ := hm.read2; clear hm hk)
      | (go_at_call 30; (with_reducible show Calls Try.prog 30 #[_, Value.int IntKind.i64 2] _ _); refine (N2.out _ _ _ _ _ _ _ _ HM.out (by omega)).mono ?_; clear c0 c3 c4 c5 c6 hL hleft hprz hpmz; rintro e wn ⟨rfl, σn, hr, hm, hk⟩; replace HK := hidIt (HK.out.trans hk); replace HM := hidIt hm; obtain ⟨c0, c3, c4, c5, c6, hL, hleft, hprz, hpmz⟩ := hm.read2; clear hm hk)
      | (go_at_call 41; (with_reducible show Calls Try.prog 41 #[_, Value.int IntKind.i64 1] _ _); refine (R1.out _ _ _ _ _ _ _ _ HM.out (by omega)).mono ?_; clear c0 c3 c4 c5 c6 hL hleft hprz hpmz; rintro e wn ⟨rfl, σn, hr, hm, hk⟩; replace HK := hidIt (HK.out.trans hk); replace HM := hidIt hm; obtain ⟨c0, c3, c4, c5, c6, hL, hleft, hprz, hpmz⟩ := hm.read2; clear hm hk)
      | (go_at_call 41; (with_reducible show Calls Try.prog 41 #[_, Value.int IntKind.i64 2] _ _); refine (R2.out _ _ _ _ _ _ _ _ HM.out (by omega)).mono ?_; clear c0 c3 c4 c5 c6 hL hleft hprz hpmz; rintro e wn ⟨rfl, σn, hr, hm, hk⟩; replace HK := hidIt (HK.out.trans hk); replace HM := hidIt hm; obtain ⟨c0, c3, c4, c5, c6, hL, hleft, hprz, hpmz⟩ := hm.read2; clear hm hk))
    go_end0
    refine ⟨rfl, _, ?_, HM.out.mono (by omega), HK.out⟩
    first | exact Arr.a0 (by assumption) | exact Arr.a1 _ _ (by omega) hlm | exact Arr.a2 (by assumption) (by assumption) | exact Arr.a3 _ (by omega) hr
end Go.Proofs.Ytlnapfeglbdecaa.M
namespace Go.Proofs.Ytlnapfeglbdecaa.M
open Go.RowKit
set_option maxRecDepth 8000 in
set_option maxHeartbeats 40000000 in
theorem threads_any (hs : Nums) (d : Nat) (B pr pm n : Nat) (pl : Bool) (σ : SG) (w : World) (h : Mk B pr pm n d pl σ w) (hn : n + 20 ≤ 700000) :
    Calls Try.prog 61 #[.pointer (some ⟨pm, 0, none⟩)] w fun e w' => e = .returned (.tuple #[]) ∧ ∃ σ', Thr σ σ' ∧ Mk B pr pm (n + 20) d pl σ' w' ∧ Kq B pr w w' := by
  have N1 := hidIt hs.n1
  have N2 := hidIt hs.n2
  have R1 := hidIt hs.r1
  have R2 := hidIt hs.r2
  have HM := hidIt h
  have HK := hidIt (Kq.refl B pr w)
  obtain ⟨c0, c3, c4, c5, c6, hL, hleft⟩ := h.read
  have hprz := h.pr_lt
  have hpmz := h.pm_lt
  clear h hs
  go_enter Try.func61, Try.ntmps61
  go_upto_region 1 with (first
      | (go_at_call 17; refine (take_int B pr pm _ _ _ _ _ _ HM.out (by omega) (by omega)).mono ?_; clear c0 c3 c4 c5 c6 hL hleft hprz hpmz; rintro e wn ⟨⟨x, hx, rfl⟩, hm, hk, -⟩; replace HK := hidIt (HK.out.trans hk); replace HM := hidIt hm; obtain ⟨c0, c3, c4, c5, c6, hL, hleft, hprz, hpmz⟩ := hm.read2; clear hm hk))
  have hx4 : (x = 0 ∨ x = 1 ∨ x = 2 ∨ x = 3) := by omega
  rcases hx4 with rfl | rfl | rfl | rfl
  all_goals
    go_wp2_with (first
      | (go_at_call 17; refine (take_int B pr pm _ _ _ _ _ _ HM.out (by omega) (by omega)).mono ?_; clear c0 c3 c4 c5 c6 hL hleft hprz hpmz; rintro e wn ⟨⟨x, hx, rfl⟩, hm, hk, -⟩; replace HK := hidIt (HK.out.trans hk); replace HM := hidIt hm; obtain ⟨c0, c3, c4, c5, c6, hL, hleft, hprz, hpmz⟩ := hm.read2; clear hm hk)
      | (go_at_call 27; refine (put_any B pr pm _ _ _ _ _ _ _ _ HM.out (by omega)).mono ?_; clear c0 c3 c4 c5 c6 hL hleft hprz hpmz; rintro e wn ⟨rfl, hm, hk⟩; replace HK := hidIt (HK.out.trans hk); replace HM := hidIt hm; obtain ⟨c0, c3, c4, c5, c6, hL, hleft, hprz, hpmz⟩ := hm.read2; clear hm hk)
      | (go_at_call 42; refine (field_any B pr pm _ _ _ _ _ _ _ _ HM.out (by omega) (by first | assumption | exact Nat.le_of_ble_eq_true rfl | simp [ByteArray.size]) (by first | assumption | exact Nat.le_of_ble_eq_true rfl | simp [ByteArray.size]) (by first | assumption | exact Nat.le_of_ble_eq_true rfl | simp [ByteArray.size])).mono ?_; clear c0 c3 c4 c5 c6 hL hleft hprz hpmz; rintro e wn ⟨rfl, hm, hk⟩; replace HK := hidIt (HK.out.trans hk); replace HM := hidIt hm; obtain ⟨c0, c3, c4, c5, c6, hL, hleft, hprz, hpmz⟩ := hm.read2; clear hm hk)
      | (go_at_call 43; (with_reducible show Calls Try.prog 43 _ (World.alloc _ _) _); refine (method_any B pr pm _ _ _ _ _ _ _ _ (HM.out.below (below_alloc _ _)) (by omega) (by first | assumption | exact Nat.le_of_ble_eq_true rfl | simp [ByteArray.size]) (by first | assumption | exact Nat.le_of_ble_eq_true rfl | simp [ByteArray.size]) (by first | assumption | exact Nat.le_of_ble_eq_true rfl | simp [ByteArray.size])).mono ?_; clear c0 c3 c4 c5 c6 hL hleft hprz hpmz; rintro e wn ⟨rfl, hm, hk0⟩; have hk := (HM.out.kq (below_alloc _ _)).trans hk0; clear hk0; replace HK := hidIt (HK.out.trans hk); replace HM := hidIt hm; obtain ⟨c0, c3, c4, c5, c6, hL, hleft, hprz, hpmz⟩ := hm.read2; clear hm hk)
      | (go_at_call 43; refine (method_any B pr pm _ _ _ _ _ _ _ _ HM.out (by omega) (by first | assumption | exact Nat.le_of_ble_eq_true rfl | simp [ByteArray.size]) (by first | assumption | exact Nat.le_of_ble_eq_true rfl | simp [ByteArray.size]) (by first | assumption | exact Nat.le_of_ble_eq_true rfl | simp [ByteArray.size])).mono ?_; clear c0 c3 c4 c5 c6 hL hleft hprz hpmz; rintro e wn ⟨rfl, hm, hk⟩; replace HK := hidIt (HK.out.trans hk); replace HM := hidIt hm; obtain ⟨c0, c3, c4, c5, c6, hL, hleft, hprz, hpmz⟩ := hm.read2; clear hm hk)
      | (go_at_call 44; refine (class_any B pr pm _ _ _ _ _ _ HM.out (by omega) (by first | assumption | exact Nat.le_of_ble_eq_true rfl | simp [ByteArray.size])).mono ?_; clear c0 c3 c4 c5 c6 hL hleft hprz hpmz; rintro e wn ⟨rfl, hm, hk⟩; replace HK := hidIt (HK.out.trans hk); replace HM := hidIt hm; obtain ⟨c0, c3, c4, c5, c6, hL, hleft, hprz, hpmz⟩ := hm.read2; clear hm hk)
      | (go_at_call 68; refine (jump_any B pr pm _ _ _ _ _ _ _ HM.out (by omega)).mono ?_; clear c0 c3 c4 c5 c6 hL hleft hprz hpmz; rintro e wn ⟨rfl, hm, hk⟩; replace HK := hidIt (HK.out.trans hk); replace HM := hidIt hm; obtain ⟨c0, c3, c4, c5, c6, hL, hleft, hprz, hpmz⟩ := hm.read2; clear hm hk)
      | (go_at_call 69; refine (here_any B pr pm _ _ _ _ _ _ HM.out (by omega)).mono ?_; clear c0 c3 c4 c5 c6 hL hleft hprz hpmz; rintro e wn ⟨rfl, hm, hk⟩; replace HK := hidIt (HK.out.trans hk); replace HM := hidIt hm; obtain ⟨c0, c3, c4, c5, c6, hL, hleft, hprz, hpmz⟩ := hm.read2; clear hm hk)
      | (go_at_call 67; refine (mark_any B pr pm _ _ _ _ _ HM.out (by omega)).mono ?_; clear c0 c3 c4 c5 c6 hL hleft hprz hpmz; rintro e wn ⟨rfl, hm, hk⟩; replace HK := hidIt (HK.out.trans hk); replace HM := hidIt hm; obtain ⟨c0, c3, c4, c5, c6, hL, hleft, hprz, hpmz⟩ := hm.read2; clear hm hk)
      | (go_at_call 30; (with_reducible show Calls Try.prog 30 #[_, Value.int IntKind.i64 1] _ _); refine (N1.out _ _ _ _ _ _ _ _ HM.out (by omega)).mono ?_; clear c0 c3 c4 c5 c6 hL hleft hprz hpmz; rintro e wn ⟨rfl, σn, hr, hm, hk⟩; replace HK := hidIt (HK.out.trans hk); replace HM := hidIt hm; obtain ⟨c0, c3, c4, c5, c6, hL, hleft, hprz, hpmz⟩ := hm.read2; clear hm hk)
      | (go_at_call 30; (with_reducible show Calls Try.prog 30 #[_, Value.int IntKind.i64 2] _ _); refine (N2.out _ _ _ _ _ _ _ _ HM.out (by omega)).mono ?_; clear c0 c3 c4 c5 c6 hL hleft hprz hpmz; rintro e wn ⟨rfl, σn, hr, hm, hk⟩; replace HK := hidIt (HK.out.trans hk); replace HM := hidIt hm; obtain ⟨c0, c3, c4, c5, c6, hL, hleft, hprz, hpmz⟩ := hm.read2; clear hm hk)
      | (go_at_call 41; (with_reducible show Calls Try.prog 41 #[_, Value.int IntKind.i64 1] _ _); refine (R1.out _ _ _ _ _ _ _ _ HM.out (by omega)).mono ?_; clear c0 c3 c4 c5 c6 hL hleft hprz hpmz; rintro e wn ⟨rfl, σn, hr, hm, hk⟩; replace HK := hidIt (HK.out.trans hk); replace HM := hidIt hm; obtain ⟨c0, c3, c4, c5, c6, hL, hleft, hprz, hpmz⟩ := hm.read2; clear hm hk)
      | (go_at_call 41; (with_reducible show Calls Try.prog 41 #[_, Value.int IntKind.i64 2] _ _); refine (R2.out _ _ _ _ _ _ _ _ HM.out (by omega)).mono ?_; clear c0 c3 c4 c5 c6 hL hleft hprz hpmz; rintro e wn ⟨rfl, σn, hr, hm, hk⟩; replace HK := hidIt (HK.out.trans hk); replace HM := hidIt hm; obtain ⟨c0, c3, c4, c5, c6, hL, hleft, hprz, hpmz⟩ := hm.read2; clear hm hk))
    go_end0
    refine ⟨rfl, _, ?_, HM.out.mono (by omega), HK.out⟩
    first | exact Thr.t0 | exact Thr.t1 | exact Thr.t2 | exact Thr.t3 _ (by omega)
end Go.Proofs.Ytlnapfeglbdecaa.M
