/- Texts MQ NP MRc. -/
import Derived.Test.YtlnapfeglbdecaaBm11
import Derived.Test.YtlnapfeglbdecaaBm19
import Derived.Test.YtlnapfeglbdecaaBm13
import Derived.Test.YtlnapfeglbdecaaBm10
namespace Go.Proofs.Ytlnapfeglbdecaa.M
open Go.RowKit
def SG.slot (σ : SG) (i : Nat) : SG := if i < 4 then (σ.put 3 0 0).put 54 (i : Int) 0 else (σ.put 1 0 0).put 58 (i : Int) 0
def SG.slots (σ : SG) (l : List Nat) : SG := l.foldl SG.slot σ
theorem types_false (B pr pm n d : Nat) (σ : SG) (w : World) (h : Mk B pr pm n d false σ w) :
    Calls Try.prog 38 #[.pointer (some ⟨pm, 0, none⟩)] w fun e w' => e = .returned (.slice (some ⟨w.heap.size, 0, none⟩) 10 10) ∧ w' = w.alloc (.cells (kinds false).toArray 9) := types_any B pr pm n d false σ w h
theorem types_true (B pr pm n d : Nat) (σ : SG) (w : World) (h : Mk B pr pm n d true σ w) :
    Calls Try.prog 38 #[.pointer (some ⟨pm, 0, none⟩)] w fun e w' => e = .returned (.slice (some ⟨w.heap.size, 0, none⟩) 4 4) ∧ w' = w.alloc (.cells (kinds true).toArray 9) := types_any B pr pm n d true σ w h
set_option maxRecDepth 8000 in
set_option maxHeartbeats 40000000 in
theorem begin_main (B pr pm n d : Nat) (σ : SG) (w : World) (h : Mk B pr pm n d false σ w) (hn : n ≤ 800000) :
    Calls Try.prog 37 #[.pointer (some ⟨pm, 0, none⟩), .int .i64 0] w fun e w' => e = .returned (.tuple #[]) ∧ Mk B pr pm (n + 20) d false (σ.slots [0, 1, 2, 3, 4, 5, 6, 7, 8, 9]) w' ∧ Kq B pr w w' := by
  have HM := hidIt h
  have HK := hidIt (Kq.refl B pr w)
  obtain ⟨c0, c3, c4, c5, c6, hL, hleft⟩ := h.read
  have hprz := h.pr_lt
  have hpmz := h.pm_lt
  clear h
  go_enter Try.func37, Try.ntmps37
  go_wp2_with (go_at_call 38; refine (types_false B pr pm _ _ _ _ HM.out).mono ?_; rintro e wn ⟨rfl, rfl⟩)
  go_loopw [5] (fun i_ wr => ∃ (j N : Nat) (σ' : SG), i_ = .int .i64 (j : Int) ∧ 0 ≤ j ∧ j ≤ 10 ∧ Mk B pr pm N d false σ' wr ∧ N ≤ n + 2 * j ∧ Kq B pr w wr ∧ wr.heap[w.heap.size]? = some (.cells (kinds false).toArray 9 (0, 0)) ∧ σ' = σ.slots (([0, 1, 2, 3, 4, 5, 6, 7, 8, 9] : List Nat).filter (fun i => decide (i < j)))) (fun i_ _ => 10 - (intOf i_).toNat)
  case atStart =>
    exact ⟨0, n, σ, by go_num, by omega, by omega, HM.out.below (below_alloc _ _), by omega, HM.out.kq (below_alloc _ _), heap_alloc_new w _, rfl⟩
  case round =>
      clear HM HK c0 c3 c4 c5 c6 hL hleft hprz hpmz
      obtain ⟨j, N, σ', rfl, hj1, hjK, hm, hN, hk, hz, hs⟩ := hrel
      have HM := hidIt hm
      have HK := hidIt hk
      have HZ := hidIt hz
      have HS := hidIt hs
      obtain ⟨c0, c3, c4, c5, c6, hL, hleft⟩ := hm.read
      have hprz := hm.pr_lt
      have hpmz := hm.pm_lt
      clear hm hk hz hs
      have hj' : j = 0 ∨ j = 1 ∨ j = 2 ∨ j = 3 ∨ j = 4 ∨ j = 5 ∨ j = 6 ∨ j = 7 ∨ j = 8 ∨ j = 9 ∨ j = 10 := by omega
      rcases hj' with rfl | rfl | rfl | rfl | rfl | rfl | rfl | rfl | rfl | rfl | rfl
      · have cz : wr.cell? ⟨w.heap.size, 0, none⟩ = some (.string ⟨#[73]⟩) := cell_row HZ.out 0 rfl
        have ez : ((⟨#[73]⟩ : ByteArray).toList == (⟨#[73]⟩ : ByteArray).toList) = true := by kernel_rfl
        go_wp2_with (go_at_call 27; refine (put_same B pr pm _ _ _ _ _ _ _ _ HM.out (by omega)).mono ?_; clear c0 c3 c4 c5 c6 hL hleft hprz hpmz; rintro e wn ⟨rfl, hm, hk, hsm⟩; have HZ2 := hidIt (hsm _ _ HZ.out); clear HZ hsm; have HZ := HZ2; clear HZ2; replace HK := hidIt (HK.out.trans hk); replace HM := hidIt hm; obtain ⟨c0, c3, c4, c5, c6, hL, hleft, hprz, hpmz⟩ := hm.read2; clear hm hk)
        exact ⟨⟨1, _, _, by go_num, by omega, by omega, HM.out, by omega, HK.out, HZ.out, by rw [HS.out]; rfl⟩, by simp [intOf]⟩
      · have cz : wr.cell? ⟨w.heap.size, 1, none⟩ = some (.string ⟨#[73]⟩) := cell_row HZ.out 1 rfl
        have ez : ((⟨#[73]⟩ : ByteArray).toList == (⟨#[73]⟩ : ByteArray).toList) = true := by kernel_rfl
        go_wp2_with (go_at_call 27; refine (put_same B pr pm _ _ _ _ _ _ _ _ HM.out (by omega)).mono ?_; clear c0 c3 c4 c5 c6 hL hleft hprz hpmz; rintro e wn ⟨rfl, hm, hk, hsm⟩; have HZ2 := hidIt (hsm _ _ HZ.out); clear HZ hsm; have HZ := HZ2; clear HZ2; replace HK := hidIt (HK.out.trans hk); replace HM := hidIt hm; obtain ⟨c0, c3, c4, c5, c6, hL, hleft, hprz, hpmz⟩ := hm.read2; clear hm hk)
        exact ⟨⟨2, _, _, by go_num, by omega, by omega, HM.out, by omega, HK.out, HZ.out, by rw [HS.out]; rfl⟩, by simp [intOf]⟩
      · have cz : wr.cell? ⟨w.heap.size, 2, none⟩ = some (.string ⟨#[73]⟩) := cell_row HZ.out 2 rfl
        have ez : ((⟨#[73]⟩ : ByteArray).toList == (⟨#[73]⟩ : ByteArray).toList) = true := by kernel_rfl
        go_wp2_with (go_at_call 27; refine (put_same B pr pm _ _ _ _ _ _ _ _ HM.out (by omega)).mono ?_; clear c0 c3 c4 c5 c6 hL hleft hprz hpmz; rintro e wn ⟨rfl, hm, hk, hsm⟩; have HZ2 := hidIt (hsm _ _ HZ.out); clear HZ hsm; have HZ := HZ2; clear HZ2; replace HK := hidIt (HK.out.trans hk); replace HM := hidIt hm; obtain ⟨c0, c3, c4, c5, c6, hL, hleft, hprz, hpmz⟩ := hm.read2; clear hm hk)
        exact ⟨⟨3, _, _, by go_num, by omega, by omega, HM.out, by omega, HK.out, HZ.out, by rw [HS.out]; rfl⟩, by simp [intOf]⟩
      · have cz : wr.cell? ⟨w.heap.size, 3, none⟩ = some (.string ⟨#[73]⟩) := cell_row HZ.out 3 rfl
        have ez : ((⟨#[73]⟩ : ByteArray).toList == (⟨#[73]⟩ : ByteArray).toList) = true := by kernel_rfl
        go_wp2_with (go_at_call 27; refine (put_same B pr pm _ _ _ _ _ _ _ _ HM.out (by omega)).mono ?_; clear c0 c3 c4 c5 c6 hL hleft hprz hpmz; rintro e wn ⟨rfl, hm, hk, hsm⟩; have HZ2 := hidIt (hsm _ _ HZ.out); clear HZ hsm; have HZ := HZ2; clear HZ2; replace HK := hidIt (HK.out.trans hk); replace HM := hidIt hm; obtain ⟨c0, c3, c4, c5, c6, hL, hleft, hprz, hpmz⟩ := hm.read2; clear hm hk)
        exact ⟨⟨4, _, _, by go_num, by omega, by omega, HM.out, by omega, HK.out, HZ.out, by rw [HS.out]; rfl⟩, by simp [intOf]⟩
      · have cz : wr.cell? ⟨w.heap.size, 4, none⟩ = some (.string ⟨#[76, 65, 59]⟩) := cell_row HZ.out 4 rfl
        have ez : ((⟨#[76, 65, 59]⟩ : ByteArray).toList == (⟨#[73]⟩ : ByteArray).toList) = false := by kernel_rfl
        go_wp2_with (go_at_call 27; refine (put_same B pr pm _ _ _ _ _ _ _ _ HM.out (by omega)).mono ?_; clear c0 c3 c4 c5 c6 hL hleft hprz hpmz; rintro e wn ⟨rfl, hm, hk, hsm⟩; have HZ2 := hidIt (hsm _ _ HZ.out); clear HZ hsm; have HZ := HZ2; clear HZ2; replace HK := hidIt (HK.out.trans hk); replace HM := hidIt hm; obtain ⟨c0, c3, c4, c5, c6, hL, hleft, hprz, hpmz⟩ := hm.read2; clear hm hk)
        exact ⟨⟨5, _, _, by go_num, by omega, by omega, HM.out, by omega, HK.out, HZ.out, by rw [HS.out]; rfl⟩, by simp [intOf]⟩
      · have cz : wr.cell? ⟨w.heap.size, 5, none⟩ = some (.string ⟨#[76, 65, 59]⟩) := cell_row HZ.out 5 rfl
        have ez : ((⟨#[76, 65, 59]⟩ : ByteArray).toList == (⟨#[73]⟩ : ByteArray).toList) = false := by kernel_rfl
        go_wp2_with (go_at_call 27; refine (put_same B pr pm _ _ _ _ _ _ _ _ HM.out (by omega)).mono ?_; clear c0 c3 c4 c5 c6 hL hleft hprz hpmz; rintro e wn ⟨rfl, hm, hk, hsm⟩; have HZ2 := hidIt (hsm _ _ HZ.out); clear HZ hsm; have HZ := HZ2; clear HZ2; replace HK := hidIt (HK.out.trans hk); replace HM := hidIt hm; obtain ⟨c0, c3, c4, c5, c6, hL, hleft, hprz, hpmz⟩ := hm.read2; clear hm hk)
        exact ⟨⟨6, _, _, by go_num, by omega, by omega, HM.out, by omega, HK.out, HZ.out, by rw [HS.out]; rfl⟩, by simp [intOf]⟩
      · have cz : wr.cell? ⟨w.heap.size, 6, none⟩ = some (.string ⟨#[91, 73]⟩) := cell_row HZ.out 6 rfl
        have ez : ((⟨#[91, 73]⟩ : ByteArray).toList == (⟨#[73]⟩ : ByteArray).toList) = false := by kernel_rfl
        go_wp2_with (go_at_call 27; refine (put_same B pr pm _ _ _ _ _ _ _ _ HM.out (by omega)).mono ?_; clear c0 c3 c4 c5 c6 hL hleft hprz hpmz; rintro e wn ⟨rfl, hm, hk, hsm⟩; have HZ2 := hidIt (hsm _ _ HZ.out); clear HZ hsm; have HZ := HZ2; clear HZ2; replace HK := hidIt (HK.out.trans hk); replace HM := hidIt hm; obtain ⟨c0, c3, c4, c5, c6, hL, hleft, hprz, hpmz⟩ := hm.read2; clear hm hk)
        exact ⟨⟨7, _, _, by go_num, by omega, by omega, HM.out, by omega, HK.out, HZ.out, by rw [HS.out]; rfl⟩, by simp [intOf]⟩
      · have cz : wr.cell? ⟨w.heap.size, 7, none⟩ = some (.string ⟨#[76, 84, 104, 114, 111, 119, 97, 98, 108, 101, 59]⟩) := cell_row HZ.out 7 rfl
        have ez : ((⟨#[76, 84, 104, 114, 111, 119, 97, 98, 108, 101, 59]⟩ : ByteArray).toList == (⟨#[73]⟩ : ByteArray).toList) = false := by kernel_rfl
        go_wp2_with (go_at_call 27; refine (put_same B pr pm _ _ _ _ _ _ _ _ HM.out (by omega)).mono ?_; clear c0 c3 c4 c5 c6 hL hleft hprz hpmz; rintro e wn ⟨rfl, hm, hk, hsm⟩; have HZ2 := hidIt (hsm _ _ HZ.out); clear HZ hsm; have HZ := HZ2; clear HZ2; replace HK := hidIt (HK.out.trans hk); replace HM := hidIt hm; obtain ⟨c0, c3, c4, c5, c6, hL, hleft, hprz, hpmz⟩ := hm.read2; clear hm hk)
        exact ⟨⟨8, _, _, by go_num, by omega, by omega, HM.out, by omega, HK.out, HZ.out, by rw [HS.out]; rfl⟩, by simp [intOf]⟩
      · have cz : wr.cell? ⟨w.heap.size, 8, none⟩ = some (.string ⟨#[76, 84, 59]⟩) := cell_row HZ.out 8 rfl
        have ez : ((⟨#[76, 84, 59]⟩ : ByteArray).toList == (⟨#[73]⟩ : ByteArray).toList) = false := by kernel_rfl
        go_wp2_with (go_at_call 27; refine (put_same B pr pm _ _ _ _ _ _ _ _ HM.out (by omega)).mono ?_; clear c0 c3 c4 c5 c6 hL hleft hprz hpmz; rintro e wn ⟨rfl, hm, hk, hsm⟩; have HZ2 := hidIt (hsm _ _ HZ.out); clear HZ hsm; have HZ := HZ2; clear HZ2; replace HK := hidIt (HK.out.trans hk); replace HM := hidIt hm; obtain ⟨c0, c3, c4, c5, c6, hL, hleft, hprz, hpmz⟩ := hm.read2; clear hm hk)
        exact ⟨⟨9, _, _, by go_num, by omega, by omega, HM.out, by omega, HK.out, HZ.out, by rw [HS.out]; rfl⟩, by simp [intOf]⟩
      · have cz : wr.cell? ⟨w.heap.size, 9, none⟩ = some (.string ⟨#[91, 76, 65, 59]⟩) := cell_row HZ.out 9 rfl
        have ez : ((⟨#[91, 76, 65, 59]⟩ : ByteArray).toList == (⟨#[73]⟩ : ByteArray).toList) = false := by kernel_rfl
        go_wp2_with (go_at_call 27; refine (put_same B pr pm _ _ _ _ _ _ _ _ HM.out (by omega)).mono ?_; clear c0 c3 c4 c5 c6 hL hleft hprz hpmz; rintro e wn ⟨rfl, hm, hk, hsm⟩; have HZ2 := hidIt (hsm _ _ HZ.out); clear HZ hsm; have HZ := HZ2; clear HZ2; replace HK := hidIt (HK.out.trans hk); replace HM := hidIt hm; obtain ⟨c0, c3, c4, c5, c6, hL, hleft, hprz, hpmz⟩ := hm.read2; clear hm hk)
        exact ⟨⟨10, _, _, by go_num, by omega, by omega, HM.out, by omega, HK.out, HZ.out, by rw [HS.out]; rfl⟩, by simp [intOf]⟩
      · go_wp2
        go_end0
        refine ⟨rfl, ?_, HK.out⟩
        have := HM.out.mono (n' := n + 20) (by omega)
        rw [HS.out] at this
        exact this
set_option maxRecDepth 8000 in
set_option maxHeartbeats 40000000 in
theorem begin_calc (B pr pm n d : Nat) (σ : SG) (w : World) (h : Mk B pr pm n d true σ w) (hn : n ≤ 800000) :
    Calls Try.prog 37 #[.pointer (some ⟨pm, 0, none⟩), .int .i64 2] w fun e w' => e = .returned (.tuple #[]) ∧ Mk B pr pm (n + 20) d true (σ.slots [2, 3]) w' ∧ Kq B pr w w' := by
  have HM := hidIt h
  have HK := hidIt (Kq.refl B pr w)
  obtain ⟨c0, c3, c4, c5, c6, hL, hleft⟩ := h.read
  have hprz := h.pr_lt
  have hpmz := h.pm_lt
  clear h
  go_enter Try.func37, Try.ntmps37
  go_wp2_with (go_at_call 38; refine (types_true B pr pm _ _ _ _ HM.out).mono ?_; rintro e wn ⟨rfl, rfl⟩)
  go_loopw [5] (fun i_ wr => ∃ (j N : Nat) (σ' : SG), i_ = .int .i64 (j : Int) ∧ 2 ≤ j ∧ j ≤ 4 ∧ Mk B pr pm N d true σ' wr ∧ N ≤ n + 2 * j ∧ Kq B pr w wr ∧ wr.heap[w.heap.size]? = some (.cells (kinds true).toArray 9 (0, 0)) ∧ σ' = σ.slots (([2, 3] : List Nat).filter (fun i => decide (i < j)))) (fun i_ _ => 4 - (intOf i_).toNat)
  case atStart =>
    exact ⟨2, n, σ, by go_num, by omega, by omega, HM.out.below (below_alloc _ _), by omega, HM.out.kq (below_alloc _ _), heap_alloc_new w _, rfl⟩
  case round =>
      clear HM HK c0 c3 c4 c5 c6 hL hleft hprz hpmz
      obtain ⟨j, N, σ', rfl, hj1, hjK, hm, hN, hk, hz, hs⟩ := hrel
      have HM := hidIt hm
      have HK := hidIt hk
      have HZ := hidIt hz
      have HS := hidIt hs
      obtain ⟨c0, c3, c4, c5, c6, hL, hleft⟩ := hm.read
      have hprz := hm.pr_lt
      have hpmz := hm.pm_lt
      clear hm hk hz hs
      have hj' : j = 2 ∨ j = 3 ∨ j = 4 := by omega
      rcases hj' with rfl | rfl | rfl
      · have cz : wr.cell? ⟨w.heap.size, 2, none⟩ = some (.string ⟨#[73]⟩) := cell_row HZ.out 2 rfl
        have ez : ((⟨#[73]⟩ : ByteArray).toList == (⟨#[73]⟩ : ByteArray).toList) = true := by kernel_rfl
        go_wp2_with (go_at_call 27; refine (put_same B pr pm _ _ _ _ _ _ _ _ HM.out (by omega)).mono ?_; clear c0 c3 c4 c5 c6 hL hleft hprz hpmz; rintro e wn ⟨rfl, hm, hk, hsm⟩; have HZ2 := hidIt (hsm _ _ HZ.out); clear HZ hsm; have HZ := HZ2; clear HZ2; replace HK := hidIt (HK.out.trans hk); replace HM := hidIt hm; obtain ⟨c0, c3, c4, c5, c6, hL, hleft, hprz, hpmz⟩ := hm.read2; clear hm hk)
        exact ⟨⟨3, _, _, by go_num, by omega, by omega, HM.out, by omega, HK.out, HZ.out, by rw [HS.out]; rfl⟩, by simp [intOf]⟩
      · have cz : wr.cell? ⟨w.heap.size, 3, none⟩ = some (.string ⟨#[73]⟩) := cell_row HZ.out 3 rfl
        have ez : ((⟨#[73]⟩ : ByteArray).toList == (⟨#[73]⟩ : ByteArray).toList) = true := by kernel_rfl
        go_wp2_with (go_at_call 27; refine (put_same B pr pm _ _ _ _ _ _ _ _ HM.out (by omega)).mono ?_; clear c0 c3 c4 c5 c6 hL hleft hprz hpmz; rintro e wn ⟨rfl, hm, hk, hsm⟩; have HZ2 := hidIt (hsm _ _ HZ.out); clear HZ hsm; have HZ := HZ2; clear HZ2; replace HK := hidIt (HK.out.trans hk); replace HM := hidIt hm; obtain ⟨c0, c3, c4, c5, c6, hL, hleft, hprz, hpmz⟩ := hm.read2; clear hm hk)
        exact ⟨⟨4, _, _, by go_num, by omega, by omega, HM.out, by omega, HK.out, HZ.out, by rw [HS.out]; rfl⟩, by simp [intOf]⟩
      · go_wp2
        go_end0
        refine ⟨rfl, ?_, HK.out⟩
        have := HM.out.mono (n' := n + 20) (by omega)
        rw [HS.out] at this
        exact this
set_option maxRecDepth 8000 in
set_option maxHeartbeats 40000000 in
theorem fill_go (B pr pm n d : Nat) (σ : SG) (F : Int) (w : World) (h : Mk B pr pm n d false σ w) (hn : n ≤ 800000) :
    Calls Try.prog 28 #[.pointer (some ⟨pm, 0, none⟩), .bool false, .string ⟨#[103, 111]⟩, .int .i64 F] w fun e w' => e = .returned (.tuple #[]) ∧ Mk B pr pm (n + 20) d false (σ.slots [3, 5, 6, 7, 8, 9]) w' ∧ Kq B pr w w' := by
  have HM := hidIt h
  have HK := hidIt (Kq.refl B pr w)
  obtain ⟨c0, c3, c4, c5, c6, hL, hleft⟩ := h.read
  have hprz := h.pr_lt
  have hpmz := h.pm_lt
  clear h
  have eg : ((⟨#[103, 111]⟩ : ByteArray).toList == (⟨#[103, 111]⟩ : ByteArray).toList) = true := by kernel_rfl
  have er : ((⟨#[103, 111]⟩ : ByteArray).toList == (⟨#[114, 117, 110]⟩ : ByteArray).toList) = false := by kernel_rfl
  go_enter Try.func28, Try.ntmps28
  go_wp2_with (go_at_call 38; refine (types_false B pr pm _ _ _ _ HM.out).mono ?_; rintro e wn ⟨rfl, rfl⟩)
  go_loopw [9] (fun i_ wr => ∃ (j N : Nat) (σ' : SG), i_ = .int .i64 (j : Int) ∧ 1 ≤ j ∧ j ≤ 10 ∧ Mk B pr pm N d false σ' wr ∧ N ≤ n + 2 * j ∧ Kq B pr w wr ∧ wr.heap[w.heap.size]? = some (.cells (kinds false).toArray 9 (0, 0)) ∧ σ' = σ.slots (([3, 5, 6, 7, 8, 9] : List Nat).filter (fun i => decide (i < j)))) (fun i_ _ => 10 - (intOf i_).toNat)
  case atStart =>
    exact ⟨1, n, σ, by go_num, by omega, by omega, HM.out.below (below_alloc _ _), by omega, HM.out.kq (below_alloc _ _), heap_alloc_new w _, rfl⟩
  case round =>
      clear HM HK c0 c3 c4 c5 c6 hL hleft hprz hpmz
      obtain ⟨j, N, σ', rfl, hj1, hjK, hm, hN, hk, hz, hs⟩ := hrel
      have HM := hidIt hm
      have HK := hidIt hk
      have HZ := hidIt hz
      have HS := hidIt hs
      obtain ⟨c0, c3, c4, c5, c6, hL, hleft⟩ := hm.read
      have hprz := hm.pr_lt
      have hpmz := hm.pm_lt
      clear hm hk hz hs
      have hj' : j = 1 ∨ j = 2 ∨ j = 3 ∨ j = 4 ∨ j = 5 ∨ j = 6 ∨ j = 7 ∨ j = 8 ∨ j = 9 ∨ j = 10 := by omega
      rcases hj' with rfl | rfl | rfl | rfl | rfl | rfl | rfl | rfl | rfl | rfl
      · go_wp2_with (go_at_call 27; refine (put_same B pr pm _ _ _ _ _ _ _ _ HM.out (by omega)).mono ?_; clear c0 c3 c4 c5 c6 hL hleft hprz hpmz; rintro e wn ⟨rfl, hm, hk, hsm⟩; have HZ2 := hidIt (hsm _ _ HZ.out); clear HZ hsm; have HZ := HZ2; clear HZ2; replace HK := hidIt (HK.out.trans hk); replace HM := hidIt hm; obtain ⟨c0, c3, c4, c5, c6, hL, hleft, hprz, hpmz⟩ := hm.read2; clear hm hk)
        exact ⟨⟨2, _, _, by go_num, by omega, by omega, HM.out, by omega, HK.out, HZ.out, by rw [HS.out]; rfl⟩, by simp [intOf]⟩
      · go_wp2_with (go_at_call 27; refine (put_same B pr pm _ _ _ _ _ _ _ _ HM.out (by omega)).mono ?_; clear c0 c3 c4 c5 c6 hL hleft hprz hpmz; rintro e wn ⟨rfl, hm, hk, hsm⟩; have HZ2 := hidIt (hsm _ _ HZ.out); clear HZ hsm; have HZ := HZ2; clear HZ2; replace HK := hidIt (HK.out.trans hk); replace HM := hidIt hm; obtain ⟨c0, c3, c4, c5, c6, hL, hleft, hprz, hpmz⟩ := hm.read2; clear hm hk)
        exact ⟨⟨3, _, _, by go_num, by omega, by omega, HM.out, by omega, HK.out, HZ.out, by rw [HS.out]; rfl⟩, by simp [intOf]⟩
      · have cz : wr.cell? ⟨w.heap.size, 3, none⟩ = some (.string ⟨#[73]⟩) := cell_row HZ.out 3 rfl
        have ez : ((⟨#[73]⟩ : ByteArray).toList == (⟨#[73]⟩ : ByteArray).toList) = true := by kernel_rfl
        go_wp2_with (go_at_call 27; refine (put_same B pr pm _ _ _ _ _ _ _ _ HM.out (by omega)).mono ?_; clear c0 c3 c4 c5 c6 hL hleft hprz hpmz; rintro e wn ⟨rfl, hm, hk, hsm⟩; have HZ2 := hidIt (hsm _ _ HZ.out); clear HZ hsm; have HZ := HZ2; clear HZ2; replace HK := hidIt (HK.out.trans hk); replace HM := hidIt hm; obtain ⟨c0, c3, c4, c5, c6, hL, hleft, hprz, hpmz⟩ := hm.read2; clear hm hk)
        exact ⟨⟨4, _, _, by go_num, by omega, by omega, HM.out, by omega, HK.out, HZ.out, by rw [HS.out]; rfl⟩, by simp [intOf]⟩
      · go_wp2_with (go_at_call 27; refine (put_same B pr pm _ _ _ _ _ _ _ _ HM.out (by omega)).mono ?_; clear c0 c3 c4 c5 c6 hL hleft hprz hpmz; rintro e wn ⟨rfl, hm, hk, hsm⟩; have HZ2 := hidIt (hsm _ _ HZ.out); clear HZ hsm; have HZ := HZ2; clear HZ2; replace HK := hidIt (HK.out.trans hk); replace HM := hidIt hm; obtain ⟨c0, c3, c4, c5, c6, hL, hleft, hprz, hpmz⟩ := hm.read2; clear hm hk)
        exact ⟨⟨5, _, _, by go_num, by omega, by omega, HM.out, by omega, HK.out, HZ.out, by rw [HS.out]; rfl⟩, by simp [intOf]⟩
      · have cz : wr.cell? ⟨w.heap.size, 5, none⟩ = some (.string ⟨#[76, 65, 59]⟩) := cell_row HZ.out 5 rfl
        have ez : ((⟨#[76, 65, 59]⟩ : ByteArray).toList == (⟨#[73]⟩ : ByteArray).toList) = false := by kernel_rfl
        go_wp2_with (go_at_call 27; refine (put_same B pr pm _ _ _ _ _ _ _ _ HM.out (by omega)).mono ?_; clear c0 c3 c4 c5 c6 hL hleft hprz hpmz; rintro e wn ⟨rfl, hm, hk, hsm⟩; have HZ2 := hidIt (hsm _ _ HZ.out); clear HZ hsm; have HZ := HZ2; clear HZ2; replace HK := hidIt (HK.out.trans hk); replace HM := hidIt hm; obtain ⟨c0, c3, c4, c5, c6, hL, hleft, hprz, hpmz⟩ := hm.read2; clear hm hk)
        exact ⟨⟨6, _, _, by go_num, by omega, by omega, HM.out, by omega, HK.out, HZ.out, by rw [HS.out]; rfl⟩, by simp [intOf]⟩
      · have cz : wr.cell? ⟨w.heap.size, 6, none⟩ = some (.string ⟨#[91, 73]⟩) := cell_row HZ.out 6 rfl
        have ez : ((⟨#[91, 73]⟩ : ByteArray).toList == (⟨#[73]⟩ : ByteArray).toList) = false := by kernel_rfl
        go_wp2_with (go_at_call 27; refine (put_same B pr pm _ _ _ _ _ _ _ _ HM.out (by omega)).mono ?_; clear c0 c3 c4 c5 c6 hL hleft hprz hpmz; rintro e wn ⟨rfl, hm, hk, hsm⟩; have HZ2 := hidIt (hsm _ _ HZ.out); clear HZ hsm; have HZ := HZ2; clear HZ2; replace HK := hidIt (HK.out.trans hk); replace HM := hidIt hm; obtain ⟨c0, c3, c4, c5, c6, hL, hleft, hprz, hpmz⟩ := hm.read2; clear hm hk)
        exact ⟨⟨7, _, _, by go_num, by omega, by omega, HM.out, by omega, HK.out, HZ.out, by rw [HS.out]; rfl⟩, by simp [intOf]⟩
      · have cz : wr.cell? ⟨w.heap.size, 7, none⟩ = some (.string ⟨#[76, 84, 104, 114, 111, 119, 97, 98, 108, 101, 59]⟩) := cell_row HZ.out 7 rfl
        have ez : ((⟨#[76, 84, 104, 114, 111, 119, 97, 98, 108, 101, 59]⟩ : ByteArray).toList == (⟨#[73]⟩ : ByteArray).toList) = false := by kernel_rfl
        go_wp2_with (go_at_call 27; refine (put_same B pr pm _ _ _ _ _ _ _ _ HM.out (by omega)).mono ?_; clear c0 c3 c4 c5 c6 hL hleft hprz hpmz; rintro e wn ⟨rfl, hm, hk, hsm⟩; have HZ2 := hidIt (hsm _ _ HZ.out); clear HZ hsm; have HZ := HZ2; clear HZ2; replace HK := hidIt (HK.out.trans hk); replace HM := hidIt hm; obtain ⟨c0, c3, c4, c5, c6, hL, hleft, hprz, hpmz⟩ := hm.read2; clear hm hk)
        exact ⟨⟨8, _, _, by go_num, by omega, by omega, HM.out, by omega, HK.out, HZ.out, by rw [HS.out]; rfl⟩, by simp [intOf]⟩
      · have cz : wr.cell? ⟨w.heap.size, 8, none⟩ = some (.string ⟨#[76, 84, 59]⟩) := cell_row HZ.out 8 rfl
        have ez : ((⟨#[76, 84, 59]⟩ : ByteArray).toList == (⟨#[73]⟩ : ByteArray).toList) = false := by kernel_rfl
        go_wp2_with (go_at_call 27; refine (put_same B pr pm _ _ _ _ _ _ _ _ HM.out (by omega)).mono ?_; clear c0 c3 c4 c5 c6 hL hleft hprz hpmz; rintro e wn ⟨rfl, hm, hk, hsm⟩; have HZ2 := hidIt (hsm _ _ HZ.out); clear HZ hsm; have HZ := HZ2; clear HZ2; replace HK := hidIt (HK.out.trans hk); replace HM := hidIt hm; obtain ⟨c0, c3, c4, c5, c6, hL, hleft, hprz, hpmz⟩ := hm.read2; clear hm hk)
        exact ⟨⟨9, _, _, by go_num, by omega, by omega, HM.out, by omega, HK.out, HZ.out, by rw [HS.out]; rfl⟩, by simp [intOf]⟩
      · have cz : wr.cell? ⟨w.heap.size, 9, none⟩ = some (.string ⟨#[91, 76, 65, 59]⟩) := cell_row HZ.out 9 rfl
        have ez : ((⟨#[91, 76, 65, 59]⟩ : ByteArray).toList == (⟨#[73]⟩ : ByteArray).toList) = false := by kernel_rfl
        go_wp2_with (go_at_call 27; refine (put_same B pr pm _ _ _ _ _ _ _ _ HM.out (by omega)).mono ?_; clear c0 c3 c4 c5 c6 hL hleft hprz hpmz; rintro e wn ⟨rfl, hm, hk, hsm⟩; have HZ2 := hidIt (hsm _ _ HZ.out); clear HZ hsm; have HZ := HZ2; clear HZ2; replace HK := hidIt (HK.out.trans hk); replace HM := hidIt hm; obtain ⟨c0, c3, c4, c5, c6, hL, hleft, hprz, hpmz⟩ := hm.read2; clear hm hk)
        exact ⟨⟨10, _, _, by go_num, by omega, by omega, HM.out, by omega, HK.out, HZ.out, by rw [HS.out]; rfl⟩, by simp [intOf]⟩
      · go_wp2
        go_end0
        refine ⟨rfl, ?_, HK.out⟩
        have := HM.out.mono (n' := n + 20) (by omega)
        rw [HS.out] at this
        exact this
set_option maxRecDepth 8000 in
set_option maxHeartbeats 40000000 in
theorem fill_run (B pr pm n d : Nat) (σ : SG) (F : Int) (w : World) (h : Mk B pr pm n d false σ w) (hn : n ≤ 800000) :
    Calls Try.prog 28 #[.pointer (some ⟨pm, 0, none⟩), .bool false, .string ⟨#[114, 117, 110]⟩, .int .i64 F] w fun e w' => e = .returned (.tuple #[]) ∧ Mk B pr pm (n + 20) d false (σ.slots [2, 3, 4, 5, 6, 7, 9]) w' ∧ Kq B pr w w' := by
  have HM := hidIt h
  have HK := hidIt (Kq.refl B pr w)
  obtain ⟨c0, c3, c4, c5, c6, hL, hleft⟩ := h.read
  have hprz := h.pr_lt
  have hpmz := h.pm_lt
  clear h
  have eg : ((⟨#[114, 117, 110]⟩ : ByteArray).toList == (⟨#[103, 111]⟩ : ByteArray).toList) = false := by kernel_rfl
  have er : ((⟨#[114, 117, 110]⟩ : ByteArray).toList == (⟨#[114, 117, 110]⟩ : ByteArray).toList) = true := by kernel_rfl
  go_enter Try.func28, Try.ntmps28
  go_wp2_with (go_at_call 38; refine (types_false B pr pm _ _ _ _ HM.out).mono ?_; rintro e wn ⟨rfl, rfl⟩)
  go_loopw [9] (fun i_ wr => ∃ (j N : Nat) (σ' : SG), i_ = .int .i64 (j : Int) ∧ 1 ≤ j ∧ j ≤ 10 ∧ Mk B pr pm N d false σ' wr ∧ N ≤ n + 2 * j ∧ Kq B pr w wr ∧ wr.heap[w.heap.size]? = some (.cells (kinds false).toArray 9 (0, 0)) ∧ σ' = σ.slots (([2, 3, 4, 5, 6, 7, 9] : List Nat).filter (fun i => decide (i < j)))) (fun i_ _ => 10 - (intOf i_).toNat)
  case atStart =>
    exact ⟨1, n, σ, by go_num, by omega, by omega, HM.out.below (below_alloc _ _), by omega, HM.out.kq (below_alloc _ _), heap_alloc_new w _, rfl⟩
  case round =>
      clear HM HK c0 c3 c4 c5 c6 hL hleft hprz hpmz
      obtain ⟨j, N, σ', rfl, hj1, hjK, hm, hN, hk, hz, hs⟩ := hrel
      have HM := hidIt hm
      have HK := hidIt hk
      have HZ := hidIt hz
      have HS := hidIt hs
      obtain ⟨c0, c3, c4, c5, c6, hL, hleft⟩ := hm.read
      have hprz := hm.pr_lt
      have hpmz := hm.pm_lt
      clear hm hk hz hs
      have hj' : j = 1 ∨ j = 2 ∨ j = 3 ∨ j = 4 ∨ j = 5 ∨ j = 6 ∨ j = 7 ∨ j = 8 ∨ j = 9 ∨ j = 10 := by omega
      rcases hj' with rfl | rfl | rfl | rfl | rfl | rfl | rfl | rfl | rfl | rfl
      · go_wp2_with (go_at_call 27; refine (put_same B pr pm _ _ _ _ _ _ _ _ HM.out (by omega)).mono ?_; clear c0 c3 c4 c5 c6 hL hleft hprz hpmz; rintro e wn ⟨rfl, hm, hk, hsm⟩; have HZ2 := hidIt (hsm _ _ HZ.out); clear HZ hsm; have HZ := HZ2; clear HZ2; replace HK := hidIt (HK.out.trans hk); replace HM := hidIt hm; obtain ⟨c0, c3, c4, c5, c6, hL, hleft, hprz, hpmz⟩ := hm.read2; clear hm hk)
        exact ⟨⟨2, _, _, by go_num, by omega, by omega, HM.out, by omega, HK.out, HZ.out, by rw [HS.out]; rfl⟩, by simp [intOf]⟩
      · have cz : wr.cell? ⟨w.heap.size, 2, none⟩ = some (.string ⟨#[73]⟩) := cell_row HZ.out 2 rfl
        have ez : ((⟨#[73]⟩ : ByteArray).toList == (⟨#[73]⟩ : ByteArray).toList) = true := by kernel_rfl
        go_wp2_with (go_at_call 27; refine (put_same B pr pm _ _ _ _ _ _ _ _ HM.out (by omega)).mono ?_; clear c0 c3 c4 c5 c6 hL hleft hprz hpmz; rintro e wn ⟨rfl, hm, hk, hsm⟩; have HZ2 := hidIt (hsm _ _ HZ.out); clear HZ hsm; have HZ := HZ2; clear HZ2; replace HK := hidIt (HK.out.trans hk); replace HM := hidIt hm; obtain ⟨c0, c3, c4, c5, c6, hL, hleft, hprz, hpmz⟩ := hm.read2; clear hm hk)
        exact ⟨⟨3, _, _, by go_num, by omega, by omega, HM.out, by omega, HK.out, HZ.out, by rw [HS.out]; rfl⟩, by simp [intOf]⟩
      · have cz : wr.cell? ⟨w.heap.size, 3, none⟩ = some (.string ⟨#[73]⟩) := cell_row HZ.out 3 rfl
        have ez : ((⟨#[73]⟩ : ByteArray).toList == (⟨#[73]⟩ : ByteArray).toList) = true := by kernel_rfl
        go_wp2_with (go_at_call 27; refine (put_same B pr pm _ _ _ _ _ _ _ _ HM.out (by omega)).mono ?_; clear c0 c3 c4 c5 c6 hL hleft hprz hpmz; rintro e wn ⟨rfl, hm, hk, hsm⟩; have HZ2 := hidIt (hsm _ _ HZ.out); clear HZ hsm; have HZ := HZ2; clear HZ2; replace HK := hidIt (HK.out.trans hk); replace HM := hidIt hm; obtain ⟨c0, c3, c4, c5, c6, hL, hleft, hprz, hpmz⟩ := hm.read2; clear hm hk)
        exact ⟨⟨4, _, _, by go_num, by omega, by omega, HM.out, by omega, HK.out, HZ.out, by rw [HS.out]; rfl⟩, by simp [intOf]⟩
      · have cz : wr.cell? ⟨w.heap.size, 4, none⟩ = some (.string ⟨#[76, 65, 59]⟩) := cell_row HZ.out 4 rfl
        have ez : ((⟨#[76, 65, 59]⟩ : ByteArray).toList == (⟨#[73]⟩ : ByteArray).toList) = false := by kernel_rfl
        go_wp2_with (go_at_call 27; refine (put_same B pr pm _ _ _ _ _ _ _ _ HM.out (by omega)).mono ?_; clear c0 c3 c4 c5 c6 hL hleft hprz hpmz; rintro e wn ⟨rfl, hm, hk, hsm⟩; have HZ2 := hidIt (hsm _ _ HZ.out); clear HZ hsm; have HZ := HZ2; clear HZ2; replace HK := hidIt (HK.out.trans hk); replace HM := hidIt hm; obtain ⟨c0, c3, c4, c5, c6, hL, hleft, hprz, hpmz⟩ := hm.read2; clear hm hk)
        exact ⟨⟨5, _, _, by go_num, by omega, by omega, HM.out, by omega, HK.out, HZ.out, by rw [HS.out]; rfl⟩, by simp [intOf]⟩
      · have cz : wr.cell? ⟨w.heap.size, 5, none⟩ = some (.string ⟨#[76, 65, 59]⟩) := cell_row HZ.out 5 rfl
        have ez : ((⟨#[76, 65, 59]⟩ : ByteArray).toList == (⟨#[73]⟩ : ByteArray).toList) = false := by kernel_rfl
        go_wp2_with (go_at_call 27; refine (put_same B pr pm _ _ _ _ _ _ _ _ HM.out (by omega)).mono ?_; clear c0 c3 c4 c5 c6 hL hleft hprz hpmz; rintro e wn ⟨rfl, hm, hk, hsm⟩; have HZ2 := hidIt (hsm _ _ HZ.out); clear HZ hsm; have HZ := HZ2; clear HZ2; replace HK := hidIt (HK.out.trans hk); replace HM := hidIt hm; obtain ⟨c0, c3, c4, c5, c6, hL, hleft, hprz, hpmz⟩ := hm.read2; clear hm hk)
        exact ⟨⟨6, _, _, by go_num, by omega, by omega, HM.out, by omega, HK.out, HZ.out, by rw [HS.out]; rfl⟩, by simp [intOf]⟩
      · have cz : wr.cell? ⟨w.heap.size, 6, none⟩ = some (.string ⟨#[91, 73]⟩) := cell_row HZ.out 6 rfl
        have ez : ((⟨#[91, 73]⟩ : ByteArray).toList == (⟨#[73]⟩ : ByteArray).toList) = false := by kernel_rfl
        go_wp2_with (go_at_call 27; refine (put_same B pr pm _ _ _ _ _ _ _ _ HM.out (by omega)).mono ?_; clear c0 c3 c4 c5 c6 hL hleft hprz hpmz; rintro e wn ⟨rfl, hm, hk, hsm⟩; have HZ2 := hidIt (hsm _ _ HZ.out); clear HZ hsm; have HZ := HZ2; clear HZ2; replace HK := hidIt (HK.out.trans hk); replace HM := hidIt hm; obtain ⟨c0, c3, c4, c5, c6, hL, hleft, hprz, hpmz⟩ := hm.read2; clear hm hk)
        exact ⟨⟨7, _, _, by go_num, by omega, by omega, HM.out, by omega, HK.out, HZ.out, by rw [HS.out]; rfl⟩, by simp [intOf]⟩
      · have cz : wr.cell? ⟨w.heap.size, 7, none⟩ = some (.string ⟨#[76, 84, 104, 114, 111, 119, 97, 98, 108, 101, 59]⟩) := cell_row HZ.out 7 rfl
        have ez : ((⟨#[76, 84, 104, 114, 111, 119, 97, 98, 108, 101, 59]⟩ : ByteArray).toList == (⟨#[73]⟩ : ByteArray).toList) = false := by kernel_rfl
        go_wp2_with (go_at_call 27; refine (put_same B pr pm _ _ _ _ _ _ _ _ HM.out (by omega)).mono ?_; clear c0 c3 c4 c5 c6 hL hleft hprz hpmz; rintro e wn ⟨rfl, hm, hk, hsm⟩; have HZ2 := hidIt (hsm _ _ HZ.out); clear HZ hsm; have HZ := HZ2; clear HZ2; replace HK := hidIt (HK.out.trans hk); replace HM := hidIt hm; obtain ⟨c0, c3, c4, c5, c6, hL, hleft, hprz, hpmz⟩ := hm.read2; clear hm hk)
        exact ⟨⟨8, _, _, by go_num, by omega, by omega, HM.out, by omega, HK.out, HZ.out, by rw [HS.out]; rfl⟩, by simp [intOf]⟩
      · go_wp2_with (go_at_call 27; refine (put_same B pr pm _ _ _ _ _ _ _ _ HM.out (by omega)).mono ?_; clear c0 c3 c4 c5 c6 hL hleft hprz hpmz; rintro e wn ⟨rfl, hm, hk, hsm⟩; have HZ2 := hidIt (hsm _ _ HZ.out); clear HZ hsm; have HZ := HZ2; clear HZ2; replace HK := hidIt (HK.out.trans hk); replace HM := hidIt hm; obtain ⟨c0, c3, c4, c5, c6, hL, hleft, hprz, hpmz⟩ := hm.read2; clear hm hk)
        exact ⟨⟨9, _, _, by go_num, by omega, by omega, HM.out, by omega, HK.out, HZ.out, by rw [HS.out]; rfl⟩, by simp [intOf]⟩
      · have cz : wr.cell? ⟨w.heap.size, 9, none⟩ = some (.string ⟨#[91, 76, 65, 59]⟩) := cell_row HZ.out 9 rfl
        have ez : ((⟨#[91, 76, 65, 59]⟩ : ByteArray).toList == (⟨#[73]⟩ : ByteArray).toList) = false := by kernel_rfl
        go_wp2_with (go_at_call 27; refine (put_same B pr pm _ _ _ _ _ _ _ _ HM.out (by omega)).mono ?_; clear c0 c3 c4 c5 c6 hL hleft hprz hpmz; rintro e wn ⟨rfl, hm, hk, hsm⟩; have HZ2 := hidIt (hsm _ _ HZ.out); clear HZ hsm; have HZ := HZ2; clear HZ2; replace HK := hidIt (HK.out.trans hk); replace HM := hidIt hm; obtain ⟨c0, c3, c4, c5, c6, hL, hleft, hprz, hpmz⟩ := hm.read2; clear hm hk)
        exact ⟨⟨10, _, _, by go_num, by omega, by omega, HM.out, by omega, HK.out, HZ.out, by rw [HS.out]; rfl⟩, by simp [intOf]⟩
      · go_wp2
        go_end0
        refine ⟨rfl, ?_, HK.out⟩
        have := HM.out.mono (n' := n + 20) (by omega)
        rw [HS.out] at this
        exact this
set_option maxRecDepth 8000 in
set_option maxHeartbeats 4000000 in
theorem fill_main (B pr pm n d : Nat) (σ : SG) (nm : ByteArray) (w : World) (h : Mk B pr pm n d false σ w) (hn : n ≤ 800000) :
    Calls Try.prog 28 #[.pointer (some ⟨pm, 0, none⟩), .bool true, .string nm, .int .i64 0] w fun e w' => e = .returned (.tuple #[]) ∧ Mk B pr pm (n + 20) d false (σ.slots [0, 1, 2, 3, 4, 5, 6, 7, 8, 9]) w' ∧ Kq B pr w w' := by
  have G := hidIt (begin_main B pr pm n d σ w h hn)
  clear h
  go_enter Try.func28, Try.ntmps28
  go_wp2_with (go_at_call 37; refine G.out.mono ?_; rintro e wn ⟨rfl, hm, hk⟩)
  refine bodyPost_ret (results_none rfl _ _ _) rfl ?_
  exact ⟨rfl, hm, hk⟩
set_option maxRecDepth 8000 in
set_option maxHeartbeats 4000000 in
theorem fill_calc (B pr pm n d : Nat) (σ : SG) (nm : ByteArray) (w : World) (h : Mk B pr pm n d true σ w) (hn : n ≤ 800000) :
    Calls Try.prog 28 #[.pointer (some ⟨pm, 0, none⟩), .bool true, .string nm, .int .i64 2] w fun e w' => e = .returned (.tuple #[]) ∧ Mk B pr pm (n + 20) d true (σ.slots [2, 3]) w' ∧ Kq B pr w w' := by
  have G := hidIt (begin_calc B pr pm n d σ w h hn)
  clear h
  go_enter Try.func28, Try.ntmps28
  go_wp2_with (go_at_call 37; refine G.out.mono ?_; rintro e wn ⟨rfl, hm, hk⟩)
  refine bodyPost_ret (results_none rfl _ _ _) rfl ?_
  exact ⟨rfl, hm, hk⟩
end Go.Proofs.Ytlnapfeglbdecaa.M
namespace Go.Proofs.Ytlnapfeglbdecaa.M
open Go.RowKit

inductive BK
  | go
  | run
  | main
  | calc
def BK.pl : BK → Bool
  | .calc => true
  | _ => false
def BK.st : BK → Bool
  | .main => true
  | .calc => true
  | _ => false
def BK.gv : BK → Bool
  | .go => true
  | .calc => true
  | _ => false
def BK.nm : BK → ByteArray
  | .go => ⟨#[103, 111]⟩
  | .run => ⟨#[114, 117, 110]⟩
  | .main => ⟨#[109, 97, 105, 110]⟩
  | .calc => ⟨#[99, 97, 108, 99]⟩
def BK.ds : BK → ByteArray
  | .go => ⟨#[40, 73, 41, 73]⟩
  | .run => ⟨#[40, 41, 86]⟩
  | .main => ⟨#[40, 41, 86]⟩
  | .calc => ⟨#[40, 73, 73, 41, 73]⟩
def BK.fr : BK → Int
  | .go => 2
  | .run => 1
  | .main => 0
  | .calc => 2
def s0 (pool : List CD) : SG := ⟨pool, [], 0, 110, [], []⟩
def preG (σ : SG) : SG := (((((σ.put 25 0 0).put 58 4 0).put 21 1 0).put 54 2 0).put 3 0 0).put 54 0 0
def preR (σ : SG) : SG := (((((σ.put 25 0 0).put 58 8 0).put 3 0 0).put 54 0 0).put 3 0 0).put 54 1 0
def pre (k : BK) (pool : List CD) : SG := match k with
  | .go => (preG (s0 pool)).slots [3, 5, 6, 7, 8, 9]
  | .run => (preR (s0 pool)).slots [2, 3, 4, 5, 6, 7, 9]
  | .main => (s0 pool).slots [0, 1, 2, 3, 4, 5, 6, 7, 8, 9]
  | .calc => (s0 pool).slots [2, 3]
def BodyIs (k : BK) (pool : List CD) (σ : SG) : Prop := ∃ σ1, Sm 0 k.pl (pre k pool) σ1 ∧ if k.gv = true then ∃ σ2, Num 2 k.pl σ1 σ2 ∧ σ = σ2.put 172 0 0 else σ = σ1.put 177 0 0
theorem slot_rl {σ0 σ : SG} (h : Rl 0 σ0 σ) (i : Nat) (hi : i < 16) : Rl 0 σ0 (σ.slot i) := by
  unfold SG.slot
  split
  · exact (h.put (f1 3 (by decide))).put (f2 54 _ (by decide) (by omega) (by omega))
  · exact (h.put (f1 1 (by decide))).put (f2 58 _ (by decide) (by omega) (by omega))
theorem slots_rl {σ0 : SG} : ∀ (l : List Nat) (σ : SG), Rl 0 σ0 σ → (∀ i ∈ l, i < 16) → Rl 0 σ0 (σ.slots l)
  | [], _, h, _ => h
  | i :: l, σ, h, hl => slots_rl l (σ.slot i) (slot_rl h i (hl i (by simp))) (fun j hj => hl j (by simp [hj]))
theorem slot_left (σ : SG) (i : Nat) : (σ.slot i).left = σ.left - 2 ∧ (σ.slot i).labels = σ.labels := by
  unfold SG.slot
  split
  · exact ⟨by simp only [put_left]; omega, rfl⟩
  · exact ⟨by simp only [put_left]; omega, rfl⟩
theorem slots_left : ∀ (l : List Nat) (σ : SG), (σ.slots l).left = σ.left - 2 * (l.length : Int) ∧ (σ.slots l).labels = σ.labels
  | [], σ => ⟨by simp [SG.slots], rfl⟩
  | i :: l, σ => by
    have h := slots_left l (σ.slot i)
    have k := slot_left σ i
    refine ⟨?_, h.2.trans k.2⟩
    show ((σ.slot i).slots l).left = _
    rw [h.1, k.1]
    simp only [List.length_cons]
    omega
theorem preG_rl (σ : SG) : Rl 0 σ (preG σ) :=
  ((((((Rl.refl σ).put (f2 25 0 (by decide) (by omega) (by omega))).put (f2 58 4 (by decide) (by omega) (by omega))).put (f2 21 1 (by decide) (by omega) (by omega))).put (f2 54 2 (by decide) (by omega) (by omega))).put (f1 3 (by decide))).put (f2 54 0 (by decide) (by omega) (by omega))
theorem preR_rl (σ : SG) : Rl 0 σ (preR σ) :=
  ((((((Rl.refl σ).put (f2 25 0 (by decide) (by omega) (by omega))).put (f2 58 8 (by decide) (by omega) (by omega))).put (f1 3 (by decide))).put (f2 54 0 (by decide) (by omega) (by omega))).put (f1 3 (by decide))).put (f2 54 1 (by decide) (by omega) (by omega))
theorem pre_rl (k : BK) (pool : List CD) : Rl 0 (s0 pool) (pre k pool) := by
  cases k
  · exact slots_rl _ _ (preG_rl _) (by decide)
  · exact slots_rl _ _ (preR_rl _) (by decide)
  · exact slots_rl _ _ (Rl.refl _) (by decide)
  · exact slots_rl _ _ (Rl.refl _) (by decide)
theorem pre_left (k : BK) (pool : List CD) : 80 ≤ (pre k pool).left ∧ (pre k pool).labels = 0 := by
  cases k
  · have h := slots_left [3, 5, 6, 7, 8, 9] (preG (s0 pool)); exact ⟨by show 80 ≤ ((preG (s0 pool)).slots _).left; rw [h.1]; simp [preG, s0, SG.put], h.2⟩
  · have h := slots_left [2, 3, 4, 5, 6, 7, 9] (preR (s0 pool)); exact ⟨by show 80 ≤ ((preR (s0 pool)).slots _).left; rw [h.1]; simp [preR, s0, SG.put], h.2⟩
  · have h := slots_left [0, 1, 2, 3, 4, 5, 6, 7, 8, 9] (s0 pool); exact ⟨by show 80 ≤ ((s0 pool).slots _).left; rw [h.1]; simp [s0], h.2⟩
  · have h := slots_left [2, 3] (s0 pool); exact ⟨by show 80 ≤ ((s0 pool).slots _).left; rw [h.1]; simp [s0], h.2⟩
theorem good_s0 {pool : List CD} (h : pool.length ≤ 256) : Good (s0 pool) := ⟨fun x hx => by simp [s0] at hx, fun x hx => by simp [s0] at hx, h⟩
structure Made (pool : List CD) (σ : SG) : Prop where
  good : Good σ
  lab : σ.labels ≤ 54
  her : σ.heres = σ.labels
  ins : σ.ins ≤ 130
  pos : 1 ≤ σ.ins
theorem body_made {k : BK} {pool : List CD} {σ : SG} (h : BodyIs k pool σ) (hp : pool.length ≤ 256) : Made pool σ := by
  obtain ⟨σ1, h1, h2⟩ := h
  have r1 := (pre_rl k pool).tr0 h1.rl
  have l0 := pre_left k pool
  have l1 := h1.left
  have b1 := h1.l54 (by rw [l0.2]; omega)
  have hb : bnd 0 = -9 := by decide
  have hl1 : -9 ≤ σ1.left := by omega
  have hi0 : (s0 pool).ins = 0 := rfl
  have hh0 : (s0 pool).heres = 0 := rfl
  split at h2
  · obtain ⟨σ2, h3, rfl⟩ := h2
    have r2 := (r1.tr0 h3.rl).put (f1 172 (by decide))
    have l2 := h3.left
    have b2 := h3.lab
    have e := r2.ins
    have f := r2.bal
    simp only [put_left] at e
    have g2 : (s0 pool).left = 110 := rfl
    have g3 : (s0 pool).labels = 0 := rfl
    exact ⟨r2.good (good_s0 hp), by rw [put_lab, b2]; exact b1, by rw [hh0, g3] at f; omega, by rw [hi0, g2] at e; omega, by have := (heres_put σ2 172 0 0).2; omega⟩
  · subst h2
    have r2 := r1.put (f1 177 (by decide))
    have e := r2.ins
    have f := r2.bal
    simp only [put_left] at e
    have g2 : (s0 pool).left = 110 := rfl
    have g3 : (s0 pool).labels = 0 := rfl
    exact ⟨r2.good (good_s0 hp), by rw [put_lab]; exact b1, by rw [hh0, g3] at f; omega, by rw [hi0, g2] at e; omega, by have := (heres_put σ1 177 0 0).2; omega⟩
theorem cod_len (ps : List Int) : ∀ (l : List LN) (p : Int), (cod ps l p).length = (l.filter (fun x => !decide (0 ≤ x.hr))).length
  | [], _ => rfl
  | x :: l, p => by
    rw [cod_cons]
    by_cases h : 0 ≤ x.hr
    · rw [if_pos h, cod_len ps l p]; simp [h]
    · rw [if_neg h]; simp [h, cod_len ps l]
theorem Made.code {pool : List CD} {σ : SG} (h : Made pool σ) : (codeZ σ).length ≤ 400 := by
  have := h.ins
  have e : (codeZ σ).length = σ.ins := cod_len _ _ _
  omega
theorem Made.lines {pool : List CD} {σ : SG} (h : Made pool σ) : σ.ls.length ≤ 1000 := by
  have := h.ins
  have := h.lab
  have := h.her
  have := heres_ins σ
  omega
theorem Made.refs {pool : List CD} {σ : SG} (h : Made pool σ) : Refs σ := ⟨fun x hx => (h.good.ls x hx).2, h.good.hs⟩
end Go.Proofs.Ytlnapfeglbdecaa.M
namespace Go.Proofs.Ytlnapfeglbdecaa.M
open Go.RowKit

def RecIs (pr : Nat) (w : World) : Prop := ∃ (vr : Value) (rl : List Int) (at_ : Nat), w.heap[pr]? = some (.cells #[vr, .int .i64 at_] 60 (0, 0)) ∧ NV w.heap.size pr w vr rl ∧ at_ ≤ rl.length
theorem NV.mono {B B' pr : Nat} {w : World} {v : Value} {l : List Int} (h : NV B pr w v l) (hB : B ≤ B') : NV B' pr w v l := by
  obtain ⟨ao, cap, e, hc, hm, hx, hl⟩ := h
  refine ⟨ao, cap, e, hc, hm, hx, ?_⟩
  rcases hl with h | ⟨g, off, e, hg, hp, hl⟩
  · exact .inl h
  · exact .inr ⟨g, off, e, by omega, hp, hl⟩
theorem rec_took {pr : Nat} {w : World} {vr : Value} {rl : List Int} {at_ : Nat} (h : w.heap[pr]? = some (.cells #[vr, .int .i64 at_] 60 (0, 0)) ∧ NV w.heap.size pr w vr rl ∧ at_ ≤ rl.length) (hlt : at_ < rl.length) : RecIs pr (w.setCell ⟨pr, 1, none⟩ (.int .i64 ((at_ : Int) + 1))) := by
  refine ⟨vr, rl, at_ + 1, ?_, ?_, hlt⟩
  · rw [set_row h.1]; simp
  · have := h.2.1.kq ((Kq.refl w.heap.size pr w).set (o := 1) (u := .int .i64 ((at_ : Int) + 1)) (.inr rfl))
    rw [show (w.setCell ⟨pr, 1, none⟩ (.int .i64 ((at_ : Int) + 1))).heap.size = w.heap.size by simp]
    exact this
theorem RecIs.drewS {pr : Nat} {w : World} {x : Addr} {u : Value} (h : RecIs pr (w.setCell x u)) (q : Nat) : RecIs pr ((w.drewN q).setCell x u) := h
theorem rec_drew {pr : Nat} {w : World} {vr : Value} {rl : List Int} {at_ : Nat} (h : w.heap[pr]? = some (.cells #[vr, .int .i64 at_] 60 (0, 0)) ∧ NV w.heap.size pr w vr rl ∧ at_ ≤ rl.length) (q : Nat) : RecIs pr (w.drewN q) := ⟨vr, rl, at_, h⟩
set_option maxRecDepth 8000 in
set_option maxHeartbeats 2000000 in
theorem take_rec (pr k : Nat) (w : World) (h : RecIs pr w) (hk : 0 < k) (hk2 : k ≤ 100000) :
    Calls Try.prog 17 #[.pointer (some ⟨pr, 0, none⟩), .int .i64 (k : Int)] w fun e w' => (∃ x : Nat, x < k ∧ e = .returned (.int .i64 (x : Int))) ∧ RecIs pr w' ∧ Kq w.heap.size pr w w' ∧ OnlyB pr w w' := by
  obtain ⟨vr, rl, at_, hR⟩ := h
  have c0 := cell_row hR.1 0 rfl
  have c1 := cell_row hR.1 1 rfl
  have hal := hR.2.2
  obtain ⟨ao, cap, hvr, hc, hm, hrg, hl⟩ := hR.2.1
  rw [hvr] at c0
  unfold maxLen at hm
  have f0 := frozen_row hR.1
  have hk' : ¬ (k : Int) = 0 := by omega
  by_cases hlt : at_ < rl.length
  · obtain ⟨x, hx⟩ : ∃ x, rl[at_]? = some x := ⟨rl[at_], List.getElem?_eq_getElem hlt⟩
    have hlt' : (at_ : Int) < (rl.length : Int) := by omega
    obtain ⟨g, off, rfl, hg, hgp, hcl⟩ : ∃ g off, ao = some ⟨g, off, none⟩ ∧ g < w.heap.size ∧ g < pr ∧ ∀ j x, rl[j]? = some x → w.cell? ⟨g, off + j, none⟩ = some (.int .i64 x) := by
      rcases hl with h | h
      · rw [h] at hlt; simp at hlt
      · exact h
    have cx := hcl at_ x hx
    have HT := hidIt (rec_took hR hlt)
    obtain ⟨r0, r1⟩ := hrg x (List.mem_of_getElem? hx)
    have HK1 := hidIt ((Kq.refl w.heap.size pr w).set (o := 1) (u := .int .i64 ((at_ : Int) + 1)) (.inr rfl))
    clear hl hcl hrg hx hR
    by_cases hneg : x < 0
    · have t0 := Int.emod_nonneg (-(x + 1)) (b := (k : Int)) (by omega)
      have t1 := Int.emod_lt_of_pos (-(x + 1)) (b := (k : Int)) (by omega)
      go_enter Try.func17, Try.ntmps17
      go_wp2
      go_quiet (fail)
      go_wp2
      go_quiet (fail)
      go_wp2
      go_ret
      refine ⟨⟨((-(x + 1)) % (k : Int)).toNat, by omega, ret_int ?_⟩, HT.out.drewS _, HK1.out.drewS _, fun k hk => Below.heap_setCell _ _ _ _ hk⟩
      rw [Int.toNat_of_nonneg t0, ← Int.neg_tmod, Int.tmod_eq_emod_of_nonneg (by omega)]
    · have t0 := Int.emod_nonneg x (b := (k : Int)) (by omega)
      have t1 := Int.emod_lt_of_pos x (b := (k : Int)) (by omega)
      go_enter Try.func17, Try.ntmps17
      go_wp2
      go_quiet (fail)
      go_wp2
      go_quiet (fail)
      go_wp2
      go_ret
      refine ⟨⟨(x % (k : Int)).toNat, by omega, ret_int ?_⟩, HT.out.drewS _, HK1.out.drewS _, fun k hk => Below.heap_setCell _ _ _ _ hk⟩
      rw [Int.toNat_of_nonneg t0]
  · have hlt' : ¬ (at_ : Int) < (rl.length : Int) := by omega
    clear hl hrg
    go_enter Try.func17, Try.ntmps17
    go_wp2
    go_quiet (fail)
    go_wp2
    go_ret
    refine ⟨⟨0, hk, ret_int ?_⟩, rec_drew hR _, (Kq.refl w.heap.size pr w).drew _, fun _ _ => rfl⟩
    simp
end Go.Proofs.Ytlnapfeglbdecaa.M
