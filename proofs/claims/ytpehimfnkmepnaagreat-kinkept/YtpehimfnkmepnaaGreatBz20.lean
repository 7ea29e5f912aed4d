import Derived.Test.YtpehimfnkmepnaaGreatBz06
set_option maxRecDepth 8000
set_option maxHeartbeats 40000000
namespace Go.Proofs.YtpehimfnkmepnaaGreat.M
open Go.RowKit
def SG.slot (σ : SG) (i : Nat) : SG := if i < 4 then (σ.put 3 0 0).put 54 (i : Int) 0 else (σ.put 1 0 0).put 58 (i : Int) 0
def SG.slots (σ : SG) (l : List Nat) : SG := l.foldl SG.slot σ
theorem zEz (B pr pm n d : Nat) (σ : SG) (w : World) (h : Mk B pr pm n d false σ w) :
 Calls Tryz.prog 136 #[.pointer (some ⟨pm, 0, none⟩)] w fun e w' => e = .returned (.slice (some ⟨w.heap.size, 0, none⟩) 10 10) ∧ w' = w.alloc (.cells (zB5 false).toArray 9) := zFu B pr pm n d false σ w h
theorem zMv (B pr pm n d : Nat) (σ : SG) (w : World) (h : Mk B pr pm n d true σ w) :
 Calls Tryz.prog 136 #[.pointer (some ⟨pm, 0, none⟩)] w fun e w' => e = .returned (.slice (some ⟨w.heap.size, 0, none⟩) 4 4) ∧ w' = w.alloc (.cells (zB5 true).toArray 9) := zFu B pr pm n d true σ w h
theorem zMh (B pr pm n d : Nat) (σ : SG) (w : World) (h : Mk B pr pm n d false σ w) (hn : n ≤ 800000) :
 Calls Tryz.prog 135 #[.pointer (some ⟨pm, 0, none⟩), .int .i64 0] w fun e w' => e = .returned (.tuple #[]) ∧ Mk B pr pm (n + 20) d false (σ.slots [0, 1, 2, 3, 4, 5, 6, 7, 8, 9]) w' ∧ Kq B pr w w' := by
 have HM := zA0 h
 have HK := zA0 (Kq.refl B pr w)
 obtain ⟨c0, c3, c4, c5, c6, hL, hleft⟩ := h.read
 have hprz := h.pr_lt
 have hpmz := h.pm_lt
 clear h
 go_enter Tryz.func135, Tryz.ntmps135
 go_wp2_with (go_at_call 136; refine (zEz B pr pm _ _ _ _ HM.out).mono ?_; rintro e wn ⟨rfl, rfl⟩)
 go_loopw [5] (fun i_ wr => ∃ (j N : Nat) (σ' : SG), i_ = .int .i64 (j : Int) ∧ 0 ≤ j ∧ j ≤ 10 ∧ Mk B pr pm N d false σ' wr ∧ N ≤ n + 2 * j ∧ Kq B pr w wr ∧ wr.heap[w.heap.size]? = some (.cells (zB5 false).toArray 9 (0, 0)) ∧ σ' = σ.slots (([0, 1, 2, 3, 4, 5, 6, 7, 8, 9] : List Nat).filter (fun i => decide (i < j)))) (fun i_ _ => 10 - (intOf i_).toNat)
 case atStart =>
  exact ⟨0, n, σ, by go_num, by omega, by omega, HM.out.below (zA2 _ _), by omega, HM.out.kq (zA2 _ _), heap_alloc_new w _, rfl⟩
 case round =>
  clear HM HK c0 c3 c4 c5 c6 hL hleft hprz hpmz
  obtain ⟨j, N, σ', rfl, hj1, hjK, hm, hN, hk, hz, hs⟩ := hrel
  have HM := zA0 hm
  have HK := zA0 hk
  have HZ := zA0 hz
  have HS := zA0 hs
  obtain ⟨c0, c3, c4, c5, c6, hL, hleft⟩ := hm.read
  have hprz := hm.pr_lt
  have hpmz := hm.pm_lt
  clear hm hk hz hs
  have hj' : j = 0 ∨ j = 1 ∨ j = 2 ∨ j = 3 ∨ j = 4 ∨ j = 5 ∨ j = 6 ∨ j = 7 ∨ j = 8 ∨ j = 9 ∨ j = 10 := by omega
  rcases hj' with rfl | rfl | rfl | rfl | rfl | rfl | rfl | rfl | rfl | rfl | rfl
  · have cz : wr.cell? ⟨w.heap.size, 0, none⟩ = some (.string ⟨#[73]⟩) := zA1 HZ.out 0 rfl
    have ez : ((⟨#[73]⟩ : ByteArray).toList == (⟨#[73]⟩ : ByteArray).toList) = true := by kernel_rfl
    go_wp2_with (go_at_call 98; refine (zAn B pr pm _ _ _ _ _ _ _ _ HM.out (by omega)).mono ?_; clear c0 c3 c4 c5 c6 hL hleft hprz hpmz; rintro e wn ⟨rfl, hm, hk, hsm⟩; have HZ2 := zA0 (hsm _ _ HZ.out); clear HZ hsm; have HZ := HZ2; clear HZ2; replace HK := zA0 (HK.out.trans hk); replace HM := zA0 hm; obtain ⟨c0, c3, c4, c5, c6, hL, hleft, hprz, hpmz⟩ := hm.read2; clear hm hk)
    exact ⟨⟨1, _, _, by go_num, by omega, by omega, HM.out, by omega, HK.out, HZ.out, by rw [HS.out]; rfl⟩, by simp [intOf]⟩
  · have cz : wr.cell? ⟨w.heap.size, 1, none⟩ = some (.string ⟨#[73]⟩) := zA1 HZ.out 1 rfl
    have ez : ((⟨#[73]⟩ : ByteArray).toList == (⟨#[73]⟩ : ByteArray).toList) = true := by kernel_rfl
    go_wp2_with (go_at_call 98; refine (zAn B pr pm _ _ _ _ _ _ _ _ HM.out (by omega)).mono ?_; clear c0 c3 c4 c5 c6 hL hleft hprz hpmz; rintro e wn ⟨rfl, hm, hk, hsm⟩; have HZ2 := zA0 (hsm _ _ HZ.out); clear HZ hsm; have HZ := HZ2; clear HZ2; replace HK := zA0 (HK.out.trans hk); replace HM := zA0 hm; obtain ⟨c0, c3, c4, c5, c6, hL, hleft, hprz, hpmz⟩ := hm.read2; clear hm hk)
    exact ⟨⟨2, _, _, by go_num, by omega, by omega, HM.out, by omega, HK.out, HZ.out, by rw [HS.out]; rfl⟩, by simp [intOf]⟩
  · have cz : wr.cell? ⟨w.heap.size, 2, none⟩ = some (.string ⟨#[73]⟩) := zA1 HZ.out 2 rfl
    have ez : ((⟨#[73]⟩ : ByteArray).toList == (⟨#[73]⟩ : ByteArray).toList) = true := by kernel_rfl
    go_wp2_with (go_at_call 98; refine (zAn B pr pm _ _ _ _ _ _ _ _ HM.out (by omega)).mono ?_; clear c0 c3 c4 c5 c6 hL hleft hprz hpmz; rintro e wn ⟨rfl, hm, hk, hsm⟩; have HZ2 := zA0 (hsm _ _ HZ.out); clear HZ hsm; have HZ := HZ2; clear HZ2; replace HK := zA0 (HK.out.trans hk); replace HM := zA0 hm; obtain ⟨c0, c3, c4, c5, c6, hL, hleft, hprz, hpmz⟩ := hm.read2; clear hm hk)
    exact ⟨⟨3, _, _, by go_num, by omega, by omega, HM.out, by omega, HK.out, HZ.out, by rw [HS.out]; rfl⟩, by simp [intOf]⟩
  · have cz : wr.cell? ⟨w.heap.size, 3, none⟩ = some (.string ⟨#[73]⟩) := zA1 HZ.out 3 rfl
    have ez : ((⟨#[73]⟩ : ByteArray).toList == (⟨#[73]⟩ : ByteArray).toList) = true := by kernel_rfl
    go_wp2_with (go_at_call 98; refine (zAn B pr pm _ _ _ _ _ _ _ _ HM.out (by omega)).mono ?_; clear c0 c3 c4 c5 c6 hL hleft hprz hpmz; rintro e wn ⟨rfl, hm, hk, hsm⟩; have HZ2 := zA0 (hsm _ _ HZ.out); clear HZ hsm; have HZ := HZ2; clear HZ2; replace HK := zA0 (HK.out.trans hk); replace HM := zA0 hm; obtain ⟨c0, c3, c4, c5, c6, hL, hleft, hprz, hpmz⟩ := hm.read2; clear hm hk)
    exact ⟨⟨4, _, _, by go_num, by omega, by omega, HM.out, by omega, HK.out, HZ.out, by rw [HS.out]; rfl⟩, by simp [intOf]⟩
  · have cz : wr.cell? ⟨w.heap.size, 4, none⟩ = some (.string ⟨#[76, 65, 59]⟩) := zA1 HZ.out 4 rfl
    have ez : ((⟨#[76, 65, 59]⟩ : ByteArray).toList == (⟨#[73]⟩ : ByteArray).toList) = false := by kernel_rfl
    go_wp2_with (go_at_call 98; refine (zAn B pr pm _ _ _ _ _ _ _ _ HM.out (by omega)).mono ?_; clear c0 c3 c4 c5 c6 hL hleft hprz hpmz; rintro e wn ⟨rfl, hm, hk, hsm⟩; have HZ2 := zA0 (hsm _ _ HZ.out); clear HZ hsm; have HZ := HZ2; clear HZ2; replace HK := zA0 (HK.out.trans hk); replace HM := zA0 hm; obtain ⟨c0, c3, c4, c5, c6, hL, hleft, hprz, hpmz⟩ := hm.read2; clear hm hk)
    exact ⟨⟨5, _, _, by go_num, by omega, by omega, HM.out, by omega, HK.out, HZ.out, by rw [HS.out]; rfl⟩, by simp [intOf]⟩
  · have cz : wr.cell? ⟨w.heap.size, 5, none⟩ = some (.string ⟨#[76, 65, 59]⟩) := zA1 HZ.out 5 rfl
    have ez : ((⟨#[76, 65, 59]⟩ : ByteArray).toList == (⟨#[73]⟩ : ByteArray).toList) = false := by kernel_rfl
    go_wp2_with (go_at_call 98; refine (zAn B pr pm _ _ _ _ _ _ _ _ HM.out (by omega)).mono ?_; clear c0 c3 c4 c5 c6 hL hleft hprz hpmz; rintro e wn ⟨rfl, hm, hk, hsm⟩; have HZ2 := zA0 (hsm _ _ HZ.out); clear HZ hsm; have HZ := HZ2; clear HZ2; replace HK := zA0 (HK.out.trans hk); replace HM := zA0 hm; obtain ⟨c0, c3, c4, c5, c6, hL, hleft, hprz, hpmz⟩ := hm.read2; clear hm hk)
    exact ⟨⟨6, _, _, by go_num, by omega, by omega, HM.out, by omega, HK.out, HZ.out, by rw [HS.out]; rfl⟩, by simp [intOf]⟩
  · have cz : wr.cell? ⟨w.heap.size, 6, none⟩ = some (.string ⟨#[91, 73]⟩) := zA1 HZ.out 6 rfl
    have ez : ((⟨#[91, 73]⟩ : ByteArray).toList == (⟨#[73]⟩ : ByteArray).toList) = false := by kernel_rfl
    go_wp2_with (go_at_call 98; refine (zAn B pr pm _ _ _ _ _ _ _ _ HM.out (by omega)).mono ?_; clear c0 c3 c4 c5 c6 hL hleft hprz hpmz; rintro e wn ⟨rfl, hm, hk, hsm⟩; have HZ2 := zA0 (hsm _ _ HZ.out); clear HZ hsm; have HZ := HZ2; clear HZ2; replace HK := zA0 (HK.out.trans hk); replace HM := zA0 hm; obtain ⟨c0, c3, c4, c5, c6, hL, hleft, hprz, hpmz⟩ := hm.read2; clear hm hk)
    exact ⟨⟨7, _, _, by go_num, by omega, by omega, HM.out, by omega, HK.out, HZ.out, by rw [HS.out]; rfl⟩, by simp [intOf]⟩
  · have cz : wr.cell? ⟨w.heap.size, 7, none⟩ = some (.string ⟨#[76, 84, 104, 114, 111, 119, 97, 98, 108, 101, 59]⟩) := zA1 HZ.out 7 rfl
    have ez : ((⟨#[76, 84, 104, 114, 111, 119, 97, 98, 108, 101, 59]⟩ : ByteArray).toList == (⟨#[73]⟩ : ByteArray).toList) = false := by kernel_rfl
    go_wp2_with (go_at_call 98; refine (zAn B pr pm _ _ _ _ _ _ _ _ HM.out (by omega)).mono ?_; clear c0 c3 c4 c5 c6 hL hleft hprz hpmz; rintro e wn ⟨rfl, hm, hk, hsm⟩; have HZ2 := zA0 (hsm _ _ HZ.out); clear HZ hsm; have HZ := HZ2; clear HZ2; replace HK := zA0 (HK.out.trans hk); replace HM := zA0 hm; obtain ⟨c0, c3, c4, c5, c6, hL, hleft, hprz, hpmz⟩ := hm.read2; clear hm hk)
    exact ⟨⟨8, _, _, by go_num, by omega, by omega, HM.out, by omega, HK.out, HZ.out, by rw [HS.out]; rfl⟩, by simp [intOf]⟩
  · have cz : wr.cell? ⟨w.heap.size, 8, none⟩ = some (.string ⟨#[76, 84, 59]⟩) := zA1 HZ.out 8 rfl
    have ez : ((⟨#[76, 84, 59]⟩ : ByteArray).toList == (⟨#[73]⟩ : ByteArray).toList) = false := by kernel_rfl
    go_wp2_with (go_at_call 98; refine (zAn B pr pm _ _ _ _ _ _ _ _ HM.out (by omega)).mono ?_; clear c0 c3 c4 c5 c6 hL hleft hprz hpmz; rintro e wn ⟨rfl, hm, hk, hsm⟩; have HZ2 := zA0 (hsm _ _ HZ.out); clear HZ hsm; have HZ := HZ2; clear HZ2; replace HK := zA0 (HK.out.trans hk); replace HM := zA0 hm; obtain ⟨c0, c3, c4, c5, c6, hL, hleft, hprz, hpmz⟩ := hm.read2; clear hm hk)
    exact ⟨⟨9, _, _, by go_num, by omega, by omega, HM.out, by omega, HK.out, HZ.out, by rw [HS.out]; rfl⟩, by simp [intOf]⟩
  · have cz : wr.cell? ⟨w.heap.size, 9, none⟩ = some (.string ⟨#[91, 76, 65, 59]⟩) := zA1 HZ.out 9 rfl
    have ez : ((⟨#[91, 76, 65, 59]⟩ : ByteArray).toList == (⟨#[73]⟩ : ByteArray).toList) = false := by kernel_rfl
    go_wp2_with (go_at_call 98; refine (zAn B pr pm _ _ _ _ _ _ _ _ HM.out (by omega)).mono ?_; clear c0 c3 c4 c5 c6 hL hleft hprz hpmz; rintro e wn ⟨rfl, hm, hk, hsm⟩; have HZ2 := zA0 (hsm _ _ HZ.out); clear HZ hsm; have HZ := HZ2; clear HZ2; replace HK := zA0 (HK.out.trans hk); replace HM := zA0 hm; obtain ⟨c0, c3, c4, c5, c6, hL, hleft, hprz, hpmz⟩ := hm.read2; clear hm hk)
    exact ⟨⟨10, _, _, by go_num, by omega, by omega, HM.out, by omega, HK.out, HZ.out, by rw [HS.out]; rfl⟩, by simp [intOf]⟩
  · go_wp2
    go_end0
    refine ⟨rfl, ?_, HK.out⟩
    have := HM.out.mono (n' := n + 20) (by omega)
    rw [HS.out] at this
    exact this
theorem zMm (B pr pm n d : Nat) (σ : SG) (w : World) (h : Mk B pr pm n d true σ w) (hn : n ≤ 800000) :
 Calls Tryz.prog 135 #[.pointer (some ⟨pm, 0, none⟩), .int .i64 2] w fun e w' => e = .returned (.tuple #[]) ∧ Mk B pr pm (n + 20) d true (σ.slots [2, 3]) w' ∧ Kq B pr w w' := by
 have HM := zA0 h
 have HK := zA0 (Kq.refl B pr w)
 obtain ⟨c0, c3, c4, c5, c6, hL, hleft⟩ := h.read
 have hprz := h.pr_lt
 have hpmz := h.pm_lt
 clear h
 go_enter Tryz.func135, Tryz.ntmps135
 go_wp2_with (go_at_call 136; refine (zMv B pr pm _ _ _ _ HM.out).mono ?_; rintro e wn ⟨rfl, rfl⟩)
 go_loopw [5] (fun i_ wr => ∃ (j N : Nat) (σ' : SG), i_ = .int .i64 (j : Int) ∧ 2 ≤ j ∧ j ≤ 4 ∧ Mk B pr pm N d true σ' wr ∧ N ≤ n + 2 * j ∧ Kq B pr w wr ∧ wr.heap[w.heap.size]? = some (.cells (zB5 true).toArray 9 (0, 0)) ∧ σ' = σ.slots (([2, 3] : List Nat).filter (fun i => decide (i < j)))) (fun i_ _ => 4 - (intOf i_).toNat)
 case atStart =>
  exact ⟨2, n, σ, by go_num, by omega, by omega, HM.out.below (zA2 _ _), by omega, HM.out.kq (zA2 _ _), heap_alloc_new w _, rfl⟩
 case round =>
  clear HM HK c0 c3 c4 c5 c6 hL hleft hprz hpmz
  obtain ⟨j, N, σ', rfl, hj1, hjK, hm, hN, hk, hz, hs⟩ := hrel
  have HM := zA0 hm
  have HK := zA0 hk
  have HZ := zA0 hz
  have HS := zA0 hs
  obtain ⟨c0, c3, c4, c5, c6, hL, hleft⟩ := hm.read
  have hprz := hm.pr_lt
  have hpmz := hm.pm_lt
  clear hm hk hz hs
  have hj' : j = 2 ∨ j = 3 ∨ j = 4 := by omega
  rcases hj' with rfl | rfl | rfl
  · have cz : wr.cell? ⟨w.heap.size, 2, none⟩ = some (.string ⟨#[73]⟩) := zA1 HZ.out 2 rfl
    have ez : ((⟨#[73]⟩ : ByteArray).toList == (⟨#[73]⟩ : ByteArray).toList) = true := by kernel_rfl
    go_wp2_with (go_at_call 98; refine (zAn B pr pm _ _ _ _ _ _ _ _ HM.out (by omega)).mono ?_; clear c0 c3 c4 c5 c6 hL hleft hprz hpmz; rintro e wn ⟨rfl, hm, hk, hsm⟩; have HZ2 := zA0 (hsm _ _ HZ.out); clear HZ hsm; have HZ := HZ2; clear HZ2; replace HK := zA0 (HK.out.trans hk); replace HM := zA0 hm; obtain ⟨c0, c3, c4, c5, c6, hL, hleft, hprz, hpmz⟩ := hm.read2; clear hm hk)
    exact ⟨⟨3, _, _, by go_num, by omega, by omega, HM.out, by omega, HK.out, HZ.out, by rw [HS.out]; rfl⟩, by simp [intOf]⟩
  · have cz : wr.cell? ⟨w.heap.size, 3, none⟩ = some (.string ⟨#[73]⟩) := zA1 HZ.out 3 rfl
    have ez : ((⟨#[73]⟩ : ByteArray).toList == (⟨#[73]⟩ : ByteArray).toList) = true := by kernel_rfl
    go_wp2_with (go_at_call 98; refine (zAn B pr pm _ _ _ _ _ _ _ _ HM.out (by omega)).mono ?_; clear c0 c3 c4 c5 c6 hL hleft hprz hpmz; rintro e wn ⟨rfl, hm, hk, hsm⟩; have HZ2 := zA0 (hsm _ _ HZ.out); clear HZ hsm; have HZ := HZ2; clear HZ2; replace HK := zA0 (HK.out.trans hk); replace HM := zA0 hm; obtain ⟨c0, c3, c4, c5, c6, hL, hleft, hprz, hpmz⟩ := hm.read2; clear hm hk)
    exact ⟨⟨4, _, _, by go_num, by omega, by omega, HM.out, by omega, HK.out, HZ.out, by rw [HS.out]; rfl⟩, by simp [intOf]⟩
  · go_wp2
    go_end0
    refine ⟨rfl, ?_, HK.out⟩
    have := HM.out.mono (n' := n + 20) (by omega)
    rw [HS.out] at this
    exact this
theorem zRq (B pr pm n d : Nat) (σ : SG) (F : Int) (w : World) (h : Mk B pr pm n d false σ w) (hn : n ≤ 800000) :
 Calls Tryz.prog 99 #[.pointer (some ⟨pm, 0, none⟩), .bool false, .string ⟨#[103, 111]⟩, .int .i64 F] w fun e w' => e = .returned (.tuple #[]) ∧ Mk B pr pm (n + 20) d false (σ.slots [3, 5, 6, 7, 8, 9]) w' ∧ Kq B pr w w' := by
 have HM := zA0 h
 have HK := zA0 (Kq.refl B pr w)
 obtain ⟨c0, c3, c4, c5, c6, hL, hleft⟩ := h.read
 have hprz := h.pr_lt
 have hpmz := h.pm_lt
 clear h
 have eg : ((⟨#[103, 111]⟩ : ByteArray).toList == (⟨#[103, 111]⟩ : ByteArray).toList) = true := by kernel_rfl
 have er : ((⟨#[103, 111]⟩ : ByteArray).toList == (⟨#[114, 117, 110]⟩ : ByteArray).toList) = false := by kernel_rfl
 go_enter Tryz.func99, Tryz.ntmps99
 go_wp2_with (go_at_call 136; refine (zEz B pr pm _ _ _ _ HM.out).mono ?_; rintro e wn ⟨rfl, rfl⟩)
 go_loopw [9] (fun i_ wr => ∃ (j N : Nat) (σ' : SG), i_ = .int .i64 (j : Int) ∧ 1 ≤ j ∧ j ≤ 10 ∧ Mk B pr pm N d false σ' wr ∧ N ≤ n + 2 * j ∧ Kq B pr w wr ∧ wr.heap[w.heap.size]? = some (.cells (zB5 false).toArray 9 (0, 0)) ∧ σ' = σ.slots (([3, 5, 6, 7, 8, 9] : List Nat).filter (fun i => decide (i < j)))) (fun i_ _ => 10 - (intOf i_).toNat)
 case atStart =>
  exact ⟨1, n, σ, by go_num, by omega, by omega, HM.out.below (zA2 _ _), by omega, HM.out.kq (zA2 _ _), heap_alloc_new w _, rfl⟩
 case round =>
  clear HM HK c0 c3 c4 c5 c6 hL hleft hprz hpmz
  obtain ⟨j, N, σ', rfl, hj1, hjK, hm, hN, hk, hz, hs⟩ := hrel
  have HM := zA0 hm
  have HK := zA0 hk
  have HZ := zA0 hz
  have HS := zA0 hs
  obtain ⟨c0, c3, c4, c5, c6, hL, hleft⟩ := hm.read
  have hprz := hm.pr_lt
  have hpmz := hm.pm_lt
  clear hm hk hz hs
  have hj' : j = 1 ∨ j = 2 ∨ j = 3 ∨ j = 4 ∨ j = 5 ∨ j = 6 ∨ j = 7 ∨ j = 8 ∨ j = 9 ∨ j = 10 := by omega
  rcases hj' with rfl | rfl | rfl | rfl | rfl | rfl | rfl | rfl | rfl | rfl
  · go_wp2_with (go_at_call 98; refine (zAn B pr pm _ _ _ _ _ _ _ _ HM.out (by omega)).mono ?_; clear c0 c3 c4 c5 c6 hL hleft hprz hpmz; rintro e wn ⟨rfl, hm, hk, hsm⟩; have HZ2 := zA0 (hsm _ _ HZ.out); clear HZ hsm; have HZ := HZ2; clear HZ2; replace HK := zA0 (HK.out.trans hk); replace HM := zA0 hm; obtain ⟨c0, c3, c4, c5, c6, hL, hleft, hprz, hpmz⟩ := hm.read2; clear hm hk)
    exact ⟨⟨2, _, _, by go_num, by omega, by omega, HM.out, by omega, HK.out, HZ.out, by rw [HS.out]; rfl⟩, by simp [intOf]⟩
  · go_wp2_with (go_at_call 98; refine (zAn B pr pm _ _ _ _ _ _ _ _ HM.out (by omega)).mono ?_; clear c0 c3 c4 c5 c6 hL hleft hprz hpmz; rintro e wn ⟨rfl, hm, hk, hsm⟩; have HZ2 := zA0 (hsm _ _ HZ.out); clear HZ hsm; have HZ := HZ2; clear HZ2; replace HK := zA0 (HK.out.trans hk); replace HM := zA0 hm; obtain ⟨c0, c3, c4, c5, c6, hL, hleft, hprz, hpmz⟩ := hm.read2; clear hm hk)
    exact ⟨⟨3, _, _, by go_num, by omega, by omega, HM.out, by omega, HK.out, HZ.out, by rw [HS.out]; rfl⟩, by simp [intOf]⟩
  · have cz : wr.cell? ⟨w.heap.size, 3, none⟩ = some (.string ⟨#[73]⟩) := zA1 HZ.out 3 rfl
    have ez : ((⟨#[73]⟩ : ByteArray).toList == (⟨#[73]⟩ : ByteArray).toList) = true := by kernel_rfl
    go_wp2_with (go_at_call 98; refine (zAn B pr pm _ _ _ _ _ _ _ _ HM.out (by omega)).mono ?_; clear c0 c3 c4 c5 c6 hL hleft hprz hpmz; rintro e wn ⟨rfl, hm, hk, hsm⟩; have HZ2 := zA0 (hsm _ _ HZ.out); clear HZ hsm; have HZ := HZ2; clear HZ2; replace HK := zA0 (HK.out.trans hk); replace HM := zA0 hm; obtain ⟨c0, c3, c4, c5, c6, hL, hleft, hprz, hpmz⟩ := hm.read2; clear hm hk)
    exact ⟨⟨4, _, _, by go_num, by omega, by omega, HM.out, by omega, HK.out, HZ.out, by rw [HS.out]; rfl⟩, by simp [intOf]⟩
  · go_wp2_with (go_at_call 98; refine (zAn B pr pm _ _ _ _ _ _ _ _ HM.out (by omega)).mono ?_; clear c0 c3 c4 c5 c6 hL hleft hprz hpmz; rintro e wn ⟨rfl, hm, hk, hsm⟩; have HZ2 := zA0 (hsm _ _ HZ.out); clear HZ hsm; have HZ := HZ2; clear HZ2; replace HK := zA0 (HK.out.trans hk); replace HM := zA0 hm; obtain ⟨c0, c3, c4, c5, c6, hL, hleft, hprz, hpmz⟩ := hm.read2; clear hm hk)
    exact ⟨⟨5, _, _, by go_num, by omega, by omega, HM.out, by omega, HK.out, HZ.out, by rw [HS.out]; rfl⟩, by simp [intOf]⟩
  · have cz : wr.cell? ⟨w.heap.size, 5, none⟩ = some (.string ⟨#[76, 65, 59]⟩) := zA1 HZ.out 5 rfl
    have ez : ((⟨#[76, 65, 59]⟩ : ByteArray).toList == (⟨#[73]⟩ : ByteArray).toList) = false := by kernel_rfl
    go_wp2_with (go_at_call 98; refine (zAn B pr pm _ _ _ _ _ _ _ _ HM.out (by omega)).mono ?_; clear c0 c3 c4 c5 c6 hL hleft hprz hpmz; rintro e wn ⟨rfl, hm, hk, hsm⟩; have HZ2 := zA0 (hsm _ _ HZ.out); clear HZ hsm; have HZ := HZ2; clear HZ2; replace HK := zA0 (HK.out.trans hk); replace HM := zA0 hm; obtain ⟨c0, c3, c4, c5, c6, hL, hleft, hprz, hpmz⟩ := hm.read2; clear hm hk)
    exact ⟨⟨6, _, _, by go_num, by omega, by omega, HM.out, by omega, HK.out, HZ.out, by rw [HS.out]; rfl⟩, by simp [intOf]⟩
  · have cz : wr.cell? ⟨w.heap.size, 6, none⟩ = some (.string ⟨#[91, 73]⟩) := zA1 HZ.out 6 rfl
    have ez : ((⟨#[91, 73]⟩ : ByteArray).toList == (⟨#[73]⟩ : ByteArray).toList) = false := by kernel_rfl
    go_wp2_with (go_at_call 98; refine (zAn B pr pm _ _ _ _ _ _ _ _ HM.out (by omega)).mono ?_; clear c0 c3 c4 c5 c6 hL hleft hprz hpmz; rintro e wn ⟨rfl, hm, hk, hsm⟩; have HZ2 := zA0 (hsm _ _ HZ.out); clear HZ hsm; have HZ := HZ2; clear HZ2; replace HK := zA0 (HK.out.trans hk); replace HM := zA0 hm; obtain ⟨c0, c3, c4, c5, c6, hL, hleft, hprz, hpmz⟩ := hm.read2; clear hm hk)
    exact ⟨⟨7, _, _, by go_num, by omega, by omega, HM.out, by omega, HK.out, HZ.out, by rw [HS.out]; rfl⟩, by simp [intOf]⟩
  · have cz : wr.cell? ⟨w.heap.size, 7, none⟩ = some (.string ⟨#[76, 84, 104, 114, 111, 119, 97, 98, 108, 101, 59]⟩) := zA1 HZ.out 7 rfl
    have ez : ((⟨#[76, 84, 104, 114, 111, 119, 97, 98, 108, 101, 59]⟩ : ByteArray).toList == (⟨#[73]⟩ : ByteArray).toList) = false := by kernel_rfl
    go_wp2_with (go_at_call 98; refine (zAn B pr pm _ _ _ _ _ _ _ _ HM.out (by omega)).mono ?_; clear c0 c3 c4 c5 c6 hL hleft hprz hpmz; rintro e wn ⟨rfl, hm, hk, hsm⟩; have HZ2 := zA0 (hsm _ _ HZ.out); clear HZ hsm; have HZ := HZ2; clear HZ2; replace HK := zA0 (HK.out.trans hk); replace HM := zA0 hm; obtain ⟨c0, c3, c4, c5, c6, hL, hleft, hprz, hpmz⟩ := hm.read2; clear hm hk)
    exact ⟨⟨8, _, _, by go_num, by omega, by omega, HM.out, by omega, HK.out, HZ.out, by rw [HS.out]; rfl⟩, by simp [intOf]⟩
  · have cz : wr.cell? ⟨w.heap.size, 8, none⟩ = some (.string ⟨#[76, 84, 59]⟩) := zA1 HZ.out 8 rfl
    have ez : ((⟨#[76, 84, 59]⟩ : ByteArray).toList == (⟨#[73]⟩ : ByteArray).toList) = false := by kernel_rfl
    go_wp2_with (go_at_call 98; refine (zAn B pr pm _ _ _ _ _ _ _ _ HM.out (by omega)).mono ?_; clear c0 c3 c4 c5 c6 hL hleft hprz hpmz; rintro e wn ⟨rfl, hm, hk, hsm⟩; have HZ2 := zA0 (hsm _ _ HZ.out); clear HZ hsm; have HZ := HZ2; clear HZ2; replace HK := zA0 (HK.out.trans hk); replace HM := zA0 hm; obtain ⟨c0, c3, c4, c5, c6, hL, hleft, hprz, hpmz⟩ := hm.read2; clear hm hk)
    exact ⟨⟨9, _, _, by go_num, by omega, by omega, HM.out, by omega, HK.out, HZ.out, by rw [HS.out]; rfl⟩, by simp [intOf]⟩
  · have cz : wr.cell? ⟨w.heap.size, 9, none⟩ = some (.string ⟨#[91, 76, 65, 59]⟩) := zA1 HZ.out 9 rfl
    have ez : ((⟨#[91, 76, 65, 59]⟩ : ByteArray).toList == (⟨#[73]⟩ : ByteArray).toList) = false := by kernel_rfl
    go_wp2_with (go_at_call 98; refine (zAn B pr pm _ _ _ _ _ _ _ _ HM.out (by omega)).mono ?_; clear c0 c3 c4 c5 c6 hL hleft hprz hpmz; rintro e wn ⟨rfl, hm, hk, hsm⟩; have HZ2 := zA0 (hsm _ _ HZ.out); clear HZ hsm; have HZ := HZ2; clear HZ2; replace HK := zA0 (HK.out.trans hk); replace HM := zA0 hm; obtain ⟨c0, c3, c4, c5, c6, hL, hleft, hprz, hpmz⟩ := hm.read2; clear hm hk)
    exact ⟨⟨10, _, _, by go_num, by omega, by omega, HM.out, by omega, HK.out, HZ.out, by rw [HS.out]; rfl⟩, by simp [intOf]⟩
  · go_wp2
    go_end0
    refine ⟨rfl, ?_, HK.out⟩
    have := HM.out.mono (n' := n + 20) (by omega)
    rw [HS.out] at this
    exact this
theorem zQ5 (B pr pm n d : Nat) (σ : SG) (F : Int) (w : World) (h : Mk B pr pm n d false σ w) (hn : n ≤ 800000) :
 Calls Tryz.prog 99 #[.pointer (some ⟨pm, 0, none⟩), .bool false, .string ⟨#[114, 117, 110]⟩, .int .i64 F] w fun e w' => e = .returned (.tuple #[]) ∧ Mk B pr pm (n + 20) d false (σ.slots [2, 3, 4, 5, 6, 7, 9]) w' ∧ Kq B pr w w' := by
 have HM := zA0 h
 have HK := zA0 (Kq.refl B pr w)
 obtain ⟨c0, c3, c4, c5, c6, hL, hleft⟩ := h.read
 have hprz := h.pr_lt
 have hpmz := h.pm_lt
 clear h
 have eg : ((⟨#[114, 117, 110]⟩ : ByteArray).toList == (⟨#[103, 111]⟩ : ByteArray).toList) = false := by kernel_rfl
 have er : ((⟨#[114, 117, 110]⟩ : ByteArray).toList == (⟨#[114, 117, 110]⟩ : ByteArray).toList) = true := by kernel_rfl
 go_enter Tryz.func99, Tryz.ntmps99
 go_wp2_with (go_at_call 136; refine (zEz B pr pm _ _ _ _ HM.out).mono ?_; rintro e wn ⟨rfl, rfl⟩)
 go_loopw [9] (fun i_ wr => ∃ (j N : Nat) (σ' : SG), i_ = .int .i64 (j : Int) ∧ 1 ≤ j ∧ j ≤ 10 ∧ Mk B pr pm N d false σ' wr ∧ N ≤ n + 2 * j ∧ Kq B pr w wr ∧ wr.heap[w.heap.size]? = some (.cells (zB5 false).toArray 9 (0, 0)) ∧ σ' = σ.slots (([2, 3, 4, 5, 6, 7, 9] : List Nat).filter (fun i => decide (i < j)))) (fun i_ _ => 10 - (intOf i_).toNat)
 case atStart =>
  exact ⟨1, n, σ, by go_num, by omega, by omega, HM.out.below (zA2 _ _), by omega, HM.out.kq (zA2 _ _), heap_alloc_new w _, rfl⟩
 case round =>
  clear HM HK c0 c3 c4 c5 c6 hL hleft hprz hpmz
  obtain ⟨j, N, σ', rfl, hj1, hjK, hm, hN, hk, hz, hs⟩ := hrel
  have HM := zA0 hm
  have HK := zA0 hk
  have HZ := zA0 hz
  have HS := zA0 hs
  obtain ⟨c0, c3, c4, c5, c6, hL, hleft⟩ := hm.read
  have hprz := hm.pr_lt
  have hpmz := hm.pm_lt
  clear hm hk hz hs
  have hj' : j = 1 ∨ j = 2 ∨ j = 3 ∨ j = 4 ∨ j = 5 ∨ j = 6 ∨ j = 7 ∨ j = 8 ∨ j = 9 ∨ j = 10 := by omega
  rcases hj' with rfl | rfl | rfl | rfl | rfl | rfl | rfl | rfl | rfl | rfl
  · go_wp2_with (go_at_call 98; refine (zAn B pr pm _ _ _ _ _ _ _ _ HM.out (by omega)).mono ?_; clear c0 c3 c4 c5 c6 hL hleft hprz hpmz; rintro e wn ⟨rfl, hm, hk, hsm⟩; have HZ2 := zA0 (hsm _ _ HZ.out); clear HZ hsm; have HZ := HZ2; clear HZ2; replace HK := zA0 (HK.out.trans hk); replace HM := zA0 hm; obtain ⟨c0, c3, c4, c5, c6, hL, hleft, hprz, hpmz⟩ := hm.read2; clear hm hk)
    exact ⟨⟨2, _, _, by go_num, by omega, by omega, HM.out, by omega, HK.out, HZ.out, by rw [HS.out]; rfl⟩, by simp [intOf]⟩
  · have cz : wr.cell? ⟨w.heap.size, 2, none⟩ = some (.string ⟨#[73]⟩) := zA1 HZ.out 2 rfl
    have ez : ((⟨#[73]⟩ : ByteArray).toList == (⟨#[73]⟩ : ByteArray).toList) = true := by kernel_rfl
    go_wp2_with (go_at_call 98; refine (zAn B pr pm _ _ _ _ _ _ _ _ HM.out (by omega)).mono ?_; clear c0 c3 c4 c5 c6 hL hleft hprz hpmz; rintro e wn ⟨rfl, hm, hk, hsm⟩; have HZ2 := zA0 (hsm _ _ HZ.out); clear HZ hsm; have HZ := HZ2; clear HZ2; replace HK := zA0 (HK.out.trans hk); replace HM := zA0 hm; obtain ⟨c0, c3, c4, c5, c6, hL, hleft, hprz, hpmz⟩ := hm.read2; clear hm hk)
    exact ⟨⟨3, _, _, by go_num, by omega, by omega, HM.out, by omega, HK.out, HZ.out, by rw [HS.out]; rfl⟩, by simp [intOf]⟩
  · have cz : wr.cell? ⟨w.heap.size, 3, none⟩ = some (.string ⟨#[73]⟩) := zA1 HZ.out 3 rfl
    have ez : ((⟨#[73]⟩ : ByteArray).toList == (⟨#[73]⟩ : ByteArray).toList) = true := by kernel_rfl
    go_wp2_with (go_at_call 98; refine (zAn B pr pm _ _ _ _ _ _ _ _ HM.out (by omega)).mono ?_; clear c0 c3 c4 c5 c6 hL hleft hprz hpmz; rintro e wn ⟨rfl, hm, hk, hsm⟩; have HZ2 := zA0 (hsm _ _ HZ.out); clear HZ hsm; have HZ := HZ2; clear HZ2; replace HK := zA0 (HK.out.trans hk); replace HM := zA0 hm; obtain ⟨c0, c3, c4, c5, c6, hL, hleft, hprz, hpmz⟩ := hm.read2; clear hm hk)
    exact ⟨⟨4, _, _, by go_num, by omega, by omega, HM.out, by omega, HK.out, HZ.out, by rw [HS.out]; rfl⟩, by simp [intOf]⟩
  · have cz : wr.cell? ⟨w.heap.size, 4, none⟩ = some (.string ⟨#[76, 65, 59]⟩) := zA1 HZ.out 4 rfl
    have ez : ((⟨#[76, 65, 59]⟩ : ByteArray).toList == (⟨#[73]⟩ : ByteArray).toList) = false := by kernel_rfl
    go_wp2_with (go_at_call 98; refine (zAn B pr pm _ _ _ _ _ _ _ _ HM.out (by omega)).mono ?_; clear c0 c3 c4 c5 c6 hL hleft hprz hpmz; rintro e wn ⟨rfl, hm, hk, hsm⟩; have HZ2 := zA0 (hsm _ _ HZ.out); clear HZ hsm; have HZ := HZ2; clear HZ2; replace HK := zA0 (HK.out.trans hk); replace HM := zA0 hm; obtain ⟨c0, c3, c4, c5, c6, hL, hleft, hprz, hpmz⟩ := hm.read2; clear hm hk)
    exact ⟨⟨5, _, _, by go_num, by omega, by omega, HM.out, by omega, HK.out, HZ.out, by rw [HS.out]; rfl⟩, by simp [intOf]⟩
  · have cz : wr.cell? ⟨w.heap.size, 5, none⟩ = some (.string ⟨#[76, 65, 59]⟩) := zA1 HZ.out 5 rfl
    have ez : ((⟨#[76, 65, 59]⟩ : ByteArray).toList == (⟨#[73]⟩ : ByteArray).toList) = false := by kernel_rfl
    go_wp2_with (go_at_call 98; refine (zAn B pr pm _ _ _ _ _ _ _ _ HM.out (by omega)).mono ?_; clear c0 c3 c4 c5 c6 hL hleft hprz hpmz; rintro e wn ⟨rfl, hm, hk, hsm⟩; have HZ2 := zA0 (hsm _ _ HZ.out); clear HZ hsm; have HZ := HZ2; clear HZ2; replace HK := zA0 (HK.out.trans hk); replace HM := zA0 hm; obtain ⟨c0, c3, c4, c5, c6, hL, hleft, hprz, hpmz⟩ := hm.read2; clear hm hk)
    exact ⟨⟨6, _, _, by go_num, by omega, by omega, HM.out, by omega, HK.out, HZ.out, by rw [HS.out]; rfl⟩, by simp [intOf]⟩
  · have cz : wr.cell? ⟨w.heap.size, 6, none⟩ = some (.string ⟨#[91, 73]⟩) := zA1 HZ.out 6 rfl
    have ez : ((⟨#[91, 73]⟩ : ByteArray).toList == (⟨#[73]⟩ : ByteArray).toList) = false := by kernel_rfl
    go_wp2_with (go_at_call 98; refine (zAn B pr pm _ _ _ _ _ _ _ _ HM.out (by omega)).mono ?_; clear c0 c3 c4 c5 c6 hL hleft hprz hpmz; rintro e wn ⟨rfl, hm, hk, hsm⟩; have HZ2 := zA0 (hsm _ _ HZ.out); clear HZ hsm; have HZ := HZ2; clear HZ2; replace HK := zA0 (HK.out.trans hk); replace HM := zA0 hm; obtain ⟨c0, c3, c4, c5, c6, hL, hleft, hprz, hpmz⟩ := hm.read2; clear hm hk)
    exact ⟨⟨7, _, _, by go_num, by omega, by omega, HM.out, by omega, HK.out, HZ.out, by rw [HS.out]; rfl⟩, by simp [intOf]⟩
  · have cz : wr.cell? ⟨w.heap.size, 7, none⟩ = some (.string ⟨#[76, 84, 104, 114, 111, 119, 97, 98, 108, 101, 59]⟩) := zA1 HZ.out 7 rfl
    have ez : ((⟨#[76, 84, 104, 114, 111, 119, 97, 98, 108, 101, 59]⟩ : ByteArray).toList == (⟨#[73]⟩ : ByteArray).toList) = false := by kernel_rfl
    go_wp2_with (go_at_call 98; refine (zAn B pr pm _ _ _ _ _ _ _ _ HM.out (by omega)).mono ?_; clear c0 c3 c4 c5 c6 hL hleft hprz hpmz; rintro e wn ⟨rfl, hm, hk, hsm⟩; have HZ2 := zA0 (hsm _ _ HZ.out); clear HZ hsm; have HZ := HZ2; clear HZ2; replace HK := zA0 (HK.out.trans hk); replace HM := zA0 hm; obtain ⟨c0, c3, c4, c5, c6, hL, hleft, hprz, hpmz⟩ := hm.read2; clear hm hk)
    exact ⟨⟨8, _, _, by go_num, by omega, by omega, HM.out, by omega, HK.out, HZ.out, by rw [HS.out]; rfl⟩, by simp [intOf]⟩
  · go_wp2_with (go_at_call 98; refine (zAn B pr pm _ _ _ _ _ _ _ _ HM.out (by omega)).mono ?_; clear c0 c3 c4 c5 c6 hL hleft hprz hpmz; rintro e wn ⟨rfl, hm, hk, hsm⟩; have HZ2 := zA0 (hsm _ _ HZ.out); clear HZ hsm; have HZ := HZ2; clear HZ2; replace HK := zA0 (HK.out.trans hk); replace HM := zA0 hm; obtain ⟨c0, c3, c4, c5, c6, hL, hleft, hprz, hpmz⟩ := hm.read2; clear hm hk)
    exact ⟨⟨9, _, _, by go_num, by omega, by omega, HM.out, by omega, HK.out, HZ.out, by rw [HS.out]; rfl⟩, by simp [intOf]⟩
  · have cz : wr.cell? ⟨w.heap.size, 9, none⟩ = some (.string ⟨#[91, 76, 65, 59]⟩) := zA1 HZ.out 9 rfl
    have ez : ((⟨#[91, 76, 65, 59]⟩ : ByteArray).toList == (⟨#[73]⟩ : ByteArray).toList) = false := by kernel_rfl
    go_wp2_with (go_at_call 98; refine (zAn B pr pm _ _ _ _ _ _ _ _ HM.out (by omega)).mono ?_; clear c0 c3 c4 c5 c6 hL hleft hprz hpmz; rintro e wn ⟨rfl, hm, hk, hsm⟩; have HZ2 := zA0 (hsm _ _ HZ.out); clear HZ hsm; have HZ := HZ2; clear HZ2; replace HK := zA0 (HK.out.trans hk); replace HM := zA0 hm; obtain ⟨c0, c3, c4, c5, c6, hL, hleft, hprz, hpmz⟩ := hm.read2; clear hm hk)
    exact ⟨⟨10, _, _, by go_num, by omega, by omega, HM.out, by omega, HK.out, HZ.out, by rw [HS.out]; rfl⟩, by simp [intOf]⟩
  · go_wp2
    go_end0
    refine ⟨rfl, ?_, HK.out⟩
    have := HM.out.mono (n' := n + 20) (by omega)
    rw [HS.out] at this
    exact this
theorem zNe (B pr pm n d : Nat) (σ : SG) (nm : ByteArray) (w : World) (h : Mk B pr pm n d false σ w) (hn : n ≤ 800000) :
 Calls Tryz.prog 99 #[.pointer (some ⟨pm, 0, none⟩), .bool true, .string nm, .int .i64 0] w fun e w' => e = .returned (.tuple #[]) ∧ Mk B pr pm (n + 20) d false (σ.slots [0, 1, 2, 3, 4, 5, 6, 7, 8, 9]) w' ∧ Kq B pr w w' := by
 have G := zA0 (zMh B pr pm n d σ w h hn)
 clear h
 go_enter Tryz.func99, Tryz.ntmps99
 go_wp2_with (go_at_call 135; refine G.out.mono ?_; rintro e wn ⟨rfl, hm, hk⟩)
 refine bodyPost_ret (results_none rfl _ _ _) rfl ?_
 exact ⟨rfl, hm, hk⟩
theorem zOg (B pr pm n d : Nat) (σ : SG) (nm : ByteArray) (w : World) (h : Mk B pr pm n d true σ w) (hn : n ≤ 800000) :
 Calls Tryz.prog 99 #[.pointer (some ⟨pm, 0, none⟩), .bool true, .string nm, .int .i64 2] w fun e w' => e = .returned (.tuple #[]) ∧ Mk B pr pm (n + 20) d true (σ.slots [2, 3]) w' ∧ Kq B pr w w' := by
 have G := zA0 (zMm B pr pm n d σ w h hn)
 clear h
 go_enter Tryz.func99, Tryz.ntmps99
 go_wp2_with (go_at_call 135; refine G.out.mono ?_; rintro e wn ⟨rfl, hm, hk⟩)
 refine bodyPost_ret (results_none rfl _ _ _) rfl ?_
 exact ⟨rfl, hm, hk⟩
end Go.Proofs.YtpehimfnkmepnaaGreat.M
