/- Types: Join; chapter 8's runs. -/
import Derived.Test.YtknppdpcgdncdaaTV
namespace Go.Proofs.Ytknppdpcgdncdaa.T
open Go.RowKit Q Q.D K

theorem joinK_succ (R : List KD) (n : Nat) (a b : ByteArray) : joinK R (n + 1) a b = if (knownK R a && knownK R b) = false then ⟨#[63]⟩ else joinIf R a b (joinK R n (eS a) (eS b)) := rfl
theorem join_t (w : World) (pk : Nat) (R : List Mem) (mb : Nat) (ao : Option Addr) (c : Nat) (h : KinV w pk R mb ao c) (hR : R.length ≤ 1000000) (hn : ∀ k ∈ R.map Mem.k, k.nm.size ≤ 1000000) (a b : ByteArray) (ha : a.size ≤ 9223372036854775000) (hb : b.size ≤ 9223372036854775000) :
    Calls Try.prog 8 #[.pointer (some ⟨pk, 0, none⟩), .string a, .string b] w fun e w' => e = .returned (.string (JoinK (R.map Mem.k) a b)) ∧ Below w.heap.size w w' := by
  unfold JoinK
  rw [joinK_succ]
  cases hk : (knownK (R.map Mem.k) a && knownK (R.map Mem.k) b)
  · rw [if_pos rfl]
    exact join_no w pk R mb ao c h a b ha hb hk
  · rw [if_neg (by simp)]
    obtain ⟨ka, kb⟩ := Bool.and_eq_true_iff.1 hk
    have la := slot_len (known_slot ka)
    have lb := slot_len (known_slot kb)
    have ea := eS_size a
    have eb := eS_size b
    refine join_gen w pk R mb ao c h hR hn a b ka kb _ (Nat.le_trans (join_size hn 1 (eS a) (eS b)) (by omega)) (fun hbo W bW => ?_)
    have h2 : bothK (eS a) (eS b) [91, 76] = false := by
      unfold bothK at hbo ⊢
      rw [(eS_arr (known_slot ka) (Bool.and_eq_true_iff.1 hbo).1).2]
      rfl
    rw [joinK_succ]
    cases hk2 : (knownK (R.map Mem.k) (eS a) && knownK (R.map Mem.k) (eS b))
    · rw [if_pos rfl]
      exact join_no W pk R mb ao c (h.below bW) _ _ (by omega) (by omega) hk2
    · rw [if_neg (by simp)]
      obtain ⟨ka2, kb2⟩ := Bool.and_eq_true_iff.1 hk2
      exact join_gen W pk R mb ao c (h.below bW) hR hn _ _ ka2 kb2 _ (by unfold joinK; decide) (fun e => by rw [h2] at e; cases e)
set_option maxRecDepth 8000 in
set_option maxHeartbeats 1000000 in
theorem known_nil (s : ByteArray) (w : World) (hs : s.size ≤ 9223372036854775807) : Calls Try.prog 10 #[.pointer none, .string s] w fun e w' => e = .returned (.bool false) ∧ w' = w := by
  have h1 := D.hidIt (class_t s w hs)
  go_enter Try.func10, Try.ntmps10
  go_wp2_with fail
  refine h1.out.mono ?_; rintro e w' ⟨rfl, hww⟩; cases hww
  go_wp2_with fail
  go_ret
  exact ⟨rfl, rfl⟩
theorem given_names : ∀ k ∈ givenK.reverse, k.nm.size ≤ 1000000 := by
  intro k hk
  simp only [List.mem_reverse] at hk
  revert k
  decide
theorem ev1 : FitsK givenK.reverse ⟨#[48]⟩ ⟨#[91, 73]⟩ = true := by kernel_rfl
theorem ev2 : FitsK givenK.reverse ⟨#[91, 76, 73, 110, 100, 101, 120, 59]⟩ ⟨#[91, 76, 84, 104, 114, 111, 119, 97, 98, 108, 101, 59]⟩ = true := by kernel_rfl
theorem ev3 : JoinK givenK.reverse ⟨#[76, 73, 110, 100, 101, 120, 59]⟩ ⟨#[76, 67, 97, 115, 116, 59]⟩ = ⟨#[76, 84, 104, 114, 111, 119, 97, 98, 108, 101, 59]⟩ := by kernel_rfl
theorem ev4 : JoinK givenK.reverse ⟨#[73]⟩ ⟨#[48]⟩ = ⟨#[63]⟩ := by kernel_rfl
theorem ev5 : knownK givenK.reverse ⟨#[76, 78, 111, 110, 101, 59]⟩ = false := by kernel_rfl
theorem ev6 : FitsK givenK.reverse ⟨#[91, 73]⟩ ⟨#[76, 79, 98, 106, 101, 99, 116, 59]⟩ = true := by kernel_rfl
theorem ev7 : FitsK givenK.reverse ⟨#[73]⟩ ⟨#[63]⟩ = true := by kernel_rfl
theorem ev8 : FitsK givenK.reverse ⟨#[63]⟩ ⟨#[73]⟩ = false := by kernel_rfl
theorem ev9 : FitsK givenK.reverse ⟨#[91, 73]⟩ ⟨#[91, 76, 79, 98, 106, 101, 99, 116, 59]⟩ = false := by kernel_rfl
theorem ev10 : JoinK givenK.reverse ⟨#[91, 73]⟩ ⟨#[91, 76, 79, 98, 106, 101, 99, 116, 59]⟩ = ⟨#[76, 79, 98, 106, 101, 99, 116, 59]⟩ := by kernel_rfl
theorem ev11 : JoinK givenK.reverse ⟨#[91, 76, 73, 110, 100, 101, 120, 59]⟩ ⟨#[91, 76, 67, 97, 115, 116, 59]⟩ = ⟨#[91, 76, 84, 104, 114, 111, 119, 97, 98, 108, 101, 59]⟩ := by kernel_rfl
theorem ev12 : JoinK givenK.reverse ⟨#[73]⟩ ⟨#[73]⟩ = ⟨#[73]⟩ := by kernel_rfl
theorem ev13 : isRefK ⟨#[48]⟩ = true := by kernel_rfl
theorem ev14 : isRefK ⟨#[91, 73]⟩ = true := by kernel_rfl
theorem ev15 : isRefK ⟨#[73]⟩ = false := by kernel_rfl
theorem ev16 : isRefK ⟨#[63]⟩ = false := by kernel_rfl
theorem ev17 : isRefK ⟨#[76, 65]⟩ = false := by kernel_rfl
theorem ev18 : knownK givenK.reverse ⟨#[91, 73]⟩ = true := by kernel_rfl
set_option maxRecDepth 8000 in
set_option maxHeartbeats 4000000 in
theorem known_any (w : World) : Calls Try.prog 11 #[] w fun e w' => e = .returned (.bool true) ∧ Below w.heap.size w w' := by
  go_enter Try.func11, Try.ntmps11
  go_wp2_with fail
  refine (new_any w).mono ?_
  rintro e w1 ⟨pk, mb, v, R, rfl, KO, hR, B1⟩
  have hR' : R.map Mem.k = givenK.reverse := by rw [← hR, List.map_reverse, List.reverse_reverse]
  have hlen : R.length ≤ 1000000 := by have := congrArg List.length hR'; rw [List.length_map] at this; rw [this]; decide
  have hn : ∀ k ∈ R.map Mem.k, k.nm.size ≤ 1000000 := by rw [hR']; exact given_names
  obtain ⟨ao, c, hv, V⟩ := KO.view
  have HR := D.hidIt hR'
  have HN := D.hidIt hn
  have V1 := D.hidIt V
  clear KO hR hR' hv V hn
  go_wp2_with fail
  have C1 := D.hidIt (Fits_t w1 pk R mb ao c V1.out ⟨#[48]⟩ ⟨#[91, 73]⟩ (by decide) (by decide))
  rw [HR.out, ev1] at C1
  refine C1.out.mono ?_; rintro e w2 ⟨rfl, b2⟩
  have B2 := next B1 b2
  have V2 := D.hidIt (V1.out.below b2)
  clear C1 B1 V1 b2
  go_wp2_with fail
  have C2 := D.hidIt (Fits_t w2 pk R mb ao c V2.out ⟨#[91, 76, 73, 110, 100, 101, 120, 59]⟩ ⟨#[91, 76, 84, 104, 114, 111, 119, 97, 98, 108, 101, 59]⟩ (by decide) (by decide))
  rw [HR.out, ev2] at C2
  refine C2.out.mono ?_; rintro e w3 ⟨rfl, b3⟩
  have B3 := next B2 b3
  have V3 := D.hidIt (V2.out.below b3)
  clear C2 B2 V2 b3
  go_wp2_with fail
  have C3 := D.hidIt (join_t w3 pk R mb ao c V3.out hlen HN.out ⟨#[76, 73, 110, 100, 101, 120, 59]⟩ ⟨#[76, 67, 97, 115, 116, 59]⟩ (by decide) (by decide))
  rw [HR.out, ev3] at C3
  refine C3.out.mono ?_; rintro e w4 ⟨rfl, b4⟩
  have B4 := next B3 b4
  have V4 := D.hidIt (V3.out.below b4)
  clear C3 B3 V3 b4
  go_wp2_with fail
  have C4 := D.hidIt (join_t w4 pk R mb ao c V4.out hlen HN.out ⟨#[73]⟩ ⟨#[48]⟩ (by decide) (by decide))
  rw [HR.out, ev4] at C4
  refine C4.out.mono ?_; rintro e w5 ⟨rfl, b5⟩
  have B5 := next B4 b5
  have V5 := D.hidIt (V4.out.below b5)
  clear C4 B4 V4 b5
  go_wp2_with fail
  have C5 := D.hidIt (known_t w5 pk R mb ao c V5.out ⟨#[76, 78, 111, 110, 101, 59]⟩ (by decide))
  rw [HR.out, ev5] at C5
  refine C5.out.mono ?_; rintro e w6 ⟨rfl, b6⟩
  have B6 := next B5 b6
  have V6 := D.hidIt (V5.out.below b6)
  clear C5 B5 V5 b6
  go_wp2_with fail
  go_ret
  exact ⟨rfl, B6⟩
set_option maxRecDepth 8000 in
set_option maxHeartbeats 4000000 in
theorem numbers_any (w : World) : Calls Try.prog 3 #[] w fun e w' => e = .returned (.bool true) ∧ Below w.heap.size w w' := by
  go_enter Try.func3, Try.ntmps3
  go_wp2_with fail
  refine (new_any w).mono ?_
  rintro e w1 ⟨pk, mb, v, R, rfl, KO, hR, B1⟩
  have hR' : R.map Mem.k = givenK.reverse := by rw [← hR, List.map_reverse, List.reverse_reverse]
  have hlen : R.length ≤ 1000000 := by have := congrArg List.length hR'; rw [List.length_map] at this; rw [this]; decide
  have hn : ∀ k ∈ R.map Mem.k, k.nm.size ≤ 1000000 := by rw [hR']; exact given_names
  obtain ⟨ao, c, hv, V⟩ := KO.view
  have HR := D.hidIt hR'
  have HN := D.hidIt hn
  have V1 := D.hidIt V
  clear KO hR hR' hv V hn
  go_wp2_with fail
  have C1 := D.hidIt (Fits_t w1 pk R mb ao c V1.out ⟨#[91, 73]⟩ ⟨#[76, 79, 98, 106, 101, 99, 116, 59]⟩ (by decide) (by decide))
  rw [HR.out, ev6] at C1
  refine C1.out.mono ?_; rintro e w2 ⟨rfl, b2⟩
  have B2 := next B1 b2
  have V2 := D.hidIt (V1.out.below b2)
  clear C1 B1 V1 b2
  go_wp2_with fail
  have C2 := D.hidIt (Fits_t w2 pk R mb ao c V2.out ⟨#[73]⟩ ⟨#[63]⟩ (by decide) (by decide))
  rw [HR.out, ev7] at C2
  refine C2.out.mono ?_; rintro e w3 ⟨rfl, b3⟩
  have B3 := next B2 b3
  have V3 := D.hidIt (V2.out.below b3)
  clear C2 B2 V2 b3
  go_wp2_with fail
  have C3 := D.hidIt (Fits_t w3 pk R mb ao c V3.out ⟨#[63]⟩ ⟨#[73]⟩ (by decide) (by decide))
  rw [HR.out, ev8] at C3
  refine C3.out.mono ?_; rintro e w4 ⟨rfl, b4⟩
  have B4 := next B3 b4
  have V4 := D.hidIt (V3.out.below b4)
  clear C3 B3 V3 b4
  go_wp2_with fail
  have C4 := D.hidIt (Fits_t w4 pk R mb ao c V4.out ⟨#[91, 73]⟩ ⟨#[91, 76, 79, 98, 106, 101, 99, 116, 59]⟩ (by decide) (by decide))
  rw [HR.out, ev9] at C4
  refine C4.out.mono ?_; rintro e w5 ⟨rfl, b5⟩
  have B5 := next B4 b5
  have V5 := D.hidIt (V4.out.below b5)
  clear C4 B4 V4 b5
  go_wp2_with fail
  have C5 := D.hidIt (join_t w5 pk R mb ao c V5.out hlen HN.out ⟨#[91, 73]⟩ ⟨#[91, 76, 79, 98, 106, 101, 99, 116, 59]⟩ (by decide) (by decide))
  rw [HR.out, ev10] at C5
  refine C5.out.mono ?_; rintro e w6 ⟨rfl, b6⟩
  have B6 := next B5 b6
  have V6 := D.hidIt (V5.out.below b6)
  clear C5 B5 V5 b6
  go_wp2_with fail
  have C6 := D.hidIt (join_t w6 pk R mb ao c V6.out hlen HN.out ⟨#[91, 76, 73, 110, 100, 101, 120, 59]⟩ ⟨#[91, 76, 67, 97, 115, 116, 59]⟩ (by decide) (by decide))
  rw [HR.out, ev11] at C6
  refine C6.out.mono ?_; rintro e w7 ⟨rfl, b7⟩
  have B7 := next B6 b7
  have V7 := D.hidIt (V6.out.below b7)
  clear C6 B6 V6 b7
  go_wp2_with fail
  have C7 := D.hidIt (join_t w7 pk R mb ao c V7.out hlen HN.out ⟨#[73]⟩ ⟨#[73]⟩ (by decide) (by decide))
  rw [HR.out, ev12] at C7
  refine C7.out.mono ?_; rintro e w8 ⟨rfl, b8⟩
  have B8 := next B7 b8
  have V8 := D.hidIt (V7.out.below b8)
  clear C7 B7 V7 b8
  go_wp2_with fail
  have C8 := D.hidIt (isRef_t ⟨#[48]⟩ w8 (by decide))
  rw [ev13] at C8
  refine C8.out.mono ?_; rintro e w' ⟨rfl, hww⟩; cases hww
  clear C8
  go_wp2_with fail
  have C8 := D.hidIt (isRef_t ⟨#[91, 73]⟩ w8 (by decide))
  rw [ev14] at C8
  refine C8.out.mono ?_; rintro e w' ⟨rfl, hww⟩; cases hww
  clear C8
  go_wp2_with fail
  have C8 := D.hidIt (isRef_t ⟨#[73]⟩ w8 (by decide))
  rw [ev15] at C8
  refine C8.out.mono ?_; rintro e w' ⟨rfl, hww⟩; cases hww
  clear C8
  go_wp2_with fail
  have C8 := D.hidIt (isRef_t ⟨#[63]⟩ w8 (by decide))
  rw [ev16] at C8
  refine C8.out.mono ?_; rintro e w' ⟨rfl, hww⟩; cases hww
  clear C8
  go_wp2_with fail
  have C8 := D.hidIt (isRef_t ⟨#[76, 65]⟩ w8 (by decide))
  rw [ev17] at C8
  refine C8.out.mono ?_; rintro e w' ⟨rfl, hww⟩; cases hww
  clear C8
  go_wp2_with fail
  have C8 := D.hidIt (known_nil ⟨#[76, 79, 98, 106, 101, 99, 116, 59]⟩ w8 (by decide))
  refine C8.out.mono ?_; rintro e w' ⟨rfl, hww⟩; cases hww
  clear C8
  go_wp2_with fail
  have C8 := D.hidIt (known_t w8 pk R mb ao c V8.out ⟨#[91, 73]⟩ (by decide))
  rw [HR.out, ev18] at C8
  refine C8.out.mono ?_; rintro e w9 ⟨rfl, b9⟩
  have B9 := next B8 b9
  have V9 := D.hidIt (V8.out.below b9)
  clear C8 B8 V8 b9
  go_wp2_with fail
  refine (known_any w9).mono ?_; rintro e w10 ⟨rfl, b10⟩
  have B10 := next B9 b10
  go_wp2_with fail
  go_ret
  exact ⟨rfl, B10⟩
end Go.Proofs.Ytknppdpcgdncdaa.T
