/- ArithLaws walked. -/
import Derived.Test.YtbhlmafiemjljaaAN
import Derived.Test.YtbhlmafiemjljaaAQ
namespace Go.Proofs.Ytbhlmafiemjljaa
open Go.RowKit
/-- A call of two, what it answers given. -/
def TC (w : World) (op x y z : Int) : Prop := Calls Try.prog 16 #[.int .i64 op, .int .i32 x, .int .i32 y] w (fun e w' => e = .returned (.int .i32 z) ∧ w' = w)
theorem tc (w : World) (op a b : Int) {z : Int} (h : twoZ op a b = z) (ha : -2147483648 ≤ a) (ha2 : a ≤ 2147483647) (hb : -2147483648 ≤ b) (hb2 : b ≤ 2147483647) : TC w op a b z := h ▸ two_law op a b w ha ha2 hb hb2
set_option maxRecDepth 8000 in
set_option maxHeartbeats 8000000 in
theorem laws_nz (a b c : Int) (w : World) (ha : -2147483648 ≤ a) (ha2 : a ≤ 2147483647) (hb : -2147483648 ≤ b) (hb2 : b ≤ 2147483647) (hc : -2147483648 ≤ c) (hc2 : c ≤ 2147483647) (h0 : b ≠ 0) :
    Calls Try.prog 5 #[.int .i32 a, .int .i32 b, .int .i32 c] w fun e w' => e = .returned (.bool true) ∧ Below w.heap.size w w' := by
  have kb1 : -2147483648 ≤ b % 32 := by omega
  have kb2 : b % 32 ≤ 2147483647 := by omega
  obtain ⟨s1, es1⟩ : ∃ z, z = twoZ 96 a b := ⟨_, rfl⟩
  have is1 := es1 ▸ twoZ_in 96 a b (by omega) (by omega) (by omega) (by omega)
  obtain ⟨m1, em1⟩ : ∃ z, z = twoZ 104 a b := ⟨_, rfl⟩
  have im1 := em1 ▸ twoZ_in 104 a b (by omega) (by omega) (by omega) (by omega)
  obtain ⟨s2, es2⟩ : ∃ z, z = twoZ 96 b c := ⟨_, rfl⟩
  have is2 := es2 ▸ twoZ_in 96 b c (by omega) (by omega) (by omega) (by omega)
  obtain ⟨m3, em3⟩ : ∃ z, z = twoZ 104 a c := ⟨_, rfl⟩
  have im3 := em3 ▸ twoZ_in 104 a c (by omega) (by omega) (by omega) (by omega)
  obtain ⟨m2, em2⟩ : ∃ z, z = twoZ 104 a s2 := ⟨_, rfl⟩
  have im2 := em2 ▸ twoZ_in 104 a s2 (by omega) (by omega) (by omega) (by omega)
  obtain ⟨u1, eu1⟩ : ∃ z, z = twoZ 120 a 1 := ⟨_, rfl⟩
  have iu1 := eu1 ▸ twoZ_in 120 a 1 (by omega) (by omega) (by omega) (by omega)
  obtain ⟨x1, ex1⟩ : ∃ z, z = twoZ 130 a b := ⟨_, rfl⟩
  have ix1 := ex1 ▸ twoZ_in 130 a b (by omega) (by omega) (by omega) (by omega)
  obtain ⟨o1, eo1⟩ : ∃ z, z = twoZ 128 a b := ⟨_, rfl⟩
  have io1 := eo1 ▸ twoZ_in 128 a b (by omega) (by omega) (by omega) (by omega)
  obtain ⟨v1, ev1⟩ : ∃ z, z = twoZ 120 a b := ⟨_, rfl⟩
  have iv1 := ev1 ▸ twoZ_in 120 a b (by omega) (by omega) (by omega) (by omega)
  obtain ⟨q1, eq1⟩ : ∃ z, z = twoZ 108 a b := ⟨_, rfl⟩
  have iq1 := eq1 ▸ twoZ_in 108 a b (by omega) (by omega) (by omega) (by omega)
  obtain ⟨r1, er1⟩ : ∃ z, z = twoZ 112 a b := ⟨_, rfl⟩
  have ir1 := er1 ▸ twoZ_in 112 a b (by omega) (by omega) (by omega) (by omega)
  obtain ⟨t1, et1⟩ : ∃ z, z = twoZ 104 q1 b := ⟨_, rfl⟩
  have it1 := et1 ▸ twoZ_in 104 q1 b (by omega) (by omega) (by omega) (by omega)
  obtain ⟨n, en⟩ : ∃ z, z = oneZ 116 a := ⟨_, rfl⟩
  have hn := en ▸ oneZ_in a
  have H1 := hidIt (tc w 96 a b (z := s1) (es1.symm) (by omega) (by omega) (by omega) (by omega))
  have H2 := hidIt (tc w 96 b a (z := s1) (by rw [add_comm32, es1]) (by omega) (by omega) (by omega) (by omega))
  have H3 := hidIt (tc w 104 a b (z := m1) (em1.symm) (by omega) (by omega) (by omega) (by omega))
  have H4 := hidIt (tc w 104 b a (z := m1) (by rw [mul_comm32, em1]) (by omega) (by omega) (by omega) (by omega))
  have H5 := hidIt (tc w 100 s1 b (z := a) (by rw [es1]; exact sub_back a b ha ha2) (by omega) (by omega) (by omega) (by omega))
  have H6 := hidIt (tc w 96 b c (z := s2) (es2.symm) (by omega) (by omega) (by omega) (by omega))
  have H7 := hidIt (tc w 104 a s2 (z := m2) (em2.symm) (by omega) (by omega) (by omega) (by omega))
  have H8 := hidIt (tc w 104 a c (z := m3) (em3.symm) (by omega) (by omega) (by omega) (by omega))
  have H9 := hidIt (tc w 96 m1 m3 (z := m2) (by rw [em1, em3, em2, es2]; exact mul_dist a b c) (by omega) (by omega) (by omega) (by omega))
  have J1 := hidIt (tc w 108 a b (z := q1) (eq1.symm) (by omega) (by omega) (by omega) (by omega))
  have J2 := hidIt (tc w 104 q1 b (z := t1) (et1.symm) (by omega) (by omega) (by omega) (by omega))
  have J3 := hidIt (tc w 112 a b (z := r1) (er1.symm) (by omega) (by omega) (by omega) (by omega))
  have J4 : b ≠ 0 → Hid (TC w 96 t1 r1 a) := fun h0 => hidIt (tc w 96 t1 r1 (z := a) (by rw [et1, er1, eq1]; exact div_back a b ha ha2 h0) (by omega) (by omega) (by omega) (by omega))
  have K1 := hidIt (tc w 120 a 1 (z := u1) (eu1.symm) (by omega) (by omega) (by omega) (by omega))
  have K2 := hidIt (tc w 96 a a (z := u1) (by rw [eu1]; exact (shl_one a).symm) (by omega) (by omega) (by omega) (by omega))
  have K3 := hidIt (tc w 130 a b (z := x1) (ex1.symm) (by omega) (by omega) (by omega) (by omega))
  have K4 := hidIt (tc w 130 x1 b (z := a) (by rw [ex1]; exact xor_back a b ha ha2) (by omega) (by omega) (by omega) (by omega))
  have K5 := hidIt (tc w 128 a b (z := o1) (eo1.symm) (by omega) (by omega) (by omega) (by omega))
  have K6 := hidIt (tc w 126 a o1 (z := a) (by rw [eo1]; exact and_or a b ha ha2) (by omega) (by omega) (by omega) (by omega))
  have K7 := hidIt (tc w 120 a b (z := v1) (ev1.symm) (by omega) (by omega) (by omega) (by omega))
  have K8 := hidIt (tc w 120 a (b % 32) (z := v1) (by rw [ev1]; exact shl_low a b) (by omega) (by omega) (by omega) (by omega))
  have K9 := hidIt (tc w 124 a 0 (z := a) (ushr_zero a ha ha2) (by omega) (by omega) (by omega) (by omega))
  have N1 := hidIt (tc w 96 a n (z := 0) (by rw [en]; exact neg_sum a) (by omega) (by omega) (by omega) (by omega))
  have N0 := tone_any 116 a w ha ha2
  rw [← en] at N0
  replace N0 := hidIt N0
  have hk31 := and31_i32 b
  generalize b % 32 = k5 at *
  have TT : ∀ k : Int, k = 159 ∨ k = 161 ∨ k = 163 → ∃ X Q : Bool, Calls Try.prog 11 #[.int .i64 k, .int .i32 a, .int .i32 b] w (fun e w' => (∃ y, e = .returned (.tuple #[.bool X, .int .i64 y])) ∧ w' = w) ∧ Calls Try.prog 11 #[.int .i64 (k + 1), .int .i32 a, .int .i32 b] w (fun e w' => (∃ y, e = .returned (.tuple #[.bool !X, .int .i64 y])) ∧ w' = w) ∧ Calls Try.prog 11 #[.int .i64 (k - 6), .int .i32 a, .int .i32 b] w (fun e w' => (∃ y, e = .returned (.tuple #[.bool Q, .int .i64 y])) ∧ w' = w) ∧ Calls Try.prog 11 #[.int .i64 k, .int .i32 a, .int .i32 0] w (fun e w' => (∃ y, e = .returned (.tuple #[.bool Q, .int .i64 y])) ∧ w' = w) := by
    intro k hk
    refine ⟨testZ k a b, testZ k a 0, ?_, ?_, ?_, ?_⟩
    · exact (ttest_any k a b w ha ha2 hb hb2).mono fun e w' h => ⟨⟨_, h.1⟩, h.2⟩
    · rw [← test_opp k a b hk]; exact (ttest_any (k + 1) a b w ha ha2 hb hb2).mono fun e w' h => ⟨⟨_, h.1⟩, h.2⟩
    · rw [← test_if k a b hk]; exact (ttest_any (k - 6) a b w ha ha2 hb hb2).mono fun e w' h => ⟨⟨_, h.1⟩, h.2⟩
    · exact (ttest_any k a 0 w ha ha2 (by omega) (by omega)).mono fun e w' h => ⟨⟨_, h.1⟩, h.2⟩
  replace TT := hidIt TT
  have KN := hidIt (known_any w)
  clear es1 em1 es2 em3 em2 eu1 ex1 eo1 ev1 eq1 er1 et1 en kb1 kb2
  unfold TC at *
  go_enter Try.func5, Try.ntmps5
  go_wp2_with fail
  refine H1.out.mono ?_
  rintro e w' ⟨rfl, hww⟩; cases hww
  go_wp2_with fail
  refine H2.out.mono ?_
  rintro e w' ⟨rfl, hww⟩; cases hww
  go_wp2_with fail
  refine H3.out.mono ?_
  rintro e w' ⟨rfl, hww⟩; cases hww
  go_wp2_with fail
  refine H4.out.mono ?_
  rintro e w' ⟨rfl, hww⟩; cases hww
  go_wp2_with fail
  refine H1.out.mono ?_
  rintro e w' ⟨rfl, hww⟩; cases hww
  go_wp2_with fail
  refine H5.out.mono ?_
  rintro e w' ⟨rfl, hww⟩; cases hww
  go_wp2_with fail
  refine H6.out.mono ?_
  rintro e w' ⟨rfl, hww⟩; cases hww
  go_wp2_with fail
  refine H7.out.mono ?_
  rintro e w' ⟨rfl, hww⟩; cases hww
  go_wp2_with fail
  refine H3.out.mono ?_
  rintro e w' ⟨rfl, hww⟩; cases hww
  go_wp2_with fail
  refine H8.out.mono ?_
  rintro e w' ⟨rfl, hww⟩; cases hww
  go_wp2_with fail
  refine H9.out.mono ?_
  rintro e w' ⟨rfl, hww⟩; cases hww
  have h0' : (b != 0) = true := by simpa using h0
  have J5 := J4 h0
  clear h0 J4
  go_wp2_with fail
  refine J1.out.mono ?_
  rintro e w' ⟨rfl, hww⟩; cases hww
  go_wp2_with fail
  refine J2.out.mono ?_
  rintro e w' ⟨rfl, hww⟩; cases hww
  go_wp2_with fail
  refine J3.out.mono ?_
  rintro e w' ⟨rfl, hww⟩; cases hww
  go_wp2_with fail
  refine J5.out.mono ?_
  rintro e w' ⟨rfl, hww⟩; cases hww
  go_wp2_with fail
  refine K1.out.mono ?_
  rintro e w' ⟨rfl, hww⟩; cases hww
  go_wp2_with fail
  refine K2.out.mono ?_
  rintro e w' ⟨rfl, hww⟩; cases hww
  go_wp2_with fail
  refine K3.out.mono ?_
  rintro e w' ⟨rfl, hww⟩; cases hww
  go_wp2_with fail
  refine K4.out.mono ?_
  rintro e w' ⟨rfl, hww⟩; cases hww
  go_wp2_with fail
  refine K5.out.mono ?_
  rintro e w' ⟨rfl, hww⟩; cases hww
  go_wp2_with fail
  refine K6.out.mono ?_
  rintro e w' ⟨rfl, hww⟩; cases hww
  go_wp2_with fail
  refine K7.out.mono ?_
  rintro e w' ⟨rfl, hww⟩; cases hww
  go_wp2_with fail
  refine K8.out.mono ?_
  rintro e w' ⟨rfl, hww⟩; cases hww
  go_wp2_with fail
  refine K9.out.mono ?_
  rintro e w' ⟨rfl, hww⟩; cases hww
  go_wp2_with fail
  refine N0.out.mono ?_
  rintro e w' ⟨rfl, hww⟩; cases hww
  go_wp2_with fail
  go_loop [9] (fun v => ∃ k : Int, (k = 159 ∨ k = 161 ∨ k = 163 ∨ k = 165) ∧ v = .int .i64 k) (fun v => (165 - intOf v).toNat)
  case atStart => exact ⟨159, .inl rfl, rfl⟩
  case round =>
    obtain ⟨k, hk, rfl⟩ := hrel
    by_cases h5 : k = 165
    · subst h5
      clear hk
      go_wp2_with fail
      refine N1.out.mono ?_
      rintro e w' ⟨rfl, hww⟩; cases hww
      go_wp2_with fail
      refine KN.out.mono ?_
      rintro e w' ⟨rfl, hww⟩; cases hww
      go_wp2_with fail
      go_ret
      exact ⟨rfl, Below.refl _ _⟩
    · have hk' : k = 159 ∨ k = 161 ∨ k = 163 := by omega
      obtain ⟨X, Q, t1, t2, t3, t4⟩ := TT.out k hk'
      clear h5 hk
      rcases hk' with rfl | rfl | rfl
      all_goals
        replace t1 := hidIt t1
        replace t2 := hidIt t2
        replace t3 := hidIt t3
        replace t4 := hidIt t4
        cases X <;> cases Q
      all_goals
        go_wp2_with fail
        refine t1.out.mono ?_
        rintro e w' ⟨⟨y1, rfl⟩, hww⟩; cases hww
        go_wp2_with fail
        refine t2.out.mono ?_
        rintro e w' ⟨⟨y2, rfl⟩, hww⟩; cases hww
        go_wp2_with fail
        refine t3.out.mono ?_
        rintro e w' ⟨⟨y3, rfl⟩, hww⟩; cases hww
        go_wp2_with fail
        refine t4.out.mono ?_
        rintro e w' ⟨⟨y4, rfl⟩, hww⟩; cases hww
        go_wp2_with fail
        first
          | exact ⟨⟨161, .inr (.inl rfl), rfl⟩, by decide⟩
          | exact ⟨⟨163, .inr (.inr (.inl rfl)), rfl⟩, by decide⟩
          | exact ⟨⟨165, .inr (.inr (.inr rfl)), rfl⟩, by decide⟩
set_option maxRecDepth 8000 in
set_option maxHeartbeats 8000000 in
theorem laws_z (a c : Int) (w : World) (ha : -2147483648 ≤ a) (ha2 : a ≤ 2147483647) (hb : -2147483648 ≤ (0 : Int)) (hb2 : (0 : Int) ≤ 2147483647) (hc : -2147483648 ≤ c) (hc2 : c ≤ 2147483647) :
    Calls Try.prog 5 #[.int .i32 a, .int .i32 0, .int .i32 c] w fun e w' => e = .returned (.bool true) ∧ Below w.heap.size w w' := by
  have kb1 : -2147483648 ≤ 0 % 32 := by omega
  have kb2 : 0 % 32 ≤ 2147483647 := by omega
  obtain ⟨s1, es1⟩ : ∃ z, z = twoZ 96 a 0 := ⟨_, rfl⟩
  have is1 := es1 ▸ twoZ_in 96 a 0 (by omega) (by omega) (by omega) (by omega)
  obtain ⟨m1, em1⟩ : ∃ z, z = twoZ 104 a 0 := ⟨_, rfl⟩
  have im1 := em1 ▸ twoZ_in 104 a 0 (by omega) (by omega) (by omega) (by omega)
  obtain ⟨s2, es2⟩ : ∃ z, z = twoZ 96 0 c := ⟨_, rfl⟩
  have is2 := es2 ▸ twoZ_in 96 0 c (by omega) (by omega) (by omega) (by omega)
  obtain ⟨m3, em3⟩ : ∃ z, z = twoZ 104 a c := ⟨_, rfl⟩
  have im3 := em3 ▸ twoZ_in 104 a c (by omega) (by omega) (by omega) (by omega)
  obtain ⟨m2, em2⟩ : ∃ z, z = twoZ 104 a s2 := ⟨_, rfl⟩
  have im2 := em2 ▸ twoZ_in 104 a s2 (by omega) (by omega) (by omega) (by omega)
  obtain ⟨u1, eu1⟩ : ∃ z, z = twoZ 120 a 1 := ⟨_, rfl⟩
  have iu1 := eu1 ▸ twoZ_in 120 a 1 (by omega) (by omega) (by omega) (by omega)
  obtain ⟨x1, ex1⟩ : ∃ z, z = twoZ 130 a 0 := ⟨_, rfl⟩
  have ix1 := ex1 ▸ twoZ_in 130 a 0 (by omega) (by omega) (by omega) (by omega)
  obtain ⟨o1, eo1⟩ : ∃ z, z = twoZ 128 a 0 := ⟨_, rfl⟩
  have io1 := eo1 ▸ twoZ_in 128 a 0 (by omega) (by omega) (by omega) (by omega)
  obtain ⟨v1, ev1⟩ : ∃ z, z = twoZ 120 a 0 := ⟨_, rfl⟩
  have iv1 := ev1 ▸ twoZ_in 120 a 0 (by omega) (by omega) (by omega) (by omega)
  obtain ⟨n, en⟩ : ∃ z, z = oneZ 116 a := ⟨_, rfl⟩
  have hn := en ▸ oneZ_in a
  have H1 := hidIt (tc w 96 a 0 (z := s1) (es1.symm) (by omega) (by omega) (by omega) (by omega))
  have H2 := hidIt (tc w 96 0 a (z := s1) (by rw [add_comm32, es1]) (by omega) (by omega) (by omega) (by omega))
  have H3 := hidIt (tc w 104 a 0 (z := m1) (em1.symm) (by omega) (by omega) (by omega) (by omega))
  have H4 := hidIt (tc w 104 0 a (z := m1) (by rw [mul_comm32, em1]) (by omega) (by omega) (by omega) (by omega))
  have H5 := hidIt (tc w 100 s1 0 (z := a) (by rw [es1]; exact sub_back a 0 ha ha2) (by omega) (by omega) (by omega) (by omega))
  have H6 := hidIt (tc w 96 0 c (z := s2) (es2.symm) (by omega) (by omega) (by omega) (by omega))
  have H7 := hidIt (tc w 104 a s2 (z := m2) (em2.symm) (by omega) (by omega) (by omega) (by omega))
  have H8 := hidIt (tc w 104 a c (z := m3) (em3.symm) (by omega) (by omega) (by omega) (by omega))
  have H9 := hidIt (tc w 96 m1 m3 (z := m2) (by rw [em1, em3, em2, es2]; exact mul_dist a 0 c) (by omega) (by omega) (by omega) (by omega))
  have K1 := hidIt (tc w 120 a 1 (z := u1) (eu1.symm) (by omega) (by omega) (by omega) (by omega))
  have K2 := hidIt (tc w 96 a a (z := u1) (by rw [eu1]; exact (shl_one a).symm) (by omega) (by omega) (by omega) (by omega))
  have K3 := hidIt (tc w 130 a 0 (z := x1) (ex1.symm) (by omega) (by omega) (by omega) (by omega))
  have K4 := hidIt (tc w 130 x1 0 (z := a) (by rw [ex1]; exact xor_back a 0 ha ha2) (by omega) (by omega) (by omega) (by omega))
  have K5 := hidIt (tc w 128 a 0 (z := o1) (eo1.symm) (by omega) (by omega) (by omega) (by omega))
  have K6 := hidIt (tc w 126 a o1 (z := a) (by rw [eo1]; exact and_or a 0 ha ha2) (by omega) (by omega) (by omega) (by omega))
  have K7 := hidIt (tc w 120 a 0 (z := v1) (ev1.symm) (by omega) (by omega) (by omega) (by omega))
  have K8 := hidIt (tc w 120 a (0 % 32) (z := v1) (by rw [ev1]; exact shl_low a 0) (by omega) (by omega) (by omega) (by omega))
  have K9 := hidIt (tc w 124 a 0 (z := a) (ushr_zero a ha ha2) (by omega) (by omega) (by omega) (by omega))
  have N1 := hidIt (tc w 96 a n (z := 0) (by rw [en]; exact neg_sum a) (by omega) (by omega) (by omega) (by omega))
  have N0 := tone_any 116 a w ha ha2
  rw [← en] at N0
  replace N0 := hidIt N0
  have hk31 := and31_i32 0
  generalize 0 % 32 = k5 at *
  have TT : ∀ k : Int, k = 159 ∨ k = 161 ∨ k = 163 → ∃ X Q : Bool, Calls Try.prog 11 #[.int .i64 k, .int .i32 a, .int .i32 0] w (fun e w' => (∃ y, e = .returned (.tuple #[.bool X, .int .i64 y])) ∧ w' = w) ∧ Calls Try.prog 11 #[.int .i64 (k + 1), .int .i32 a, .int .i32 0] w (fun e w' => (∃ y, e = .returned (.tuple #[.bool !X, .int .i64 y])) ∧ w' = w) ∧ Calls Try.prog 11 #[.int .i64 (k - 6), .int .i32 a, .int .i32 0] w (fun e w' => (∃ y, e = .returned (.tuple #[.bool Q, .int .i64 y])) ∧ w' = w) ∧ Calls Try.prog 11 #[.int .i64 k, .int .i32 a, .int .i32 0] w (fun e w' => (∃ y, e = .returned (.tuple #[.bool Q, .int .i64 y])) ∧ w' = w) := by
    intro k hk
    refine ⟨testZ k a 0, testZ k a 0, ?_, ?_, ?_, ?_⟩
    · exact (ttest_any k a 0 w ha ha2 hb hb2).mono fun e w' h => ⟨⟨_, h.1⟩, h.2⟩
    · rw [← test_opp k a 0 hk]; exact (ttest_any (k + 1) a 0 w ha ha2 hb hb2).mono fun e w' h => ⟨⟨_, h.1⟩, h.2⟩
    · rw [← test_if k a 0 hk]; exact (ttest_any (k - 6) a 0 w ha ha2 hb hb2).mono fun e w' h => ⟨⟨_, h.1⟩, h.2⟩
    · exact (ttest_any k a 0 w ha ha2 (by omega) (by omega)).mono fun e w' h => ⟨⟨_, h.1⟩, h.2⟩
  replace TT := hidIt TT
  have KN := hidIt (known_any w)
  clear es1 em1 es2 em3 em2 eu1 ex1 eo1 ev1 en kb1 kb2
  unfold TC at *
  go_enter Try.func5, Try.ntmps5
  go_wp2_with fail
  refine H1.out.mono ?_
  rintro e w' ⟨rfl, hww⟩; cases hww
  go_wp2_with fail
  refine H2.out.mono ?_
  rintro e w' ⟨rfl, hww⟩; cases hww
  go_wp2_with fail
  refine H3.out.mono ?_
  rintro e w' ⟨rfl, hww⟩; cases hww
  go_wp2_with fail
  refine H4.out.mono ?_
  rintro e w' ⟨rfl, hww⟩; cases hww
  go_wp2_with fail
  refine H1.out.mono ?_
  rintro e w' ⟨rfl, hww⟩; cases hww
  go_wp2_with fail
  refine H5.out.mono ?_
  rintro e w' ⟨rfl, hww⟩; cases hww
  go_wp2_with fail
  refine H6.out.mono ?_
  rintro e w' ⟨rfl, hww⟩; cases hww
  go_wp2_with fail
  refine H7.out.mono ?_
  rintro e w' ⟨rfl, hww⟩; cases hww
  go_wp2_with fail
  refine H3.out.mono ?_
  rintro e w' ⟨rfl, hww⟩; cases hww
  go_wp2_with fail
  refine H8.out.mono ?_
  rintro e w' ⟨rfl, hww⟩; cases hww
  go_wp2_with fail
  refine H9.out.mono ?_
  rintro e w' ⟨rfl, hww⟩; cases hww
  go_wp2_with fail
  refine K1.out.mono ?_
  rintro e w' ⟨rfl, hww⟩; cases hww
  go_wp2_with fail
  refine K2.out.mono ?_
  rintro e w' ⟨rfl, hww⟩; cases hww
  go_wp2_with fail
  refine K3.out.mono ?_
  rintro e w' ⟨rfl, hww⟩; cases hww
  go_wp2_with fail
  refine K4.out.mono ?_
  rintro e w' ⟨rfl, hww⟩; cases hww
  go_wp2_with fail
  refine K5.out.mono ?_
  rintro e w' ⟨rfl, hww⟩; cases hww
  go_wp2_with fail
  refine K6.out.mono ?_
  rintro e w' ⟨rfl, hww⟩; cases hww
  go_wp2_with fail
  refine K7.out.mono ?_
  rintro e w' ⟨rfl, hww⟩; cases hww
  go_wp2_with fail
  first | refine K8.out.mono ?_ | refine K7.out.mono ?_
  rintro e w' ⟨rfl, hww⟩; cases hww
  go_wp2_with fail
  refine K9.out.mono ?_
  rintro e w' ⟨rfl, hww⟩; cases hww
  go_wp2_with fail
  refine N0.out.mono ?_
  rintro e w' ⟨rfl, hww⟩; cases hww
  go_wp2_with fail
  go_loop [9] (fun v => ∃ k : Int, (k = 159 ∨ k = 161 ∨ k = 163 ∨ k = 165) ∧ v = .int .i64 k) (fun v => (165 - intOf v).toNat)
  case atStart => exact ⟨159, .inl rfl, rfl⟩
  case round =>
    obtain ⟨k, hk, rfl⟩ := hrel
    by_cases h5 : k = 165
    · subst h5
      clear hk
      go_wp2_with fail
      refine N1.out.mono ?_
      rintro e w' ⟨rfl, hww⟩; cases hww
      go_wp2_with fail
      refine KN.out.mono ?_
      rintro e w' ⟨rfl, hww⟩; cases hww
      go_wp2_with fail
      go_ret
      exact ⟨rfl, Below.refl _ _⟩
    · have hk' : k = 159 ∨ k = 161 ∨ k = 163 := by omega
      obtain ⟨X, Q, t1, t2, t3, t4⟩ := TT.out k hk'
      clear h5 hk
      rcases hk' with rfl | rfl | rfl
      all_goals
        replace t1 := hidIt t1
        replace t2 := hidIt t2
        replace t3 := hidIt t3
        replace t4 := hidIt t4
        cases X <;> cases Q
      all_goals
        go_wp2_with fail
        refine t1.out.mono ?_
        rintro e w' ⟨⟨y1, rfl⟩, hww⟩; cases hww
        go_wp2_with fail
        refine t2.out.mono ?_
        rintro e w' ⟨⟨y2, rfl⟩, hww⟩; cases hww
        go_wp2_with fail
        refine t3.out.mono ?_
        rintro e w' ⟨⟨y3, rfl⟩, hww⟩; cases hww
        go_wp2_with fail
        refine t4.out.mono ?_
        rintro e w' ⟨⟨y4, rfl⟩, hww⟩; cases hww
        go_wp2_with fail
        first
          | exact ⟨⟨161, .inr (.inl rfl), rfl⟩, by decide⟩
          | exact ⟨⟨163, .inr (.inr (.inl rfl)), rfl⟩, by decide⟩
          | exact ⟨⟨165, .inr (.inr (.inr rfl)), rfl⟩, by decide⟩
theorem laws_any (a b c : Int) (w : World) (ha : -2147483648 ≤ a) (ha2 : a ≤ 2147483647) (hb : -2147483648 ≤ b) (hb2 : b ≤ 2147483647) (hc : -2147483648 ≤ c) (hc2 : c ≤ 2147483647) :
    Calls Try.prog 5 #[.int .i32 a, .int .i32 b, .int .i32 c] w fun e w' => e = .returned (.bool true) ∧ Below w.heap.size w w' := by
  by_cases h0 : b = 0
  · subst h0; exact laws_z a c w ha ha2 hb hb2 hc hc2
  · exact laws_nz a b c w ha ha2 hb hb2 hc hc2 h0
end Go.Proofs.Ytbhlmafiemjljaa
