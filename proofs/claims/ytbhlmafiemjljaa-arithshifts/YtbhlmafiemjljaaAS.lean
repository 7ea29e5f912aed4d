/- ArithShifts walked. -/
import Derived.Test.YtbhlmafiemjljaaAN
import Derived.Test.YtbhlmafiemjljaaAQ
namespace Go.Proofs.Ytbhlmafiemjljaa
open Go.RowKit
theorem wrap64_id {n : Int} (h : -9223372036854775808 ≤ n) (h' : n ≤ 9223372036854775807) : wrap64 n = n := by rw [wrap64_eq]; omega
set_option maxRecDepth 8000 in
set_option maxHeartbeats 8000000 in
theorem shifts_any (a b : Int) (w : World) (ha : -2147483648 ≤ a) (ha2 : a ≤ 2147483647) (hb : -2147483648 ≤ b) (hb2 : b ≤ 2147483647) :
    Calls Try.prog 6 #[.int .i32 a, .int .i32 b] w fun e w' => e = .returned (.bool true) ∧ Below w.heap.size w w' := by
  have hk31 := and31_i32 b
  have hk1 : 0 ≤ b % 32 := by omega
  have hk2 : b % 32 < 32 := by omega
  have T1 := two_law 122 a b w ha ha2 hb hb2
  have T2 := two_law 124 a b w ha ha2 hb hb2
  have T3 := two_law 120 a b w ha ha2 hb hb2
  have i4 := twoZ_in 120 a 0 ha ha2 (by omega) (by omega)
  have T4 := two_law 120 a 0 w ha ha2 (by omega) (by omega)
  have T5 := two_law 122 (twoZ 120 a 0) 0 w i4.1 i4.2 (by omega) (by omega)
  rw [shr_shl a ha ha2] at T5
  generalize twoZ 120 a 0 = z4 at *
  rw [z122] at T1
  rw [z124] at T2
  rw [z120] at T3
  generalize b % 32 = k at *
  obtain ⟨p1, p2⟩ := pow_le hk2 hk1
  have hs1 := run_shl Try.prog .i64 .u64 1 k hk1 hk2 (by decide)
  have hs2 := run_shr Try.prog .u32 .u64 (a % 4294967296) k hk1 hk2 (by decide)
  have hs3 := run_shl Try.prog .u32 .u64 (a % 4294967296) k hk1 hk2 (by decide)
  have sd := shr_down a (2 ^ k.toNat) p1
  have su := shl_u a (2 ^ k.toNat)
  have si := shr_in ha ha2 hk1 hk2
  have sw : IntKind.i64.wrap (1 * 2 ^ k.toNat) = 2 ^ k.toNat := by rw [Int.one_mul, IntKind.wrap_i64]; omega
  generalize hpk : (2 : Int) ^ k.toNat = p at *
  rw [sw] at hs1
  have td := tdiv_in p ha ha2
  have su2 := su
  rw [IntKind.wrap_u32] at su2
  generalize wrap32 (a * p) = y3 at *
  have KN := hidIt (known_any w)
  replace T2 := hidIt T2
  replace T3 := hidIt T3
  replace T4 := hidIt T4
  replace T5 := hidIt T5
  have hp0 : ¬ p = 0 := by omega
  have hw0 : wrap64 p = p := wrap64_id (by omega) (by omega)
  have hw1 : wrap64 (a.tdiv p) = a.tdiv p := wrap_tdiv ha ha2
  have hw2 : wrap64 (a.tdiv p - 1) = a.tdiv p - 1 := wrap64_id (by omega) (by omega)
  clear sw hs1 hs2 hs3
  by_cases h1 : a < 0
  · by_cases h2 : a.tmod p = 0
    · have h2' : (a.tmod p == 0) = true := by simpa using h2
      rw [sd.2 (fun h => h.2 h2)] at T1
      clear h2 sd si
      replace T1 := hidIt T1
      generalize hr : a.tmod p = r at *
      generalize hq : a.tdiv p = q at *
      go_enter Try.func6, Try.ntmps6
      go_wp2_with fail
      all_goals try (exfalso; omega)
      refine T1.out.mono ?_
      rintro e w' ⟨rfl, hww⟩; cases hww
      go_wp2_with fail
      refine T2.out.mono ?_
      rintro e w' ⟨rfl, hww⟩; cases hww
      go_wp2_with fail
      refine T3.out.mono ?_
      rintro e w' ⟨rfl, hww⟩; cases hww
      go_wp2_with fail
      refine T4.out.mono ?_
      rintro e w' ⟨rfl, hww⟩; cases hww
      go_wp2_with fail
      refine T5.out.mono ?_
      rintro e w' ⟨rfl, hww⟩; cases hww
      go_wp2_with fail
      refine KN.out.mono ?_
      rintro e w' ⟨rfl, hww⟩; cases hww
      go_wp2_with fail
      go_ret
      exact ⟨rfl, Below.refl _ _⟩
    · have h2' : (a.tmod p == 0) = false := by simpa using h2
      rw [sd.1 ⟨h1, h2⟩] at T1
      clear h2 sd si
      replace T1 := hidIt T1
      generalize hr : a.tmod p = r at *
      generalize hq : a.tdiv p = q at *
      go_enter Try.func6, Try.ntmps6
      go_wp2_with fail
      all_goals try (exfalso; omega)
      refine T1.out.mono ?_
      rintro e w' ⟨rfl, hww⟩; cases hww
      go_wp2_with fail
      refine T2.out.mono ?_
      rintro e w' ⟨rfl, hww⟩; cases hww
      go_wp2_with fail
      refine T3.out.mono ?_
      rintro e w' ⟨rfl, hww⟩; cases hww
      go_wp2_with fail
      refine T4.out.mono ?_
      rintro e w' ⟨rfl, hww⟩; cases hww
      go_wp2_with fail
      refine T5.out.mono ?_
      rintro e w' ⟨rfl, hww⟩; cases hww
      go_wp2_with fail
      refine KN.out.mono ?_
      rintro e w' ⟨rfl, hww⟩; cases hww
      go_wp2_with fail
      go_ret
      exact ⟨rfl, Below.refl _ _⟩
  · rw [sd.2 (fun h => h1 h.1)] at T1
    have ea : a % 4294967296 = a := by omega
    rw [ea] at T2 su su2
    clear ea
    clear sd si
    replace T1 := hidIt T1
    generalize hr : a.tmod p = r at *
    generalize hq : a.tdiv p = q at *
    go_enter Try.func6, Try.ntmps6
    go_wp2_with fail
    all_goals try (exfalso; omega)
    refine T1.out.mono ?_
    rintro e w' ⟨rfl, hww⟩; cases hww
    go_wp2_with fail
    refine T2.out.mono ?_
    rintro e w' ⟨rfl, hww⟩; cases hww
    go_wp2_with fail
    refine T3.out.mono ?_
    rintro e w' ⟨rfl, hww⟩; cases hww
    go_wp2_with fail
    refine T4.out.mono ?_
    rintro e w' ⟨rfl, hww⟩; cases hww
    go_wp2_with fail
    refine T5.out.mono ?_
    rintro e w' ⟨rfl, hww⟩; cases hww
    go_wp2_with fail
    refine KN.out.mono ?_
    rintro e w' ⟨rfl, hww⟩; cases hww
    go_wp2_with fail
    go_ret
    exact ⟨rfl, Below.refl _ _⟩
end Go.Proofs.Ytbhlmafiemjljaa
