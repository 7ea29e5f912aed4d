/- LoaderNumbers. -/
import Derived.Test.YtacmooknfbjpeaaLJa
namespace Go.Proofs.Ytacmooknfbjpeaa.J
open Go.RowKit Go.MapKept Go.ChangeMaps
set_option linter.unusedVariables false
def nS0 : Ls := Ls.empty.add (-1)
def nS1 : Ls := (nS0.child 0).1
def nS2 : Ls := (nS1.agree 0 1 ⟨#[65]⟩).1
def nS3 : Ls := (nS2.offer 0 ⟨#[65]⟩ ⟨#[]⟩ 4).1
def nS4 : Ls := ((nS3.loadR 1 ⟨#[65]⟩).map (·.1)).getD nS3
def nS5 : Ls := ((nS4.loadR 0 ⟨#[65]⟩).map (·.1)).getD nS4
def nS6 : Ls := (nS5.offer 0 ⟨#[65]⟩ ⟨#[]⟩ 4).1
def nS7 : Ls := (nS6.offer 0 ⟨#[57]⟩ ⟨#[]⟩ 4).1
def nS8 : Ls := (nS7.offer 0 ⟨#[66]⟩ ⟨#[]⟩ (-1)).1
def nS9 : Ls := (nS8.child 9).1
def nS10 : Ls := (nS9.agree 0 9 ⟨#[65]⟩).1
def nS11 : Ls := (nS10.child 0).1
def nS12 : Ls := (nS11.offer 1 ⟨#[68]⟩ ⟨#[]⟩ 1).1
def nS13 : Ls := (nS12.offer 2 ⟨#[68]⟩ ⟨#[]⟩ 2).1
def nS14 : Ls := ((nS13.loadR 1 ⟨#[68]⟩).map (·.1)).getD nS13
def nS15 : Ls := (nS14.agree 1 2 ⟨#[68]⟩).1
def nS16 : Ls := ((nS15.loadR 2 ⟨#[68]⟩).map (·.1)).getD nS15
def nS17 : Ls := nS16
def nS18 : Ls := (nS17.agree 0 0 ⟨#[90]⟩).1
theorem nr0 : nS0.child 0 = (nS1, 1, 0) := by kernel_rfl
theorem nr1 : nS1.agree 0 1 ⟨#[65]⟩ = (nS2, 0) := by kernel_rfl
theorem nr2 : nS2.offer 0 ⟨#[65]⟩ ⟨#[]⟩ 4 = (nS3, 0) := by kernel_rfl
theorem nr3 : nS3.loadR 1 ⟨#[65]⟩ = some (nS4, 4, 0, 0) := by kernel_rfl
theorem nr4 : nS4.loadR 0 ⟨#[65]⟩ = some (nS5, 4, 0, 0) := by kernel_rfl
theorem nr5 : nS5.offer 0 ⟨#[65]⟩ ⟨#[]⟩ 4 = (nS6, 23) := by kernel_rfl
theorem nr6 : nS6.offer 0 ⟨#[57]⟩ ⟨#[]⟩ 4 = (nS7, 1) := by kernel_rfl
theorem nr7 : nS7.offer 0 ⟨#[66]⟩ ⟨#[]⟩ (-1) = (nS8, 1) := by kernel_rfl
theorem nr8 : nS8.child 9 = (nS9, 0, 1) := by kernel_rfl
theorem nr9 : nS9.agree 0 9 ⟨#[65]⟩ = (nS10, 1) := by kernel_rfl
theorem nr10 : nS10.child 0 = (nS11, 2, 0) := by kernel_rfl
theorem nr11 : nS11.offer 1 ⟨#[68]⟩ ⟨#[]⟩ 1 = (nS12, 0) := by kernel_rfl
theorem nr12 : nS12.offer 2 ⟨#[68]⟩ ⟨#[]⟩ 2 = (nS13, 0) := by kernel_rfl
theorem nr13 : nS13.loadR 1 ⟨#[68]⟩ = some (nS14, 1, 1, 0) := by kernel_rfl
theorem nr14 : nS14.agree 1 2 ⟨#[68]⟩ = (nS15, 0) := by kernel_rfl
theorem nr15 : nS15.loadR 2 ⟨#[68]⟩ = some (nS16, 0, 0, 25) := by kernel_rfl
theorem nr16 : nS16.ldd 2 ⟨#[68]⟩ = none := by kernel_rfl
theorem nr17 : nS17.agree 0 0 ⟨#[90]⟩ = (nS18, 0) := by kernel_rfl
set_option maxRecDepth 8000 in
set_option maxHeartbeats 4000000 in
theorem lnumbers_any (w : World) : Calls Try.prog 3 #[] w fun e w' => e = .returned (.bool true) ∧ Below w.heap.size w w' := by
  go_enter Try.func3, Try.ntmps3
  go_wp2_with (first
    | (go_at_call 8; refine (at_new _).mono ?_; rintro e w1 ⟨b, rfl, a, hb⟩; have A0 := hidIt (show LAt _ b w1 nS0 from a); have B0 := hidIt hb; clear a hb)
    | (go_at_call 9; refine (at_child3 A0.out nr0).mono ?_; rintro e v0 ⟨rfl, a, s⟩; have A1 := hidIt a; have B1 := hidIt (B0.out.trans s.below); clear a s A0 B0)
    | (go_at_call 10; refine (at_agree2 A1.out nr1).mono ?_; rintro e v1 ⟨rfl, a, s⟩; have A2 := hidIt a; have B2 := hidIt (B1.out.trans s.below); clear a s A1 B1)
    | (go_at_call 11; refine (at_offer2 A2.out nr2).mono ?_; rintro e v2 ⟨rfl, a, s⟩; have A3 := hidIt a; have B3 := hidIt (B2.out.trans s.below); clear a s A2 B2)
    | (go_at_call 12; refine (at_load4 A3.out nr3).mono ?_; rintro e v3 ⟨rfl, a, s⟩; have A4 := hidIt a; have B4 := hidIt (B3.out.trans s.below); clear a s A3 B3)
    | (go_at_call 12; refine (at_load4 A4.out nr4).mono ?_; rintro e v4 ⟨rfl, a, s⟩; have A5 := hidIt a; have B5 := hidIt (B4.out.trans s.below); clear a s A4 B4)
    | (go_at_call 11; refine (at_offer2 A5.out nr5).mono ?_; rintro e v5 ⟨rfl, a, s⟩; have A6 := hidIt a; have B6 := hidIt (B5.out.trans s.below); clear a s A5 B5)
    | (go_at_call 11; refine (at_offer2 A6.out nr6).mono ?_; rintro e v6 ⟨rfl, a, s⟩; have A7 := hidIt a; have B7 := hidIt (B6.out.trans s.below); clear a s A6 B6)
    | (go_at_call 11; refine (at_offer2 A7.out nr7).mono ?_; rintro e v7 ⟨rfl, a, s⟩; have A8 := hidIt a; have B8 := hidIt (B7.out.trans s.below); clear a s A7 B7)
    | (go_at_call 9; refine (at_child3 A8.out nr8).mono ?_; rintro e v8 ⟨rfl, a, s⟩; have A9 := hidIt a; have B9 := hidIt (B8.out.trans s.below); clear a s A8 B8)
    | (go_at_call 10; refine (at_agree2 A9.out nr9).mono ?_; rintro e v9 ⟨rfl, a, s⟩; have A10 := hidIt a; have B10 := hidIt (B9.out.trans s.below); clear a s A9 B9)
    | (go_at_call 9; refine (at_child3 A10.out nr10).mono ?_; rintro e v10 ⟨rfl, a, s⟩; have A11 := hidIt a; have B11 := hidIt (B10.out.trans s.below); clear a s A10 B10)
    | (go_at_call 11; refine (at_offer2 A11.out nr11).mono ?_; rintro e v11 ⟨rfl, a, s⟩; have A12 := hidIt a; have B12 := hidIt (B11.out.trans s.below); clear a s A11 B11)
    | (go_at_call 11; refine (at_offer2 A12.out nr12).mono ?_; rintro e v12 ⟨rfl, a, s⟩; have A13 := hidIt a; have B13 := hidIt (B12.out.trans s.below); clear a s A12 B12)
    | (go_at_call 12; refine (at_load4 A13.out nr13).mono ?_; rintro e v13 ⟨rfl, a, s⟩; have A14 := hidIt a; have B14 := hidIt (B13.out.trans s.below); clear a s A13 B13)
    | (go_at_call 10; refine (at_agree2 A14.out nr14).mono ?_; rintro e v14 ⟨rfl, a, s⟩; have A15 := hidIt a; have B15 := hidIt (B14.out.trans s.below); clear a s A14 B14)
    | (go_at_call 12; refine (at_load4 A15.out nr15).mono ?_; rintro e v15 ⟨rfl, a, s⟩; have A16 := hidIt a; have B16 := hidIt (B15.out.trans s.below); clear a s A15 B15)
    | (go_at_call 13; refine (at_loaded2 A16.out nr16).mono ?_; rintro e v16 ⟨rfl, a, s⟩; have A17 := hidIt (show LAt _ b v16 nS17 from a); have B17 := hidIt (B16.out.trans (s.mono (by have := A16.out.lo; omega))); clear a s A16 B16)
    | (go_at_call 10; refine (at_agree2 A17.out nr17).mono ?_; rintro e v17 ⟨rfl, a, s⟩; have A18 := hidIt a; have B18 := hidIt (B17.out.trans s.below); clear a s A17 B17)
    | (go_at_call 14; refine (known_any _).mono ?_; rintro e w9 ⟨rfl, hb⟩; have BK := hidIt (B18.out.trans (hb.mono B18.out.size)); clear hb))
  go_ret
  exact ⟨rfl, BK.out⟩
end Go.Proofs.Ytacmooknfbjpeaa.J
