/- Letters, Within; the classes of KinMany, by the kernel. -/
import Derived.Test.YtlkhfpbniogllaaKZ
namespace Go.Proofs.Ytlkhfpbniogllaa.K
open Go.RowKit Q Q.D

theorem letter_i32 (k : Nat) (h : k ≤ 25) (w : World) : (convert 3 21 (.int .i64 (97 + (k : Int)))).run Try.prog w = .ok (.int .i32 (97 + (k : Int))) w := by
  simp only [convert, Sem.run_bind, run_underlying Try.underlying3, run_underlying Try.underlying21, Result.andThen_ok]
  simp only [Conv.intToInt, Sem.run_pure]
  rw [IntKind.wrap_i32, show (97 + (k : Int) + 2147483648) % 4294967296 - 2147483648 = 97 + k by omega]
theorem letter_str (k : Nat) (h : k ≤ 25) (w : World) : (convert 21 9 (.int .i32 (97 + (k : Int)))).run Try.prog w = .ok (.string ⟨#[UInt8.ofNat (97 + k)]⟩) w := by
  simp only [convert, Sem.run_bind, run_underlying Try.underlying21, run_underlying Try.underlying9, Result.andThen_ok]
  simp only [Conv.intToString, Sem.run_pure]
  have e : ∀ j : Fin 26, Utf8.encode (97 + (j.val : Int)) = ⟨#[UInt8.ofNat (97 + j.val)]⟩ := by decide
  rw [show Utf8.encode (97 + (k : Int)) = ⟨#[UInt8.ofNat (97 + k)]⟩ from e ⟨k, by omega⟩]
theorem tmod_pos (n m : Int) (h : 0 < m) : -m < n.tmod m ∧ n.tmod m < m := by
  have h1 := Int.tmod_lt_of_pos n h
  have h2 := Int.lt_tmod_of_pos n h
  omega
set_option maxRecDepth 8000 in
set_option maxHeartbeats 1000000 in
theorem within_any (n : Int) (hi : Nat) (hm : hi ≤ 1099511627776) (w : World) :
    Calls Try.prog 18 #[.int .i64 n, .int .i64 0, .int .i64 (hi : Int)] w fun e w' => (∃ k : Nat, k ≤ hi ∧ e = .returned (.int .i64 (k : Int))) ∧ w' = w := by
  have hf := tmod_pos n ((hi : Int) + 1) (by omega)
  obtain ⟨h1, h2⟩ := hf
  have e2 : ¬ (hi : Int) + 1 = 0 := by omega
  by_cases hc : n.tmod ((hi : Int) + 1) < 0
  · go_enter Try.func18, Try.ntmps18
    go_wp2
    go_ret
    refine ⟨⟨(n.tmod ((hi : Int) + 1) + hi + 1).toNat, by omega, ?_⟩, rfl⟩
    refine D.ret_int ?_
    omega
  · go_enter Try.func18, Try.ntmps18
    go_wp2
    go_ret
    refine ⟨⟨(n.tmod ((hi : Int) + 1)).toNat, by omega, ?_⟩, rfl⟩
    refine D.ret_int ?_
    omega

def nameC (i : Nat) : ByteArray := (⟨#[67]⟩ ++ ⟨#[UInt8.ofNat (97 + i % 26)]⟩) ++ ⟨#[UInt8.ofNat (97 + i / 26)]⟩
def cN (i : Nat) : KD := plainK (nameC i) objectN
def KM (a : Nat) : List KD := ((List.range a).map cN).reverse ++ givenK.reverse
theorem km_ok : ∀ a : Fin 19, krefZ (KM a.val) (cN a.val) = 0 := by decide +kernel
theorem km_no : ∀ a : Fin 11, krefZ (KM 19) (cN (19 + a.val)) = 4 := by decide +kernel
theorem km_none : ∀ a : Fin 11, (kfind (KM 19) (cN (19 + a.val)).nm).isNone = true := by decide +kernel
theorem km_succ (a : Nat) : KM (a + 1) = cN a :: KM a := by simp [KM, List.range_succ]
theorem km_len (a : Nat) : (KM a).length = a + 13 := by simp [KM]; rfl
theorem name_size : ∀ a : Fin 30, (nameC a.val).size ≤ 1000 := by decide +kernel
end Go.Proofs.Ytlkhfpbniogllaa.K
