/- The document's own Size: walked, where Name answers its name. -/
import Derived.Test.YtjbkhaafaplceaaRB
namespace Go.Proofs.Ytjbkhaafaplceaa
open Go.RowKit
theorem name_kd : (List.range 256).all (fun n => (kd (n : Int) == 0) == ((nameO (n : Int)).size == 0)) = true := by first | decide +kernel | kernel_rfl
theorem names_kd : names5.all (fun p => kd p.1 != 0) = true := by first | decide +kernel | kernel_rfl
theorem name_no {op : Int} (h : kd op = 0) : nameO op = ⟨#[]⟩ := find_no fun q hq e => by
  have := List.all_eq_true.1 names_kd q hq
  rw [e, h] at this
  exact absurd this (by decide)
theorem name_yes {op : Int} (h : kd op ≠ 0) : ((nameO op).toList == []) = false := by
  obtain ⟨h0, h1⟩ := kd_byte h
  have := List.all_eq_true.1 name_kd op.toNat (List.mem_range.2 (by omega))
  rw [Int.toNat_of_nonneg h0] at this
  have hk : (kd op == 0) = false := by simpa using h
  rw [hk] at this
  have hs : (nameO op).size ≠ 0 := by simpa using this
  rw [Lib.toList_data]
  cases hd : (nameO op).data.toList with
  | nil => exact absurd (by rw [Lib.size_eq, hd]; rfl) hs
  | cons a l => rfl
/-- Name's contract. -/
def NameC : Prop := ∀ (op : Int) (W : World), Calls Try.prog 65 #[.int .i64 op] W fun e w' => e = .returned (.string (nameO op)) ∧ Below W.heap.size W w'
theorem sz_two {op : Int} (h : op = 16 ∨ op = 18 ∨ op = 21 ∨ op = 25 ∨ op = 54 ∨ op = 58 ∨ op = 188) : sz op = 2 := by
  rcases h with rfl | rfl | rfl | rfl | rfl | rfl | rfl <;> decide
theorem sz_thr {op : Int} (h : op = 17 ∨ op = 132 ∨ op = 178 ∨ op = 179 ∨ op = 180 ∨ op = 181 ∨ op = 182 ∨ op = 184 ∨ op = 187 ∨ op = 189 ∨ op = 192 ∨ op = 193) : sz op = 3 := by
  rcases h with rfl | rfl | rfl | rfl | rfl | rfl | rfl | rfl | rfl | rfl | rfl | rfl <;> decide
theorem sz_six {op : Int} (h : kd op = 6) : sz op = 3 := by unfold sz; rw [h]; rfl
theorem kd_rest {op : Int} (h1 : ¬ (op = 16 ∨ op = 18 ∨ op = 21 ∨ op = 25 ∨ op = 54 ∨ op = 58 ∨ op = 188)) (h2 : ¬ (op = 17 ∨ op = 132 ∨ op = 178 ∨ op = 179 ∨ op = 180 ∨ op = 181 ∨ op = 182 ∨ op = 184 ∨ op = 187 ∨ op = 189 ∨ op = 192 ∨ op = 193)) (h3 : kd op ≠ 6) : kd op = 0 ∨ kd op = 1 := by
  unfold kd at h3 ⊢
  repeat' split
  all_goals first | omega | (simp_all; omega) | simp_all
set_option maxRecDepth 8000 in
set_option maxHeartbeats 4000000 in
theorem rsize (hN : NameC) (op : Int) (w : World) : Calls Try.prog 48 #[.int .i64 op] w fun e w' => e = .returned (.int .i64 (sz op : Nat)) ∧ Below w.heap.size w w' := by
  have gN := hidIt (hN op w)
  have gB := hidIt (rbranch op w)
  have B0 := hidIt (Below.refl w.heap.size w)
  by_cases h1 : op = 16 ∨ op = 18 ∨ op = 21 ∨ op = 25 ∨ op = 54 ∨ op = 58 ∨ op = 188
  · rw [sz_two h1]
    clear gN gB hN
    rcases h1 with rfl | rfl | rfl | rfl | rfl | rfl | rfl
    all_goals
      go_enter Try.func48, Try.ntmps48
      go_wp2
      go_ret
      exact ⟨rfl, B0.out⟩
  · by_cases h2 : op = 17 ∨ op = 132 ∨ op = 178 ∨ op = 179 ∨ op = 180 ∨ op = 181 ∨ op = 182 ∨ op = 184 ∨ op = 187 ∨ op = 189 ∨ op = 192 ∨ op = 193
    · rw [sz_thr h2]
      clear gN gB hN h1
      rcases h2 with rfl | rfl | rfl | rfl | rfl | rfl | rfl | rfl | rfl | rfl | rfl | rfl
      all_goals
        go_enter Try.func48, Try.ntmps48
        go_wp2
        go_ret
        exact ⟨rfl, B0.out⟩
    · have n16 : (op == 16) = false := by simp; omega
      have n18 : (op == 18) = false := by simp; omega
      have n21 : (op == 21) = false := by simp; omega
      have n25 : (op == 25) = false := by simp; omega
      have n54 : (op == 54) = false := by simp; omega
      have n58 : (op == 58) = false := by simp; omega
      have n188 : (op == 188) = false := by simp; omega
      have n17 : (op == 17) = false := by simp; omega
      have n132 : (op == 132) = false := by simp; omega
      have n178 : (op == 178) = false := by simp; omega
      have n179 : (op == 179) = false := by simp; omega
      have n180 : (op == 180) = false := by simp; omega
      have n181 : (op == 181) = false := by simp; omega
      have n182 : (op == 182) = false := by simp; omega
      have n184 : (op == 184) = false := by simp; omega
      have n187 : (op == 187) = false := by simp; omega
      have n189 : (op == 189) = false := by simp; omega
      have n192 : (op == 192) = false := by simp; omega
      have n193 : (op == 193) = false := by simp; omega
      by_cases h3 : kd op = 6
      · rw [sz_six h3]
        rw [decide_eq_true h3] at gB
        clear gN hN h1 h2 h3
        go_enter Try.func48, Try.ntmps48
        go_wp2_with fail
        refine gB.out.mono ?_
        rintro e w' ⟨rfl, hww⟩; cases hww
        go_wp2
        go_ret
        exact ⟨rfl, B0.out⟩
      · rw [decide_eq_false h3] at gB
        rcases kd_rest h1 h2 h3 with h4 | h4
        · rw [show sz op = 0 from (sz_zero op).2 h4]
          rw [name_no h4] at gN
          clear hN h1 h2 h3 h4
          go_enter Try.func48, Try.ntmps48
          go_wp2_with fail
          refine gB.out.mono ?_
          rintro e w' ⟨rfl, hww⟩; cases hww
          go_wp2_with fail
          refine gN.out.mono ?_
          rintro e w2 ⟨rfl, b2⟩
          have B2 := hidIt b2
          clear b2
          go_wp2
          go_ret
          exact ⟨rfl, B2.out⟩
        · rw [show sz op = 1 by unfold sz; rw [h4]; rfl]
          have hy := name_yes (op := op) (by omega)
          generalize nameO op = s at *
          clear hN h1 h2 h3 h4
          go_enter Try.func48, Try.ntmps48
          go_wp2_with fail
          refine gB.out.mono ?_
          rintro e w' ⟨rfl, hww⟩; cases hww
          go_wp2_with fail
          refine gN.out.mono ?_
          rintro e w2 ⟨rfl, b2⟩
          have B2 := hidIt b2
          clear b2
          go_wp2
          go_ret
          exact ⟨rfl, B2.out⟩
end Go.Proofs.Ytjbkhaafaplceaa
