/- Size, Branch and Ends of package code: walked. -/
import Derived.Test.YtjbkhaafaplceaaG
namespace Go.Proofs.Ytjbkhaafaplceaa
open Go.RowKit
theorem kd_none (op : Int) (h : ∀ x ∈ [17, 132, 153, 154, 155, 156, 157, 158, 159, 160, 161, 162, 163, 164, 165, 166, 167, 198, 199, 178, 179, 180, 181, 182, 184, 187, 189, 192, 193, 16, 18, 21, 25, 54, 58, 188, 0, 1, 2, 3, 4, 5, 6, 7, 8, 46, 50, 79, 83, 87, 89, 95, 96, 100, 104, 108, 112, 116, 120, 122, 124, 126, 128, 130, 172, 176, 177, 190, 191, 194, 195], (op == (x : Int)) = false) : kd op = 0 := by
  simp only [List.forall_mem_cons, beq_eq_false_iff_ne, ne_eq] at h
  unfold kd
  repeat (rw [if_neg (by omega)])
set_option maxRecDepth 8000 in
set_option maxHeartbeats 4000000 in
theorem size_any (op : Int) (w : World) : Calls Try.prog 53 #[.int .i64 op] w fun e w' => e = .returned (.int .i64 (sz op : Nat)) ∧ w' = w := by
  go_enter Try.func53, Try.ntmps53
  go_wp2
  all_goals go_ret
  all_goals refine ⟨ret_int ?_, rfl⟩
  all_goals first
    | (have h := LawfulBEq.eq_of_beq ‹(op == _) = true›; subst h; rfl)
    | (rw [(sz_zero op).2 (kd_none op (by simp_all) )]; rfl)
set_option maxRecDepth 8000 in
set_option maxHeartbeats 1000000 in
theorem branch_any (op : Int) (w : World) : Calls Try.prog 43 #[.int .i64 op] w fun e w' => e = .returned (.bool (decide (kd op = 6))) ∧ w' = w := by
  have hk := kd_six op
  by_cases h1 : 153 ≤ op
  · by_cases h2 : op ≤ 167
    · rw [decide_eq_true (hk.2 (by omega))]
      clear hk
      go_enter Try.func43, Try.ntmps43
      go_wp2
      go_ret
      exact ⟨rfl, rfl⟩
    · by_cases h3 : op = 198
      · subst h3
        rw [decide_eq_true (hk.2 (by omega))]
        clear hk
        go_enter Try.func43, Try.ntmps43
        go_wp2
        go_ret
        exact ⟨rfl, rfl⟩
      · by_cases h4 : op = 199
        · subst h4
          rw [decide_eq_true (hk.2 (by omega))]
          clear hk
          go_enter Try.func43, Try.ntmps43
          go_wp2
          go_ret
          exact ⟨rfl, rfl⟩
        · rw [decide_eq_false (fun h => by have := hk.1 h; omega)]
          clear hk
          have h3' : (op == 198) = false := by simpa using h3
          have h4' : (op == 199) = false := by simpa using h4
          go_enter Try.func43, Try.ntmps43
          go_wp2
          go_ret
          exact ⟨rfl, rfl⟩
  · rw [decide_eq_false (fun h => by have := hk.1 h; omega)]
    clear hk
    have h3' : (op == 198) = false := by simp; omega
    have h4' : (op == 199) = false := by simp; omega
    go_enter Try.func43, Try.ntmps43
    go_wp2
    go_ret
    exact ⟨rfl, rfl⟩
def endsB (op : Int) : Bool := op == 167 || (op == 172 || (op == 176 || (op == 177 || op == 191)))
set_option maxRecDepth 8000 in
set_option maxHeartbeats 1000000 in
theorem ends_any (op : Int) (w : World) : Calls Try.prog 29 #[.int .i64 op] w fun e w' => e = .returned (.bool (endsB op)) ∧ w' = w := by
  have HE : Hid (endsB op = (op == 167 || (op == 172 || (op == 176 || (op == 177 || op == 191))))) := by show _ = _; unfold endsB; rfl
  generalize endsB op = r at *
  go_enter Try.func29, Try.ntmps29
  go_wp2
  all_goals go_ret
  all_goals refine ⟨?_, rfl⟩
  all_goals rw [HE.out]; simp_all
end Go.Proofs.Ytjbkhaafaplceaa
