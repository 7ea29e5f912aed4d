/- Small things of layer 6: Ends, stands, end, target; slices.Sort and slices.Compact over at most two numbers: walked. -/
import Derived.Test.YtjbkhaafaplceaaFA
import Derived.Test.YtjbkhaafaplceaaRZ
import Derived.WalkMore
namespace Go.Proofs.Ytjbkhaafaplceaa
open Go.RowKit

set_option maxRecDepth 8000 in
set_option maxHeartbeats 1000000 in
theorem rends (op : Int) (w : World) : Calls Try.prog 25 #[.int .i64 op] w fun e w' => e = .returned (.bool (endsB op)) ∧ w' = w := by
  have HE : Hid (endsB op = (op == 167 || (op == 172 || (op == 176 || (op == 177 || op == 191))))) := by show _ = _; unfold endsB; rfl
  generalize endsB op = r at *
  go_enter Try.func25, Try.ntmps25
  go_wp2
  all_goals go_ret
  all_goals refine ⟨?_, rfl⟩
  all_goals rw [HE.out]; simp_all [Bool.or_assoc]
theorem stands_any (v : Value) (l : List IN) (p : Int) (w : World) (hv : IView w v l) :
    Calls Try.prog 44 #[v, .int .i64 p] w fun e w' => e = .returned (.bool (decide (0 ≤ findZ l p))) ∧ Below w.heap.size w w' := by
  have HF := hidIt (find_any v l p w hv)
  obtain ⟨ao, cap, rfl, -⟩ := hv
  go_enter Try.func44, Try.ntmps44
  go_wp2_with fail
  refine HF.out.mono ?_
  rintro e w' ⟨rfl, hb⟩
  go_wp2
  go_ret
  exact ⟨rfl, hb⟩
/-- Where the code ends. -/
def endZ (l : List IN) : Int := match l.getLast? with
  | some x => x.pl + (sz x.op : Nat)
  | none => 0
theorem last_get {l : List IN} {x : IN} (h : l[l.length - 1]? = some x) : l.getLast? = some x := by
  rw [List.getLast?_eq_getElem?]; exact h
set_option maxRecDepth 8000 in
set_option maxHeartbeats 1000000 in
theorem end_any (v : Value) (l : List IN) (w : World) (hv : IView w v l) (h0 : 0 < l.length) (hp : ∀ x ∈ l, -4611686018427387904 ≤ x.pl ∧ x.pl ≤ 4611686018427387904) :
    Calls Try.prog 45 #[v] w fun e w' => e = .returned (.int .i64 (endZ l)) ∧ Below w.heap.size w w' := by
  have HV := hidIt hv
  obtain ⟨ao, cap, rfl, hc, hm, _⟩ := hv
  unfold maxLen at hm
  obtain ⟨x, hx⟩ : ∃ x, l[l.length - 1]? = some x := ⟨l[l.length - 1], List.getElem?_eq_getElem (by omega)⟩
  obtain ⟨g, off, rfl, c0, c1, c2, c3⟩ := HV.out.row hx
  have hz : endZ l = x.pl + (sz x.op : Nat) := by unfold endZ; rw [last_get hx]
  have hpx := hp x (List.mem_of_getElem? hx)
  have hsz : (sz x.op : Nat) ≤ 3 := sz_le x.op
  rw [hz]
  have hA := below_alloc w (.cells #[.int .i64 x.pl, .int .i64 x.op, .int .i64 x.a, .int .i64 x.b] 23)
  have HA := hidIt hA
  have hW := box_at w x
  obtain ⟨d0, d1, d2, d3⟩ := hW
  have G := hidIt (fun W => size_any x.op W)
  clear hx hz hp hA HV
  generalize l.length = N at *
  obtain ⟨n1, rfl⟩ : ∃ n1, N = n1 + 1 := ⟨N - 1, by omega⟩
  rw [show n1 + 1 - 1 = n1 by omega] at *
  go_enter Try.func45, Try.ntmps45
  go_wp2_with fail
  go_quiet ((go_at_call 53; exact Calls.quiet_of_same (G.out _)))
  go_wp2
  go_ret
  exact ⟨rfl, below_drewN HA.out _⟩
/-- Where an instruction branches to; -1: nowhere. -/
def tgtZ (l : List IN) (x : IN) : Int := if kd x.op = 6 then findZ l x.a else -1
set_option maxRecDepth 8000 in
set_option maxHeartbeats 1000000 in
theorem target_any (v : Value) (l : List IN) (x : IN) (w : World) (hv : IView w v l) :
    Calls Try.prog 30 #[v, x.val] w fun e w' => e = .returned (.int .i64 (tgtZ l x)) ∧ Below w.heap.size w w' := by
  have hA := below_alloc w (.cells #[.int .i64 x.pl, .int .i64 x.op, .int .i64 x.a, .int .i64 x.b] 23)
  have HA := hidIt hA
  have HF := hidIt (find_any v l x.a _ (hv.below hA))
  have GB := hidIt (fun W => branch_any x.op W)
  obtain ⟨ao, cap, rfl, -⟩ := hv
  have HT : Hid (tgtZ l x = if kd x.op = 6 then findZ l x.a else -1) := by show _ = _; rfl
  generalize tgtZ l x = r at *
  unfold IN.val
  clear hA
  by_cases h6 : kd x.op = 6
  · rw [decide_eq_true h6] at GB
    rw [if_pos h6] at HT
    go_enter Try.func30, Try.ntmps30
    go_wp2_with (first | (go_at_call 43; refine (GB.out _).mono ?_; rintro e w' ⟨rfl, hww⟩; cases hww) | (go_at_call 12; refine HF.out.mono ?_; rintro e w' ⟨rfl, hb⟩))
    go_ret
    exact ⟨ret_int HT.out.symm, HA.out.trans (hb.mono HA.out.size)⟩
  · rw [decide_eq_false h6] at GB
    rw [if_neg h6] at HT
    go_enter Try.func30, Try.ntmps30
    go_wp2_with (first | (go_at_call 43; refine (GB.out _).mono ?_; rintro e w' ⟨rfl, hww⟩; cases hww))
    go_ret
    exact ⟨ret_int HT.out.symm, HA.out⟩
end Go.Proofs.Ytjbkhaafaplceaa
