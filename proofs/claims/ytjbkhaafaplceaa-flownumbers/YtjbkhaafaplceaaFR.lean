/- inst and same of the statements' package: walked. -/
import Derived.Test.YtjbkhaafaplceaaFQ
import Derived.Test.YtjbkhaafaplceaaFG
namespace Go.Proofs.Ytjbkhaafaplceaa
open Go.RowKit

set_option maxRecDepth 8000 in
set_option maxHeartbeats 1000000 in
theorem inst_any (p op a : Int) (w : World) : Calls Try.prog 8 #[.int .i64 p, .int .i64 op, .int .i64 a] w fun e w' => e = .returned (.agg #[.int .i64 p, .int .i64 op, .int .i64 a, .int .i64 0]) ∧ Below w.heap.size w w' := by
  go_enter Try.func8, Try.ntmps8
  go_wp2
  exact bodyPost_ret (results_cell_row rfl _ _ w.heap.size 23 _ (0, 0) _ rfl (heap_alloc_new w _) Try.underlying23 rfl (by kernel_rfl)) rfl ⟨rfl, below_alloc _ _⟩
/-- Blocks, of either package, as they are read. -/
def PV (w : World) (v : Value) (bl : List (Nat × Nat)) (nx : Nat × Nat → List Int) : Prop :=
  ∃ ao cap, v = .slice ao bl.length cap ∧ bl.length ≤ 1000000000000 ∧ ∀ (j : Nat) (x : Nat × Nat), bl[j]? = some x → ∃ g off u, ao = some ⟨g, off, none⟩ ∧ w.cell? ⟨g, off + j * 3, none⟩ = some (.int .i64 (x.1 : Int)) ∧ w.cell? ⟨g, off + j * 3 + 1, none⟩ = some (.int .i64 (x.2 : Int)) ∧ w.cell? ⟨g, off + j * 3 + 2, none⟩ = some u ∧ NView w u (nx x)
theorem NView.drewN {w : World} {v : Value} {l : List Int} (h : NView w v l) (q : Nat) : NView (w.drewN q) v l := h
set_option maxRecDepth 8000 in
set_option maxHeartbeats 4000000 in
theorem same_any (v u : Value) (bl : List (Nat × Nat)) (nx : Nat × Nat → List Int) (w : World) (hv : PV w v bl nx) (hu : PV w u bl nx) :
    Calls Try.prog 18 #[v, u] w fun e w' => e = .returned (.bool true) ∧ ∃ q, w' = w.drewN q := by
  obtain ⟨ao, cap, rfl, hb, hv⟩ := hv
  obtain ⟨ao2, cap2, rfl, -, hu⟩ := hu
  have HV := hidIt hv
  have HU := hidIt hu
  clear hv hu
  go_enter Try.func18, Try.ntmps18
  go_wp2
  go_loopw [5] (fun i wr => ∃ k q : Nat, i = .int .i64 (k : Int) ∧ k ≤ bl.length ∧ wr = w.drewN q) (fun i _ => bl.length - (intOf i).toNat)
  case atStart => exact ⟨0, 0, rfl, Nat.zero_le _, rfl⟩
  case round =>
    obtain ⟨k, q, rfl, hk, rfl⟩ := hrel
    by_cases hlt : k < bl.length
    · have hlt' : (k : Int) < (bl.length : Int) := by omega
      obtain ⟨x, hx⟩ : ∃ x, bl[k]? = some x := ⟨bl[k], List.getElem?_eq_getElem hlt⟩
      obtain ⟨g, off, va, rfl, c0, c1, c2, na⟩ := HV.out k x hx
      obtain ⟨g', off', vb, rfl, d0, d1, d2, nb⟩ := HU.out k x hx
      obtain ⟨W, hW⟩ : ∃ W, W = w.drewN q := ⟨_, rfl⟩
      have c0 : W.cell? ⟨g, off + k * 3, none⟩ = some (.int .i64 (x.1 : Int)) := by rw [hW]; exact c0
      have c1 : W.cell? ⟨g, off + k * 3 + 1, none⟩ = some (.int .i64 (x.2 : Int)) := by rw [hW]; exact c1
      have c2 : W.cell? ⟨g, off + k * 3 + 2, none⟩ = some va := by rw [hW]; exact c2
      have d0 : W.cell? ⟨g', off' + k * 3, none⟩ = some (.int .i64 (x.1 : Int)) := by rw [hW]; exact d0
      have d1 : W.cell? ⟨g', off' + k * 3 + 1, none⟩ = some (.int .i64 (x.2 : Int)) := by rw [hW]; exact d1
      have d2 : W.cell? ⟨g', off' + k * 3 + 2, none⟩ = some vb := by rw [hW]; exact d2
      have na : NView W va (nx x) := by rw [hW]; exact na
      have nb : NView W vb (nx x) := by rw [hW]; exact nb
      rw [← hW]
      have HW := hidIt hW
      have GS := hidIt (fun n => nsame_any va vb (nx x) (W.drewN n) (na.drewN n) (nb.drewN n))
      obtain ⟨aoa, capa, rfl, -⟩ := na
      obtain ⟨aob, capb, rfl, -⟩ := nb
      clear hx hW
      go_wp2
      go_quiet ((go_at_call 10; exact Calls.quiet_of (GS.out _)))
      go_wp2
      refine ⟨⟨k + 1, q + nq, by go_num, by omega, ?_⟩, by simp [intOf]; omega⟩
      rw [HW.out, World.drewN_drewN]
    · have hlt' : ¬ (k : Int) < (bl.length : Int) := by omega
      go_wp2
      go_ret
      exact ⟨rfl, _, rfl⟩
end Go.Proofs.Ytjbkhaafaplceaa
