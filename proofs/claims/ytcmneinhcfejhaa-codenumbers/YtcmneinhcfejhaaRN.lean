/- The document's own Name: walked. -/
import Derived.Test.YtcmneinhcfejhaaRB
namespace Go.Proofs.Ytcmneinhcfejhaa
open Go.RowKit
theorem wp_table {P : Program} {w w' : World} {o : Oper} {a : Act} {K : Act → World → Prop} {Q : Exit → Act → World → Prop} (t n : Nat) (parts : Array (Nat × Operand)) (hop : o.op = .buildSlice t n parts)
    (ps : Array (Nat × Value)) (hp : (parts.map fun (i, x) => (i, a.eval x)) = ps) {v : Value} (hrun : (Instr.buildSlice t n ps).run P w = .ok v w') (h : K (a.put o.dst v) w') : Oper.wp P o a w K Q := by
  unfold Oper.wp
  simp only [execOp, hop, hp, Sem.run_bind, hrun, Result.andThen_ok, Sem.run_pure]
  exact h
set_option maxRecDepth 20000 in
set_option maxHeartbeats 8000000 in
theorem rname5 (op : Int) (w : World) : Calls Try.prog 12 #[.int .i64 op] w fun e w' => e = .returned (.string (nameO op)) ∧ Below w.heap.size w w' := by
  have HT : Hid ((w.alloc tab5).heap[w.heap.size]? = some tab5) := heap_alloc_new _ _
  have HB : Hid (Below w.heap.size w (w.alloc tab5)) := r5_alloc _ _
  have HL := hidIt names_len
  have HF := hidIt (fun (j : Nat) (p : Int × ByteArray) hp h hn => find_at (op := op) (j := j) (p := p) hp h hn)
  have HZ := hidIt (fun hn => find_no (op := op) hn)
  have HC := hidIt (fun (j : Nat) (p : Int × ByteArray) hp => tab_cell HT.out (j := j) (p := p) hp)
  generalize nameO op = res at *
  have HR := hidIt (run_tab5 w)
  generalize w.alloc tab5 = wt at *
  go_enter Try.func12, Try.ntmps12
  go_wp2
  refine wp_table 63 71 _ rfl parts5 (by first | (rw [List.map_toArray]; rfl) | kernel_rfl) HR.out ?_
  clear HR
  go_wp2
  go_loopw [4] (fun i wr => ∃ j : Nat, j ≤ 71 ∧ i = .int .i64 (j : Int) ∧ wr = wt ∧ Hid (∀ q ∈ names5.take j, q.1 ≠ op)) (fun i _ => 71 - (intOf i).toNat)
  case atStart => exact ⟨0, by omega, rfl, rfl, fun q hq => by simp at hq⟩
  case round =>
    obtain ⟨j, hj, rfl, rfl, HQ⟩ := hrel
    by_cases hlt : j < 71
    · have hlt' : (j : Int) < 71 := by omega
      obtain ⟨p, hp⟩ : ∃ p, names5[j]? = some p := ⟨_, List.getElem?_eq_getElem (by rw [HL.out]; exact hlt)⟩
      obtain ⟨c0, c1⟩ := HC.out j p hp
      by_cases he : p.1 = op
      · have HE := hidIt (HF.out j p hp he HQ.out)
        have he' : (p.1 == op) = true := by simpa using he
        clear HF HZ HC HQ hp he
        go_wp2
        go_ret
        rw [HE.out]
        exact ⟨rfl, HB.out⟩
      · have he' : (p.1 == op) = false := by simpa using he
        have HQ2 : Hid (∀ q ∈ names5.take (j + 1), q.1 ≠ op) := by
          intro q hq
          rw [List.take_add_one, hp] at hq
          rcases List.mem_append.1 hq with h | h
          · exact HQ.out q h
          · simp at h; subst h; exact he
        clear HF HZ HC HQ hp he
        go_wp2
        exact ⟨⟨j + 1, by omega, by go_num, (by first | rfl | trivial), HQ2.out⟩, by simp [intOf]; omega⟩
    · have hlt' : ¬ (j : Int) < 71 := by omega
      have hE := HZ.out (fun q hq => HQ.out q (by rw [List.take_of_length_le (by rw [HL.out]; omega)]; exact hq))
      have HE := hidIt hE
      clear HF HZ HC HQ hE
      go_wp2
      go_ret
      rw [HE.out]
      exact ⟨rfl, HB.out⟩
end Go.Proofs.Ytcmneinhcfejhaa
