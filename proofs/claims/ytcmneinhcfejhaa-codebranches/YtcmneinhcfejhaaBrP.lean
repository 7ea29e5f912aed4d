/- Nops and one branch, without Go; Within; one field set in a row of one's own: walked. -/
import Derived.Test.YtcmneinhcfejhaaKn
namespace Go.Proofs.Ytcmneinhcfejhaa
open Go.RowKit

/-- n nops, from the place a on. -/
def nopsF (a : Nat) : Nat → List IN
  | 0 => []
  | n + 1 => nopsF a n ++ [⟨((a + n : Nat) : Int), 0, 0, 0⟩]
theorem nopsF_len (a n : Nat) : (nopsF a n).length = n := by
  induction n with
  | zero => rfl
  | succ n ih => simp [nopsF, ih]
theorem enc_nops (n : Nat) (r : List IN) : encL (nopsF 0 n ++ r) [] = encL r (List.replicate n 0) := by
  induction n generalizing r with
  | zero => rfl
  | succ n ih =>
    rw [nopsF, List.append_assoc, ih, List.singleton_append, enc_step]
    have hk : kd (0 : Int) = 1 := by decide
    have hf : fitsB ⟨((0 + n : Nat) : Int), 0, 0, 0⟩ = true := by unfold fitsB; rw [hk]; rfl
    have ho : oneB ⟨((0 + n : Nat) : Int), 0, 0, 0⟩ = [0] := by unfold oneB; rw [hk]; rfl
    rw [if_neg (by rw [hk]; decide), if_neg (by simp), if_neg (by rw [hf]; decide), ho, ← List.replicate_succ']
theorem enc_br (n : Nat) (k a : Int) (hk : kd k = 6) (hn : n ≤ 200) : encL (nopsF 0 n ++ [⟨(n : Int), k, a, 0⟩]) [] = if -32768 ≤ a - n ∧ a - n ≤ 32767 then (List.replicate n 0 ++ oneB ⟨(n : Int), k, a, 0⟩, 0) else ([], 1) := by
  rw [enc_nops, enc_step]
  have hl : (oneB ⟨(n : Int), k, a, 0⟩).length = 3 := by rw [one_len _ (by simp only; omega)]; unfold sz; simp only; rw [hk]; rfl
  have hf : fitsB ⟨(n : Int), k, a, 0⟩ = decide (-32768 ≤ a - n ∧ a - n ≤ 32767) := by unfold fitsB; simp only; rw [hk]; simp
  rw [if_neg (by simp only; omega), if_neg (by simp)]
  by_cases h : -32768 ≤ a - n ∧ a - n ≤ 32767
  · rw [if_pos h, if_neg (by rw [hf, decide_eq_true h]; decide)]
    unfold encL
    rw [if_neg (by rw [List.length_append, hl]; simp; omega)]
  · rw [if_neg h, if_pos (by rw [hf, decide_eq_false h])]
theorem tmod_pos (n m : Int) (h : 0 < m) : -m < n.tmod m ∧ n.tmod m < m := by
  have h1 := Int.tmod_lt_of_pos n h
  have h2 := Int.lt_tmod_of_pos n h
  omega
set_option maxRecDepth 8000 in
set_option maxHeartbeats 1000000 in
theorem within_any (n : Int) (hi : Nat) (hm : hi ≤ 1099511627776) (w : World) :
    Calls Try.prog 32 #[.int .i64 n, .int .i64 0, .int .i64 (hi : Int)] w fun e w' => (∃ k : Nat, k ≤ hi ∧ e = .returned (.int .i64 (k : Int))) ∧ w' = w := by
  have hf := tmod_pos n ((hi : Int) + 1) (by omega)
  obtain ⟨h1, h2⟩ := hf
  have e2 : ¬ (hi : Int) + 1 = 0 := by omega
  by_cases hc : n.tmod ((hi : Int) + 1) < 0
  · go_enter Try.func32, Try.ntmps32
    go_wp2
    go_ret
    refine ⟨⟨(n.tmod ((hi : Int) + 1) + hi + 1).toNat, by omega, ?_⟩, rfl⟩
    refine ret_int ?_
    omega
  · go_enter Try.func32, Try.ntmps32
    go_wp2
    go_ret
    refine ⟨⟨(n.tmod ((hi : Int) + 1)).toNat, by omega, ?_⟩, rfl⟩
    refine ret_int ?_
    omega
/-- A of the last one is set. -/
theorem own_setA {w : World} {B g n cap : Nat} {l : List IN} {x : IN} (a : Int) (hn : l.length = n) (h : w.ownsRow B 33 4 (.slice (some ⟨g, 0, none⟩) (n + 1) cap) (n + 1) (icells (l ++ [x]))) :
    (w.setCell ⟨g, n * 4 + 2, none⟩ (.int .i64 a)).ownsRow B 33 4 (.slice (some ⟨g, 0, none⟩) (n + 1) cap) (n + 1) (icells (l ++ [⟨x.pl, x.op, a, x.b⟩])) := by
  obtain ⟨hl, h⟩ := h
  rcases h with ⟨h, _⟩ | ⟨g', cap', cur, e, hB, hg, hnc, hcm, hcs, ht⟩
  · cases h
  · cases e
    refine ⟨by rw [icells_append, List.length_append] at hl ⊢; exact hl, .inr ⟨g, cap, _, rfl, hB, set_row hg, hnc, hcm, by simpa using hcs, ?_⟩⟩
    rw [Array.toList_setIfInBounds, List.take_set, ht, icells_append, icells_append, List.set_append, if_neg (by rw [icells_len, hn]; omega), icells_len, hn, show n * 4 + 2 - n * 4 = 2 by omega]
    rfl
theorem own_cells {w : World} {B g n cap : Nat} {l : List IN} {x : IN} (hn : l.length = n) (h : w.ownsRow B 33 4 (.slice (some ⟨g, 0, none⟩) (n + 1) cap) (n + 1) (icells (l ++ [x]))) :
    IAt w g (n * 4) x ∧ ∀ j, w.frozen? ⟨g, j, none⟩ = false := by
  have hI := IView.of_own (l := l ++ [x]) (by rw [List.length_append, hn]; exact h)
  obtain ⟨g', off, e, hx⟩ := hI.row (j := n) (x := x) (by rw [List.getElem?_append_right (by omega), hn]; simp)
  rcases h.2 with ⟨h, _⟩ | ⟨g'', cap', cur, e2, hB, hg, _⟩
  · cases h
  · cases e2
    cases e
    rw [Nat.zero_add] at hx
    exact ⟨hx, fun j => frozen_row hg j⟩
end Go.Proofs.Ytcmneinhcfejhaa
