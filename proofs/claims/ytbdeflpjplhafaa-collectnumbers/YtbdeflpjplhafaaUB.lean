/- What is asked of the document's own heap: walked. -/
import Derived.Test.YtbdeflpjplhafaaUA
namespace Go.Proofs.Ytbdeflpjplhafaa.J
open Go.RowKit Go.MapKept Go.ChangeMaps
set_option linter.unusedVariables false

variable {n0 : Nat} {w : World} {R : RB} {most : Nat} {l : List Ob} {ss : List (List Bool)}
theorem objZ_idx {l : List Ob} {v : Int} {o : Ob} (h : objZ l v = some o) : ∃ i, l[i]? = some o ∧ v = (usedN (l.take i) : Int) + 1 := by
  unfold objZ at h
  split at h
  · obtain ⟨i, h1, h2⟩ := atN_nth l _ o h
    exact ⟨i, h1, by omega⟩
  · cases h
theorem usedN_lt {l : List Ob} {i j : Nat} {o o' : Ob} (hi : l[i]? = some o) (hj : l[j]? = some o') (h : i < j) : usedN (l.take i) < usedN (l.take j) := by
  have h1 : usedN (l.take (i + 1)) = usedN (l.take i) + (o.f.length + 3) := (usedN_take l i o hi).1
  have h2 : usedN (l.take (i + 1)) ≤ usedN (l.take j) := by
    have : l.take (i + 1) = (l.take j).take (i + 1) := by rw [List.take_take, Nat.min_eq_left (by omega)]
    rw [this]
    have hl := (List.getElem?_eq_some_iff.1 hj).1
    have hi' : (l.take j)[i]? = some o := by rw [List.getElem?_take, if_pos h]; exact hi
    exact (usedN_take (l.take j) i o hi').2
  omega
set_option maxRecDepth 8000 in
set_option maxHeartbeats 2000000 in
theorem ufind_none (h : RV n0 w R most l ss) (v : Int) (hv : objZ l v = none) : Calls Try.prog 47 #[R.ptr, .int .i64 v] w fun e w' => e = .returned (.pointer none) ∧ w' = w := by
  have c1 : w.cell? ⟨R.rb, 1, none⟩ = some R.lv := h.box.cell 1
  obtain ⟨ao, cap, e⟩ := own_slice h.lo_
  rw [e] at c1
  have hcap := (own_cap (by have := h.lo_; rwa [e] at this))
  obtain ⟨hcap1, hcap2⟩ := hcap
  unfold maxLen at hcap2
  have HC : Hid (∀ i o, l[i]? = some o → ∃ g, ao = some ⟨g, 0, none⟩ ∧ w.cell? ⟨g, i * 4, none⟩ = some (.int .i64 ((usedN (l.take i) : Int) + 1)) ∧ ((usedN (l.take i) : Int) + 1 == v) = false) := hidIt (fun i o hi => by
    obtain ⟨g, cap', u, e', -, hc, -⟩ := h.obj hi
    rw [e] at e'
    cases e'
    refine ⟨g, rfl, hc, ?_⟩
    simp only [beq_eq_false_iff_ne, ne_eq]
    intro e2
    rw [← e2, objZ_nth hi] at hv
    cases hv)
  unfold RB.ptr
  clear h hv e
  go_enter Try.func47, Try.ntmps47
  go_wp2
  go_loopw [5] (fun iv wr => ∃ k : Nat, iv = .int .i64 (k : Int) ∧ k ≤ l.length ∧ wr = w) (fun iv _ => l.length - (intOf iv).toNat)
  case atStart => exact ⟨0, rfl, Nat.zero_le _, rfl⟩
  case round =>
    obtain ⟨k, rfl, hk, rfl⟩ := hrel
    by_cases hlt : k < l.length
    · have hlt' : (k : Int) < (l.length : Int) := by omega
      obtain ⟨o, ho⟩ : ∃ o, l[k]? = some o := ⟨l[k], List.getElem?_eq_getElem hlt⟩
      obtain ⟨g, rfl, hc, hne⟩ := HC.out k o ho
      clear ho
      generalize (usedN (l.take k) : Int) + 1 = a at *
      go_wp2
      exact ⟨⟨k + 1, by go_num, by omega, by trivial⟩, by simp [intOf]; omega⟩
    · have hlt' : ¬ (k : Int) < (l.length : Int) := by omega
      go_wp2
      go_ret
      exact ⟨rfl, rfl⟩
set_option maxRecDepth 8000 in
set_option maxHeartbeats 2000000 in
theorem ufind_some (h : RV n0 w R most l ss) {i : Nat} {o : Ob} (hi : l[i]? = some o) {g cap : Nat} (e : R.lv = .slice (some ⟨g, 0, none⟩) l.length cap) : Calls Try.prog 47 #[R.ptr, .int .i64 ((usedN (l.take i) : Int) + 1)] w fun e w' => e = .returned (.pointer (some ⟨g, i * 4, none⟩)) ∧ w' = w := by
  have c1 : w.cell? ⟨R.rb, 1, none⟩ = some R.lv := h.box.cell 1
  rw [e] at c1
  have hcap := (own_cap (by have := h.lo_; rwa [e] at this))
  obtain ⟨hcap1, hcap2⟩ := hcap
  unfold maxLen at hcap2
  have hil := (List.getElem?_eq_some_iff.1 hi).1
  have HC : Hid (∀ j o', l[j]? = some o' → w.cell? ⟨g, j * 4, none⟩ = some (.int .i64 ((usedN (l.take j) : Int) + 1)) ∧ (j < i → ((usedN (l.take j) : Int) + 1 == (usedN (l.take i) : Int) + 1) = false)) := hidIt (fun j o' hj => by
    obtain ⟨g', cap', u, e', -, hc, -⟩ := h.obj hj
    rw [e] at e'
    cases e'
    refine ⟨hc, fun hlt => ?_⟩
    have := usedN_lt hj hi hlt
    simp only [beq_eq_false_iff_ne, ne_eq]
    omega)
  unfold RB.ptr
  have HI := hidIt hi
  clear h e hi
  generalize hv : (usedN (l.take i) : Int) + 1 = v at *
  have HV := hidIt hv
  clear hv
  go_enter Try.func47, Try.ntmps47
  go_wp2
  go_loopw [5] (fun iv wr => ∃ k : Nat, iv = .int .i64 (k : Int) ∧ k ≤ i ∧ wr = w) (fun iv _ => l.length - (intOf iv).toNat)
  case atStart => exact ⟨0, rfl, Nat.zero_le _, rfl⟩
  case round =>
    obtain ⟨k, rfl, hk, rfl⟩ := hrel
    have hlt : k < l.length := by omega
    have hlt' : (k : Int) < (l.length : Int) := by omega
    obtain ⟨o', ho⟩ : ∃ o, l[k]? = some o := ⟨l[k], List.getElem?_eq_getElem hlt⟩
    obtain ⟨hc, hne⟩ := HC.out k o' ho
    by_cases hki : k < i
    · have hne2 := hne hki
      clear ho hne
      generalize (usedN (l.take k) : Int) + 1 = a at *
      go_wp2
      exact ⟨⟨k + 1, by go_num, by omega, by trivial⟩, by simp [intOf]; omega⟩
    · obtain rfl : k = i := by omega
      rw [HV.out] at hc
      clear ho hne
      go_wp2
      go_ret
      exact ⟨rfl, by trivial⟩
end Go.Proofs.Ytbdeflpjplhafaa.J

