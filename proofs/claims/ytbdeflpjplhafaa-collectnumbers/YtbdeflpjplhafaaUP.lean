/- What is reached, without Go. -/
import Derived.Test.YtbdeflpjplhafaaJZ
namespace Go.Proofs.Ytbdeflpjplhafaa.J
set_option linter.unusedVariables false

/-- What is reached of roots. -/
inductive Rch (ss : List (List Bool)) (l : List Ob) (roots : List Int) : Int → Prop
  | root {x : Int} : x ∈ roots → x ≠ 0 → Rch ss l roots x
  | step {x y : Int} {o : Ob} {n : Nat} : Rch ss l roots x → objZ l x = some o → o.f[n]? = some y → rb ss o.sh n = true → y ≠ 0 → Rch ss l roots y
/-- How far a marking went: what was met, and what waits. -/
structure Mrk (ss : List (List Bool)) (l : List Ob) (roots out left : List Int) : Prop where
  nd : out.Nodup
  ob : ∀ x ∈ out, (objZ l x).isSome = true
  lo : ∀ x ∈ left, x = 0 ∨ (objZ l x).isSome = true
  ro : ∀ x ∈ out, Rch ss l roots x
  rl : ∀ x ∈ left, x = 0 ∨ Rch ss l roots x
  ri : ∀ x ∈ roots, x = 0 ∨ x ∈ out ∨ x ∈ left
  cl : ∀ x ∈ out, ∀ o, objZ l x = some o → ∀ (n : Nat) y, o.f[n]? = some y → rb ss o.sh n = true → y = 0 ∨ y ∈ out ∨ y ∈ left
variable {ss : List (List Bool)} {l : List Ob} {roots out left : List Int}
theorem Mrk.start (h : ∀ x ∈ roots, x = 0 ∨ (objZ l x).isSome = true) : Mrk ss l roots [] roots :=
  ⟨List.nodup_nil, fun x h => by simp at h, h, fun x h => by simp at h, fun x hx => by
    by_cases e : x = 0
    · exact .inl e
    · exact .inr (.root hx e), fun x hx => .inr (.inr hx), fun x h => by simp at h⟩
theorem Mrk.skip {n : Int} (h : Mrk ss l roots out (left ++ [n])) (hn : n = 0 ∨ n ∈ out) : Mrk ss l roots out left := by
  have key : ∀ y, (y = 0 ∨ y ∈ out ∨ y ∈ left ++ [n]) → y = 0 ∨ y ∈ out ∨ y ∈ left := fun y hy => by
    rcases hy with e | e | e
    · exact .inl e
    · exact .inr (.inl e)
    · rcases List.mem_append.1 e with e | e
      · exact .inr (.inr e)
      · obtain rfl : y = n := by simpa using e
        rcases hn with e | e
        · exact .inl e
        · exact .inr (.inl e)
  exact ⟨h.nd, h.ob, fun x hx => h.lo x (List.mem_append_left _ hx), h.ro, fun x hx => h.rl x (List.mem_append_left _ hx), fun x hx => key x (h.ri x hx), fun x hx o ho n y hy hr => key y (h.cl x hx o ho n y hy hr)⟩
/-- The references of an object, up to a field. -/
def refsN (ss : List (List Bool)) (o : Ob) (k : Nat) : List Int := (o.f.take k).zipIdx.filterMap fun p => if rb ss o.sh p.2 = true then some p.1 else none
theorem refsN_zero (ss : List (List Bool)) (o : Ob) : refsN ss o 0 = [] := by simp [refsN]
theorem refsN_step {o : Ob} {k : Nat} {x : Int} (hx : o.f[k]? = some x) : refsN ss o (k + 1) = refsN ss o k ++ (if rb ss o.sh k = true then [x] else []) := by
  unfold refsN
  rw [take_snoc hx, List.zipIdx_append, List.filterMap_append]
  congr 1
  have hl := (List.getElem?_eq_some_iff.1 hx).1
  simp only [List.length_take, Nat.min_eq_left (Nat.le_of_lt hl), Nat.zero_add, List.zipIdx_cons, List.zipIdx_nil]
  by_cases e : rb ss o.sh k = true
  · simp [e]
  · simp [e]
theorem refsN_mem {o : Ob} : ∀ {k : Nat} {y : Int}, y ∈ refsN ss o k → ∃ n, n < k ∧ o.f[n]? = some y ∧ rb ss o.sh n = true
  | 0, y, h => by rw [refsN_zero] at h; simp at h
  | k + 1, y, h => by
    cases hx : o.f[k]? with
    | none =>
      have : refsN ss o (k + 1) = refsN ss o k := by
        unfold refsN
        have hl : o.f.length ≤ k := by simpa using hx
        rw [List.take_of_length_le hl, List.take_of_length_le (by omega)]
      rw [this] at h
      obtain ⟨n, a, b⟩ := refsN_mem h
      exact ⟨n, by omega, b⟩
    | some x =>
      rw [refsN_step hx] at h
      rcases List.mem_append.1 h with h | h
      · obtain ⟨n, a, b⟩ := refsN_mem h
        exact ⟨n, by omega, b⟩
      · by_cases hr : rb ss o.sh k = true
        · rw [if_pos hr] at h
          obtain rfl : y = x := by simpa using h
          exact ⟨k, by omega, hx, hr⟩
        · rw [if_neg hr] at h; simp at h
theorem refsN_has {o : Ob} {n : Nat} {y : Int} (hy : o.f[n]? = some y) (hr : rb ss o.sh n = true) : ∀ {k : Nat}, n < k → y ∈ refsN ss o k
  | 0, h => absurd h (by omega)
  | k + 1, h => by
    cases hx : o.f[k]? with
    | none =>
      have hl : o.f.length ≤ k := by simpa using hx
      have : refsN ss o (k + 1) = refsN ss o k := by
        unfold refsN
        rw [List.take_of_length_le hl, List.take_of_length_le (by omega)]
      rw [this]
      exact refsN_has hy hr (by have := (List.getElem?_eq_some_iff.1 hy).1; omega)
    | some x =>
      rw [refsN_step hx]
      by_cases e : n = k
      · subst e
        rw [hy] at hx
        cases hx
        rw [if_pos hr]
        simp
      · exact List.mem_append_left _ (refsN_has hy hr (by omega))
theorem refsN_len (o : Ob) : ∀ k : Nat, (refsN ss o k).length ≤ k
  | 0 => by rw [refsN_zero]; simp
  | k + 1 => by
    cases hx : o.f[k]? with
    | none =>
      have : refsN ss o (k + 1) = refsN ss o k := by
        unfold refsN
        have hl : o.f.length ≤ k := by simpa using hx
        rw [List.take_of_length_le hl, List.take_of_length_le (by omega)]
      rw [this]
      have := refsN_len o k
      omega
    | some x =>
      rw [refsN_step hx, List.length_append]
      have := refsN_len o k
      split <;> simp <;> omega
theorem Mrk.add {n : Int} {o : Ob} (hr : RefsOk ss l) (h : Mrk ss l roots out (left ++ [n])) (h0 : n ≠ 0) (hn : n ∉ out) (ho : objZ l n = some o) : Mrk ss l roots (out ++ [n]) (left ++ refsN ss o o.f.length) := by
  have hrn : Rch ss l roots n := by
    rcases h.rl n (by simp) with e | e
    · exact absurd e h0
    · exact e
  have key : ∀ y, (y = 0 ∨ y ∈ out ∨ y ∈ left ++ [n]) → y = 0 ∨ y ∈ out ++ [n] ∨ y ∈ left ++ refsN ss o o.f.length := fun y hy => by
    rcases hy with e | e | e
    · exact .inl e
    · exact .inr (.inl (List.mem_append_left _ e))
    · rcases List.mem_append.1 e with e | e
      · exact .inr (.inr (List.mem_append_left _ e))
      · exact .inr (.inl (List.mem_append_right _ e))
  refine ⟨?_, fun x hx => ?_, fun x hx => ?_, fun x hx => ?_, fun x hx => ?_, fun x hx => key x (h.ri x hx), fun x hx o' ho' m y hy hrm => ?_⟩
  · rw [List.nodup_append]
    exact ⟨h.nd, by simp, fun a ha b hb => by
      obtain rfl : b = n := by simpa using hb
      intro e; subst e; exact hn ha⟩
  · rcases List.mem_append.1 hx with e | e
    · exact h.ob x e
    · obtain rfl : x = n := by simpa using e
      rw [ho]; rfl
  · rcases List.mem_append.1 hx with e | e
    · exact h.lo x (List.mem_append_left _ e)
    · obtain ⟨m, _, a, b⟩ := refsN_mem e
      exact hr _ o (objZ_at ho) m x a b
  · rcases List.mem_append.1 hx with e | e
    · exact h.ro x e
    · obtain rfl : x = n := by simpa using e
      exact hrn
  · rcases List.mem_append.1 hx with e | e
    · exact h.rl x (List.mem_append_left _ e)
    · obtain ⟨m, _, a, b⟩ := refsN_mem e
      by_cases e0 : x = 0
      · exact .inl e0
      · exact .inr (.step hrn ho a b e0)
  · rcases List.mem_append.1 hx with e | e
    · exact key y (h.cl x e o' ho' m y hy hrm)
    · obtain rfl : x = n := by simpa using e
      rw [ho] at ho'
      cases ho'
      exact .inr (.inr (List.mem_append_right _ (refsN_has hy hrm (List.getElem?_eq_some_iff.1 hy).1)))
theorem Mrk.end_ (h : Mrk ss l roots out []) : ∀ x, x ∈ out ↔ Rch ss l roots x := by
  intro x
  constructor
  · exact h.ro x
  · intro hx
    induction hx with
    | root hx h0 =>
      rcases h.ri _ hx with e | e | e
      · exact absurd e h0
      · exact e
      · simp at e
    | step hx ho hy hr h0 ih =>
      rcases h.cl _ ih _ ho _ _ hy hr with e | e | e
      · exact absurd e h0
      · exact e
      · simp at e
end Go.Proofs.Ytbdeflpjplhafaa.J

