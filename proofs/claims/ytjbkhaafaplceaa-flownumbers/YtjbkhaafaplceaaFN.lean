/- What can be reached: without Go. -/
import Derived.Test.YtjbkhaafaplceaaFM
namespace Go.Proofs.Ytjbkhaafaplceaa
open Go.RowKit

/-- What may come behind the k-th, by Next or by a handler over it. -/
def Succ (l : List IN) (h : List HN) (k m : Nat) : Prop := (m : Int) ∈ nextZ l (k : Int) ∨ ∃ i x, l[k]? = some i ∧ x ∈ h ∧ x.f ≤ i.pl ∧ i.pl < x.t ∧ findZ l x.a = (m : Int)
inductive Rch (l : List IN) (h : List HN) : Nat → Prop
  | zero : 0 < l.length → Rch l h 0
  | step {k m : Nat} : Rch l h k → Succ l h k m → Rch l h m
/-- r tells what can be reached. -/
def ReachIs (l : List IN) (h : List HN) (r : List Bool) : Prop := r.length = l.length ∧ ∀ k : Nat, k < l.length → (r[k]? = some true ↔ Rch l h k)
theorem ReachIs.unique {l : List IN} {h : List HN} {r s : List Bool} (hr : ReachIs l h r) (hs : ReachIs l h s) : r = s := by
  apply List.ext_getElem (by rw [hr.1, hs.1])
  intro k h1 h2
  have a := hr.2 k (by rw [← hr.1]; exact h1)
  have b := hs.2 k (by rw [← hr.1]; exact h1)
  rw [List.getElem?_eq_getElem h1] at a
  rw [List.getElem?_eq_getElem h2] at b
  cases e1 : r[k] <;> cases e2 : s[k]
  · rfl
  · rw [e1] at a
    rw [e2] at b
    exact absurd (a.2 (b.1 rfl)) (by simp)
  · rw [e1] at a
    rw [e2] at b
    exact absurd (b.2 (a.1 rfl)) (by simp)
  · rfl
theorem nextZ_range {l : List IN} {n m : Int} (h : m ∈ nextZ l n) : 0 ≤ m ∧ m < l.length := by
  unfold nextZ at h
  split at h
  · simp at h
  · split at h
    · rename_i x hx
      have hk := (List.getElem?_eq_some_iff.1 hx).1
      have ht := tgtZ_lt l x
      unfold nextL at h
      split at h
      · rename_i hc
        simp only [Bool.and_eq_true, decide_eq_true_eq] at hc
        split at h
        · simp at h; omega
        · split at h
          · simp at h; omega
          · split at h
            · simp at h; omega
            · simp at h; omega
      · split at h
        · simp at h
        · simp at h; omega
    · simp at h
theorem Succ.lt {l : List IN} {h : List HN} {k m : Nat} (hs : Succ l h k m) : m < l.length := by
  rcases hs with h1 | ⟨i, x, _, _, _, _, he⟩
  · have := nextZ_range h1; omega
  · have := findZ_lt l x.a; omega
theorem Rch.lt {l : List IN} {h : List HN} {k : Nat} (hr : Rch l h k) : k < l.length := by
  cases hr with
  | zero h => exact h
  | step _ hs => exact hs.lt
/-- r is as far as it is; st is left to do; ex is being done. -/
structure Iv (l : List IN) (h : List HN) (r : List Bool) (st : List Int) (ex : Int) : Prop where
  len : r.length = l.length
  snd : ∀ k : Nat, r[k]? = some true → Rch l h k
  stk : ∀ s ∈ st, 0 ≤ s ∧ r[s.toNat]? = some true
  fst : 0 < l.length → r[0]? = some true
  cls : ∀ k : Nat, r[k]? = some true → (k : Int) ∉ st → (k : Int) ≠ ex → ∀ m : Nat, Succ l h k m → r[m]? = some true
def cntF (r : List Bool) : Nat := (r.filter (fun b => !b)).length
theorem cntF_set {r : List Bool} {k : Nat} (h : r[k]? = some false) : cntF (r.set k true) + 1 = cntF r := by
  induction r generalizing k with
  | nil => simp at h
  | cons b r ih =>
    cases k with
    | zero => simp at h; subst h; simp [cntF]
    | succ k =>
      simp at h
      have := ih h
      unfold cntF at *
      cases b <;> simp <;> omega
theorem set_mono {r : List Bool} {j k : Nat} (h : r[k]? = some true) : (r.set j true)[k]? = some true := by
  rw [List.getElem?_set]
  split
  · have := (List.getElem?_eq_some_iff.1 h).1
    rename_i e
    subst e
    rw [if_pos this]
  · exact h
theorem set_self {r : List Bool} {k : Nat} {b : Bool} (h : r[k]? = some b) : (r.set k true)[k]? = some true := by
  rw [List.getElem?_set_self (List.getElem?_eq_some_iff.1 h).1]
/-- One step of the function value. -/
theorem Iv.step {l : List IN} {h : List HN} {r : List Bool} {st : List Int} {ex : Int} (iv : Iv l h r st ex) (m : Int) (hm : ∀ k : Nat, m = (k : Int) → k < l.length → Rch l h k) :
    Iv l h (rchZ (r, st) m).1 (rchZ (r, st) m).2 ex ∧ (∀ k : Nat, r[k]? = some true → (rchZ (r, st) m).1[k]? = some true) ∧ (∀ k : Nat, m = (k : Int) → k < l.length → (rchZ (r, st) m).1[k]? = some true) ∧ 2 * cntF (rchZ (r, st) m).1 + (rchZ (r, st) m).2.length ≤ 2 * cntF r + st.length ∧ (rchZ (r, st) m).1.length = r.length := by
  unfold rchZ
  simp only
  split
  · rename_i hc
    obtain ⟨h0, hf⟩ := hc
    obtain ⟨k, rfl⟩ := Int.eq_ofNat_of_zero_le h0
    rw [Int.toNat_natCast] at hf ⊢
    have hk : k < l.length := by rw [← iv.len]; exact (List.getElem?_eq_some_iff.1 hf).1
    have hcnt := cntF_set hf
    refine ⟨⟨by rw [List.length_set]; exact iv.len, fun j hj => ?_, fun s hs => ?_, fun h => set_mono (iv.fst h), fun j hj hjs hje q hq => ?_⟩, fun j hj => set_mono hj, fun j e hj => ?_, ?_, by rw [List.length_set]⟩
    · by_cases e : j = k
      · subst e; exact hm j rfl hk
      · rw [List.getElem?_set_ne (fun h => e h.symm)] at hj
        exact iv.snd j hj
    · rcases List.mem_append.1 hs with hs | hs
      · exact ⟨(iv.stk s hs).1, set_mono (iv.stk s hs).2⟩
      · simp at hs
        subst hs
        exact ⟨h0, by rw [Int.toNat_natCast]; exact set_self hf⟩
    · have e : j ≠ k := fun e => hjs (by subst e; simp)
      rw [List.getElem?_set_ne (fun h => e h.symm)] at hj
      exact set_mono (iv.cls j hj (fun hs => hjs (List.mem_append.2 (.inl hs))) hje q hq)
    · have : k = j := by omega
      subst this
      exact set_self hf
    · show 2 * cntF (r.set k true) + (st ++ [(k : Int)]).length ≤ _
      rw [List.length_append, List.length_singleton]
      omega
  · rename_i hc
    refine ⟨iv, fun j hj => hj, fun j e hj => ?_, Nat.le_refl _, rfl⟩
    subst e
    rw [Int.toNat_natCast] at hc
    have hj' : j < r.length := by rw [iv.len]; exact hj
    rw [List.getElem?_eq_getElem hj'] at hc ⊢
    cases e : r[j]
    · exact absurd ⟨by omega, by rw [e]⟩ hc
    · rfl
theorem Iv.begin (l : List IN) (h : List HN) : Iv l h (rchZ (List.replicate l.length false, []) 0).1 (rchZ (List.replicate l.length false, []) 0).2 (-1) := by
  by_cases h0 : 0 < l.length
  · have hf : (List.replicate l.length false)[0]? = some false := by simp [h0]
    have e : rchZ (List.replicate l.length false, []) 0 = ((List.replicate l.length false).set 0 true, [0]) := by
      unfold rchZ
      rw [if_pos ⟨Int.le_refl 0, hf⟩]
      rfl
    rw [e]
    have ht : ∀ k : Nat, ((List.replicate l.length false).set 0 true)[k]? = some true → k = 0 := by
      intro k hk
      rcases Nat.eq_zero_or_pos k with h | h
      · exact h
      · rw [List.getElem?_set_ne (by omega), List.getElem?_replicate] at hk
        split at hk <;> simp at hk
    refine ⟨by simp, fun k hk => ?_, fun s hs => ?_, fun _ => set_self hf, fun k hk hks => ?_⟩
    · rw [ht k hk]; exact .zero h0
    · simp at hs; subst hs; exact ⟨by omega, set_self hf⟩
    · rw [ht k hk] at hks; simp at hks
  · have hl : l.length = 0 := by omega
    have e : rchZ (List.replicate l.length false, []) 0 = ([], []) := by unfold rchZ; rw [hl]; simp
    rw [e]
    exact ⟨by simp [hl], fun k hk => by simp at hk, fun s hs => by simp at hs, fun h => absurd h h0, fun k hk => by simp at hk⟩
/-- Nothing is left: it is what can be reached. -/
theorem Iv.done {l : List IN} {h : List HN} {r : List Bool} {ex : Int} (iv : Iv l h r [] ex) (he : ex < 0) : ReachIs l h r := by
  refine ⟨iv.len, fun k hk => ⟨iv.snd k, fun hr => ?_⟩⟩
  clear hk
  induction hr with
  | zero h0 => exact iv.fst h0
  | step hr hs ih => exact iv.cls _ ih (by simp) (by omega) _ hs
/-- One is taken from the stack. -/
theorem Iv.pop {l : List IN} {h : List HN} {r : List Bool} {st : List Int} {n ex : Int} (iv : Iv l h r (st ++ [n]) ex) (he : ex < 0) : Iv l h r st n := by
  refine ⟨iv.len, iv.snd, fun s hs => iv.stk s (List.mem_append.2 (.inl hs)), iv.fst, fun k hk hks hkn m hm => iv.cls k hk (fun hs => ?_) (by omega) m hm⟩
  rcases List.mem_append.1 hs with hs | hs
  · exact hks hs
  · simp at hs; exact hkn hs
/-- What was being done is done. -/
theorem Iv.close {l : List IN} {h : List HN} {r : List Bool} {st : List Int} {n : Nat} (iv : Iv l h r st (n : Int)) (hd : ∀ m : Nat, Succ l h n m → r[m]? = some true) : Iv l h r st (-1) := by
  refine ⟨iv.len, iv.snd, iv.stk, iv.fst, fun k hk hks _ m hm => ?_⟩
  by_cases e : k = n
  · subst e; exact hd m hm
  · exact iv.cls k hk hks (by omega) m hm
end Go.Proofs.Ytjbkhaafaplceaa
