/- What is reached, told by marks; without Go. -/
import Derived.Test.YtbdeflpjplhafaaUP
namespace Go.Proofs.Ytbdeflpjplhafaa.J
set_option linter.unusedVariables false

def mkB (R : List Bool) (x : Int) : Bool := decide (1 ≤ x) && (R[x.toNat]?).getD false
theorem mkB_pos {R : List Bool} {x : Int} (h : mkB R x = true) : 1 ≤ x := by
  unfold mkB at h
  simp only [Bool.and_eq_true, decide_eq_true_eq] at h
  exact h.1
theorem mkB_zero (R : List Bool) : mkB R 0 = false := by simp [mkB]
theorem mkB_none (n : Nat) (x : Int) : mkB (List.replicate n false) x = false := by
  unfold mkB
  rw [List.getElem?_replicate]
  split <;> simp
theorem mkB_set {R : List Bool} {x : Int} (h0 : 1 ≤ x) (hx : x.toNat < R.length) (y : Int) : mkB (R.set x.toNat true) y = (mkB R y || (y == x)) := by
  unfold mkB
  rw [List.getElem?_set]
  by_cases e : x.toNat = y.toNat
  · rw [if_pos e, if_pos hx]
    by_cases e2 : y = x
    · subst e2; simp [h0]
    · have : ¬ 1 ≤ y := by omega
      simp [this, e2]
  · rw [if_neg e]
    have : y ≠ x := fun e2 => e (by rw [e2])
    simp [this]
/-- How much there is to look at in what is marked. -/
def wtA (R : List Bool) : Nat → List Ob → Nat
  | _, [] => 0
  | p, o :: l => (if mkB R ((p : Int) + 1) = true then o.f.length + 1 else 0) + wtA R (p + (o.f.length + 3)) l
theorem wtA_le (R : List Bool) : ∀ (l : List Ob) (p : Nat), wtA R p l ≤ usedN l
  | [], p => by simp [wtA]
  | o :: l, p => by
    have := wtA_le R l (p + (o.f.length + 3))
    simp only [wtA, usedN]
    split <;> omega
theorem wtA_none (n : Nat) : ∀ (l : List Ob) (p : Nat), wtA (List.replicate n false) p l = 0
  | [], p => rfl
  | o :: l, p => by simp [wtA, wtA_none n l, mkB_none]
theorem wtA_out {R : List Bool} {x : Int} (h0 : 1 ≤ x) (hx : x.toNat < R.length) : ∀ (l : List Ob) (p : Nat), x ≤ p → wtA (R.set x.toNat true) p l = wtA R p l
  | [], p, _ => rfl
  | o :: l, p, h => by
    simp only [wtA]
    rw [wtA_out h0 hx l _ (by omega), mkB_set h0 hx]
    have : ((p : Int) + 1 == x) = false := by simp; omega
    rw [this, Bool.or_false]
theorem wtA_set {R : List Bool} {x : Int} (h0 : 1 ≤ x) (hx : x.toNat < R.length) (hR : mkB R x = false) : ∀ (l : List Ob) (p q : Nat) (o : Ob), atN l q = some o → x = (p : Int) + q + 1 → wtA (R.set x.toNat true) p l = wtA R p l + (o.f.length + 1)
  | [], p, q, o, h, _ => by simp [atN] at h
  | y :: l, p, q, o, h, e => by
    unfold atN at h
    simp only [wtA]
    rw [mkB_set h0 hx]
    by_cases hq : q = 0
    · rw [if_pos hq] at h
      cases h
      subst hq
      have e1 : x = (p : Int) + 1 := by omega
      rw [wtA_out h0 hx l _ (by omega)]
      rw [← e1, hR]
      simp; omega
    · rw [if_neg hq] at h
      split at h
      · cases h
      · rename_i h1
        rw [wtA_set h0 hx hR l (p + (y.f.length + 3)) (q - (y.f.length + 3)) o h (by omega)]
        have : ((p : Int) + 1 == x) = false := by simp; omega
        rw [this, Bool.or_false]
        omega
def lenN (l : List Ob) (x : Int) : Nat := match objZ l x with
  | some o => o.f.length + 1
  | none => 1
def wtL (l : List Ob) : List Int → Nat
  | [] => 0
  | x :: left => lenN l x + wtL l left
theorem wtL_snoc (l : List Ob) : ∀ (a : List Int) (x : Int), wtL l (a ++ [x]) = wtL l a + lenN l x
  | [], x => by simp [wtL]
  | y :: a, x => by simp [wtL, wtL_snoc l a x]; omega
theorem wtL_ge (l : List Ob) : ∀ a : List Int, a.length ≤ wtL l a
  | [] => by simp
  | y :: a => by
    have := wtL_ge l a
    have h : 1 ≤ lenN l y := by unfold lenN; split <;> omega
    simp only [wtL, List.length_cons]; omega
def CloN (ss : List (List Bool)) (l : List Ob) (R : List Bool) (x : Int) (n : Nat) : Prop := ∀ o, objZ l x = some o → ∀ (m : Nat) y, m < n → o.f[m]? = some y → rb ss o.sh m = true → y = 0 ∨ mkB R y = true
def CloA (ss : List (List Bool)) (l : List Ob) (R : List Bool) (x : Int) : Prop := ∀ n, CloN ss l R x n
/-- How far a marking with marks went. -/
structure Gm (ss : List (List Bool)) (l : List Ob) (roots : List Int) (R : List Bool) (left : List Int) (k : Nat) (cx : Int) (rem st : Nat) : Prop where
  len : R.length = usedN l + 1
  ob : ∀ x, mkB R x = true → (objZ l x).isSome = true
  rc : ∀ x, mkB R x = true → Rch ss l roots x
  lf : ∀ x ∈ left, mkB R x = true
  cl : ∀ x, mkB R x = true → x ∈ left ∨ x = cx ∨ CloA ss l R x
  rd : ∀ (i : Nat) x, roots[i]? = some x → i < k → x = 0 ∨ mkB R x = true
  eq : st + wtL l left + rem = k + wtA R 0 l
  sk : k ≤ st
variable {ss : List (List Bool)} {l : List Ob} {roots : List Int} {R : List Bool} {left : List Int} {k : Nat} {cx : Int} {rem st : Nat}
theorem Gm.start : Gm ss l roots (List.replicate (usedN l + 1) false) [] 0 0 0 0 :=
  ⟨by simp, fun x h => (by rw [mkB_none] at h; exact Bool.noConfusion h), fun x h => (by rw [mkB_none] at h; exact Bool.noConfusion h), fun x h => by simp at h, fun x h => (by rw [mkB_none] at h; exact Bool.noConfusion h), fun i x _ h => absurd h (by omega), by simp [wtL, wtA_none], Nat.le_refl _⟩
theorem Gm.few (h : Gm ss l roots R left k cx rem st) : left.length ≤ usedN l ∧ st ≤ k + usedN l := by
  have h1 := h.eq
  have h2 := h.sk
  have h3 := wtA_le R l 0
  have h4 := wtL_ge l left
  omega
def reachR (R : List Bool) (x : Int) : List Bool := if x = 0 ∨ mkB R x = true then R else R.set x.toNat true
def reachL (R : List Bool) (left : List Int) (x : Int) : List Int := if x = 0 ∨ mkB R x = true then left else left ++ [x]
theorem reachR_mono {x y : Int} (h : mkB R y = true) : mkB (reachR R x) y = true := by
  unfold reachR
  split
  · exact h
  · rename_i hn
    by_cases h0 : 1 ≤ x ∧ x.toNat < R.length
    · rw [mkB_set h0.1 h0.2, h]; rfl
    · unfold mkB at h ⊢
      rw [List.getElem?_set]
      split
      · rename_i e
        split
        · simp only [Bool.and_eq_true, decide_eq_true_eq] at h ⊢
          exact ⟨h.1, rfl⟩
        · rename_i e2
          simp only [Bool.and_eq_true, decide_eq_true_eq] at h
          rw [List.getElem?_eq_none (by omega)] at h
          simp at h
      · exact h
theorem CloN.mono {R' : List Bool} (hm : ∀ y, mkB R y = true → mkB R' y = true) {x : Int} {n : Nat} (h : CloN ss l R x n) : CloN ss l R' x n := fun o ho m y hmn hy hr => (h o ho m y hmn hy hr).imp id (hm y)
theorem Gm.reach (h : Gm ss l roots R left k cx rem st) {x : Int} (hx : x = 0 ∨ ((objZ l x).isSome = true ∧ Rch ss l roots x)) : Gm ss l roots (reachR R x) (reachL R left x) k cx rem st ∧ (x = 0 ∨ mkB (reachR R x) x = true) := by
  by_cases e : x = 0 ∨ mkB R x = true
  · have e1 : reachR R x = R := by unfold reachR; rw [if_pos e]
    have e2 : reachL R left x = left := by unfold reachL; rw [if_pos e]
    rw [e1, e2]
    exact ⟨h, e⟩
  · have e1 : reachR R x = R.set x.toNat true := by unfold reachR; rw [if_neg e]
    have e2 : reachL R left x = left ++ [x] := by unfold reachL; rw [if_neg e]
    have e3 : x ≠ 0 := fun h => e (.inl h)
    have e4 : mkB R x = false := by cases e5 : mkB R x with
      | false => rfl
      | true => exact absurd (Or.inr e5) e
    rcases hx with hx | ⟨ho, hr⟩
    · exact absurd hx e3
    · obtain ⟨o, ho⟩ := Option.isSome_iff_exists.1 ho
      obtain ⟨h0, h1⟩ := objZ_in ho
      have hlt : x.toNat < R.length := by have := h.len; omega
      have mm : ∀ y, mkB R y = true → mkB (R.set x.toNat true) y = true := fun y hy => by rw [mkB_set h0 hlt, hy]; rfl
      rw [e1, e2]
      refine ⟨⟨by rw [List.length_set]; exact h.len, fun y hy => ?_, fun y hy => ?_, fun y hy => ?_, fun y hy => ?_, fun i y hi hk => (h.rd i y hi hk).imp id (mm y), ?_, h.sk⟩, .inr (by rw [mkB_set h0 hlt]; simp)⟩
      · rw [mkB_set h0 hlt] at hy
        simp only [Bool.or_eq_true, beq_iff_eq] at hy
        rcases hy with hy | rfl
        · exact h.ob y hy
        · rw [ho]; rfl
      · rw [mkB_set h0 hlt] at hy
        simp only [Bool.or_eq_true, beq_iff_eq] at hy
        rcases hy with hy | rfl
        · exact h.rc y hy
        · exact hr
      · rcases List.mem_append.1 hy with hy | hy
        · exact mm y (h.lf y hy)
        · obtain rfl : y = x := by simpa using hy
          rw [mkB_set h0 hlt]; simp
      · rw [mkB_set h0 hlt] at hy
        simp only [Bool.or_eq_true, beq_iff_eq] at hy
        rcases hy with hy | rfl
        · rcases h.cl y hy with a | a | a
          · exact .inl (List.mem_append_left _ a)
          · exact .inr (.inl a)
          · exact .inr (.inr fun n => (a n).mono mm)
        · exact .inl (by simp)
      · have h2 : wtA (R.set x.toNat true) 0 l = wtA R 0 l + (o.f.length + 1) := wtA_set h0 hlt e4 l 0 (x - 1).toNat o (objZ_at ho) (by omega)
        have h3 : lenN l x = o.f.length + 1 := by unfold lenN; rw [ho]
        have h4 := h.eq
        rw [h2, wtL_snoc, h3]
        omega
theorem Gm.root (h : Gm ss l roots R left k 0 0 st) {x : Int} (hk : roots[k]? = some x) (hx : x = 0 ∨ (objZ l x).isSome = true) : Gm ss l roots (reachR R x) (reachL R left x) (k + 1) 0 0 (st + 1) := by
  have hx' : x = 0 ∨ ((objZ l x).isSome = true ∧ Rch ss l roots x) := by
    by_cases e : x = 0
    · exact .inl e
    · exact .inr ⟨hx.resolve_left e, .root (List.mem_of_getElem? hk) e⟩
  obtain ⟨a, b⟩ := h.reach hx'
  refine ⟨a.len, a.ob, a.rc, a.lf, a.cl, fun i y hi hlt => ?_, by have := a.eq; omega, by have := a.sk; omega⟩
  by_cases e : i = k
  · subst e
    rw [hk] at hi
    cases hi
    exact b
  · exact a.rd i y hi (by omega)
theorem Gm.pop {x : Int} (h : Gm ss l roots R (left ++ [x]) k 0 0 st) {o : Ob} (ho : objZ l x = some o) : Gm ss l roots R left k x o.f.length (st + 1) := by
  refine ⟨h.len, h.ob, h.rc, fun y hy => h.lf y (List.mem_append_left _ hy), fun y hy => ?_, h.rd, ?_, by have := h.sk; omega⟩
  · rcases h.cl y hy with a | a | a
    · rcases List.mem_append.1 a with a | a
      · exact .inl a
      · exact .inr (.inl (by simpa using a))
    · subst a; rw [mkB_zero] at hy; cases hy
    · exact .inr (.inr a)
  · have h1 := h.eq
    rw [wtL_snoc] at h1
    have h3 : lenN l x = o.f.length + 1 := by unfold lenN; rw [ho]
    omega
theorem Gm.top {x : Int} (h : Gm ss l roots R (left ++ [x]) k cx rem st) : mkB R x = true ∧ ∃ o, objZ l x = some o := by
  have h1 := h.lf x (by simp)
  exact ⟨h1, Option.isSome_iff_exists.1 (h.ob x h1)⟩
theorem Gm.num (h : Gm ss l roots R left k cx (rem + 1) st) : Gm ss l roots R left k cx rem (st + 1) :=
  ⟨h.len, h.ob, h.rc, h.lf, h.cl, h.rd, by have := h.eq; omega, by have := h.sk; omega⟩
theorem Gm.done (h : Gm ss l roots R left k cx 0 st) (hc : CloA ss l R cx) : Gm ss l roots R left k 0 0 st :=
  ⟨h.len, h.ob, h.rc, h.lf, fun y hy => by
    rcases h.cl y hy with a | a | a
    · exact .inl a
    · subst a; exact .inr (.inr hc)
    · exact .inr (.inr a), h.rd, h.eq, h.sk⟩
theorem Gm.end_ (h : Gm ss l roots R [] roots.length 0 0 st) (x : Int) : mkB R x = true ↔ Rch ss l roots x := by
  constructor
  · exact h.rc x
  · intro hx
    induction hx with
    | root hx h0 =>
      obtain ⟨i, hi⟩ := List.getElem?_of_mem hx
      exact (h.rd i _ hi (List.getElem?_eq_some_iff.1 hi).1).resolve_left h0
    | @step x y o n hx ho hy hr h0 ih =>
      rcases h.cl x ih with a | a | a
      · simp at a
      · subst a; rw [mkB_zero] at ih; cases ih
      · exact (a (n + 1) o ho n _ (Nat.lt_succ_self n) hy hr).resolve_left h0
theorem CloN.step {x y : Int} {o : Ob} {n : Nat} (h : CloN ss l R x n) (ho : objZ l x = some o) (hy : o.f[n]? = some y) (hn : rb ss o.sh n = true → y = 0 ∨ mkB R y = true) : CloN ss l R x (n + 1) := fun o' ho' m z hm hz hr => by
  rw [ho] at ho'
  cases ho'
  by_cases e : m = n
  · subst e
    rw [hy] at hz
    cases hz
    exact hn hr
  · exact h o ho m z (by omega) hz hr
theorem CloN.zero (x : Int) : CloN ss l R x 0 := fun o _ m y hm => absurd hm (by omega)
theorem CloN.all {x : Int} {o : Ob} (ho : objZ l x = some o) (h : CloN ss l R x o.f.length) : CloA ss l R x := fun n o' ho' m y hm hy hr => by
  rw [ho] at ho'
  cases ho'
  exact h o ho m y (List.getElem?_eq_some_iff.1 hy).1 hy hr
end Go.Proofs.Ytbdeflpjplhafaa.J

