/- A heap's objects as words, without Go. -/
import Derived.Test.YtbdeflpjplhafaaProg
namespace Go.Proofs.Ytbdeflpjplhafaa.J

structure Ob where
  sh : Int
  tag : Int
  f : List Int
def obW (o : Ob) : List Int := o.sh :: (o.f.length : Int) :: o.tag :: o.f
def obB (o : Ob) : List Bool := true :: false :: false :: List.replicate o.f.length false
def wsL : List Ob → List Int
  | [] => []
  | o :: l => obW o ++ wsL l
def bsL : List Ob → List Bool
  | [] => []
  | o :: l => obB o ++ bsL l
def usedN : List Ob → Nat
  | [] => 0
  | o :: l => o.f.length + 3 + usedN l
/-- The object that begins with that word. -/
def atN : List Ob → Nat → Option Ob
  | [], _ => none
  | o :: l, p => if p = 0 then some o else if p < o.f.length + 3 then none else atN l (p - (o.f.length + 3))
theorem obW_len (o : Ob) : (obW o).length = o.f.length + 3 := by simp [obW]
theorem obB_len (o : Ob) : (obB o).length = o.f.length + 3 := by simp [obB]
theorem wsL_len : ∀ l : List Ob, (wsL l).length = usedN l
  | [] => rfl
  | o :: l => by simp [wsL, usedN, obW_len, wsL_len l]
theorem bsL_len : ∀ l : List Ob, (bsL l).length = usedN l
  | [] => rfl
  | o :: l => by simp [bsL, usedN, obB_len, bsL_len l]
theorem wsL_append : ∀ a b : List Ob, wsL (a ++ b) = wsL a ++ wsL b
  | [], b => rfl
  | o :: a, b => by simp [wsL, wsL_append a b]
theorem bsL_append : ∀ a b : List Ob, bsL (a ++ b) = bsL a ++ bsL b
  | [], b => rfl
  | o :: a, b => by simp [bsL, bsL_append a b]
theorem usedN_append : ∀ a b : List Ob, usedN (a ++ b) = usedN a + usedN b
  | [], b => by simp [usedN]
  | o :: a, b => by simp [usedN, usedN_append a b]; omega
theorem atN_lt : ∀ (l : List Ob) (p : Nat) (o : Ob), atN l p = some o → p + o.f.length + 3 ≤ usedN l
  | [], p, o, h => by simp [atN] at h
  | x :: l, p, o, h => by
    unfold atN at h
    split at h
    · cases h; subst p; simp [usedN] <;> omega
    · split at h
      · cases h
      · have := atN_lt l _ o h
        simp [usedN]; omega
theorem bsL_at : ∀ (l : List Ob) (p : Nat), p < usedN l → (bsL l)[p]? = some (atN l p).isSome
  | [], p, h => by simp [usedN] at h
  | o :: l, p, h => by
    unfold atN bsL
    by_cases h0 : p = 0
    · subst h0; simp [obB]
    · rw [if_neg h0]
      by_cases h1 : p < o.f.length + 3
      · rw [if_pos h1, List.getElem?_append_left (by rw [obB_len]; exact h1)]
        match p, h0, h1 with
        | 1, _, _ => rfl
        | 2, _, _ => rfl
        | q + 3, _, h1 => (simp [obB, List.getElem?_replicate]; try omega)
      · rw [if_neg h1, List.getElem?_append_right (by rw [obB_len]; omega), obB_len]
        exact bsL_at l _ (by simp [usedN] at h; omega)
theorem wsL_at : ∀ (l : List Ob) (p : Nat) (o : Ob), atN l p = some o → ∀ k x, (obW o)[k]? = some x → (wsL l)[p + k]? = some x
  | [], p, o, h => by simp [atN] at h
  | y :: l, p, o, h => by
    intro k x hx
    have hk : k < o.f.length + 3 := by rw [← obW_len]; exact (List.getElem?_eq_some_iff.1 hx).1
    unfold atN at h
    unfold wsL
    split at h
    · cases h; subst p
      rw [Nat.zero_add, List.getElem?_append_left (by rw [obW_len]; exact hk)]
      exact hx
    · split at h
      · cases h
      · rw [List.getElem?_append_right (by rw [obW_len]; omega), obW_len]
        have := wsL_at l _ o h k x hx
        rw [← this]
        congr 1
        omega
theorem atN_snoc : ∀ (l : List Ob) (o : Ob) (p : Nat), atN (l ++ [o]) p = if p < usedN l then atN l p else if p = usedN l then some o else none
  | [], o, p => by
    by_cases h : p = 0
    · subst h; rfl
    · simp [atN, usedN, h]
  | x :: l, o, p => by
    have hu : usedN (x :: l) = x.f.length + 3 + usedN l := rfl
    generalize usedN (x :: l) = U at hu
    simp only [List.cons_append, atN]
    by_cases h0 : p = 0
    · subst h0; rw [if_pos rfl, if_pos rfl, if_pos (by omega)]
    · rw [if_neg h0, if_neg h0]
      by_cases h1 : p < x.f.length + 3
      · rw [if_pos h1, if_pos h1, if_pos (by omega)]
      · rw [if_neg h1, if_neg h1, atN_snoc l o]
        by_cases h2 : p < U
        · rw [if_pos h2, if_pos (by omega)]
        · rw [if_neg h2, if_neg (by omega)]
          by_cases h3 : p = U
          · rw [if_pos h3, if_pos (by omega)]
          · rw [if_neg h3, if_neg (by omega)]

/-- The object whose word that is turned. -/
def modN (g : Ob → Ob) : List Ob → Nat → List Ob
  | [], _ => []
  | o :: l, p => if p = 0 then g o :: l else if p < o.f.length + 3 then o :: l else o :: modN g l (p - (o.f.length + 3))
theorem usedN_mod (g : Ob → Ob) (hg : ∀ o, (g o).f.length = o.f.length) : ∀ (l : List Ob) (p : Nat), usedN (modN g l p) = usedN l
  | [], p => rfl
  | o :: l, p => by
    unfold modN
    split
    · simp [usedN, hg]
    · split
      · rfl
      · simp [usedN, usedN_mod g hg l]
theorem bsL_mod (g : Ob → Ob) (hg : ∀ o, (g o).f.length = o.f.length) : ∀ (l : List Ob) (p : Nat), bsL (modN g l p) = bsL l
  | [], p => rfl
  | o :: l, p => by
    unfold modN
    split
    · simp [bsL, obB, hg]
    · split
      · rfl
      · simp [bsL, bsL_mod g hg l]
theorem atN_mod (g : Ob → Ob) (hg : ∀ o, (g o).f.length = o.f.length) : ∀ (l : List Ob) (p q : Nat), atN (modN g l p) q = if q = p then (atN l q).map g else atN l q
  | [], p, q => by simp [modN, atN]
  | o :: l, p, q => by
    unfold modN
    by_cases h0 : p = 0
    · subst h0
      rw [if_pos rfl]
      unfold atN
      by_cases h1 : q = 0
      · rw [if_pos h1, if_pos h1, if_pos h1]; rfl
      · rw [if_neg h1, if_neg h1, if_neg h1, hg]
    · rw [if_neg h0]
      by_cases h2 : p < o.f.length + 3
      · rw [if_pos h2]
        by_cases h1 : q = p
        · subst h1
          rw [if_pos rfl]
          unfold atN
          rw [if_neg h0, if_pos h2]
          rfl
        · rw [if_neg h1]
      · rw [if_neg h2]
        unfold atN
        by_cases h1 : q = 0
        · rw [if_pos h1, if_neg (by omega)]; simp [h1]
        · rw [if_neg h1, if_neg h1]
          by_cases h3 : q < o.f.length + 3
          · rw [if_pos h3, if_pos h3, if_neg (by omega)]
          · rw [if_neg h3, if_neg h3, atN_mod g hg l]
            by_cases h4 : q = p
            · rw [if_pos h4, if_pos (by omega)]
            · rw [if_neg h4, if_neg (by omega)]
theorem wsL_mod (g : Ob → Ob) (k : Nat) (x : Int) : ∀ (l : List Ob) (p : Nat) (o : Ob), atN l p = some o → k < (obW o).length → obW (g o) = (obW o).set k x → wsL (modN g l p) = (wsL l).set (p + k) x
  | [], p, o, h, _, _ => by simp [atN] at h
  | y :: l, p, o, h, hk, hg => by
    unfold atN at h
    unfold modN
    by_cases h0 : p = 0
    · rw [if_pos h0] at h ⊢
      cases h; subst h0
      simp only [wsL, Nat.zero_add, hg]
      rw [List.set_append_left _ _ hk]
    · rw [if_neg h0] at h ⊢
      by_cases h1 : p < y.f.length + 3
      · rw [if_pos h1] at h; cases h
      · rw [if_neg h1] at h ⊢
        simp only [wsL]
        rw [wsL_mod g k x l _ o h hk hg, List.set_append_right _ _ (by rw [obW_len]; omega), obW_len]
        congr 2
        omega
def setF (k : Nat) (x : Int) (o : Ob) : Ob := { o with f := o.f.set k x }
def setT (x : Int) (o : Ob) : Ob := { o with tag := x }
theorem setF_len (k : Nat) (x : Int) (o : Ob) : (setF k x o).f.length = o.f.length := by simp [setF]
theorem setT_len (x : Int) (o : Ob) : (setT x o).f.length = o.f.length := rfl
theorem obW_setF (k : Nat) (x : Int) (o : Ob) : obW (setF k x o) = (obW o).set (k + 3) x := by simp [obW, setF]
theorem obW_setT (x : Int) (o : Ob) : obW (setT x o) = (obW o).set 2 x := by simp [obW, setT]

def objZ (l : List Ob) (v : Int) : Option Ob := if 1 ≤ v then atN l (v - 1).toNat else none
theorem objZ_in {l : List Ob} {v : Int} {o : Ob} (h : objZ l v = some o) : 1 ≤ v ∧ v + o.f.length + 2 ≤ usedN l := by
  unfold objZ at h
  split at h
  · have := atN_lt _ _ _ h; omega
  · cases h
theorem objZ_lo {l : List Ob} {v : Int} (h : v < 1) : objZ l v = none := by unfold objZ; rw [if_neg (by omega)]
theorem objZ_hi {l : List Ob} {v : Int} (h : (usedN l : Int) < v) : objZ l v = none := by
  cases e : objZ l v with
  | none => rfl
  | some o => have := objZ_in e; omega
theorem bsL_obj {l : List Ob} {v : Int} (h : 1 ≤ v) (h2 : v ≤ usedN l) : (bsL l)[(v - 1).toNat]? = some (objZ l v).isSome := by
  unfold objZ
  rw [if_pos h]
  exact bsL_at l _ (by omega)
theorem wsL_obj {l : List Ob} {v : Int} {o : Ob} (h : objZ l v = some o) (k : Nat) (x : Int) (hx : (obW o)[k]? = some x) : (wsL l)[(v - 1).toNat + k]? = some x := by
  unfold objZ at h
  split at h
  · exact wsL_at l _ o h k x hx
  · cases h
def lenZ (l : List Ob) (v : Int) : Int := match objZ l v with
  | some o => o.f.length
  | none => 0
def shpZ (l : List Ob) (v : Int) : Int := match objZ l v with
  | some o => o.sh
  | none => -3
def tagZ (l : List Ob) (v : Int) : Int := match objZ l v with
  | some o => o.tag
  | none => 0
def hasZ (l : List Ob) (v n : Int) : Bool := decide (0 ≤ n) && decide (n < lenZ l v)
theorem hasZ_some {l : List Ob} {v n : Int} (h : hasZ l v n = true) : ∃ o, objZ l v = some o ∧ 0 ≤ n ∧ n < o.f.length := by
  unfold hasZ lenZ at h
  simp only [Bool.and_eq_true, decide_eq_true_eq] at h
  cases e : objZ l v with
  | none => rw [e] at h; simp at h; omega
  | some o => rw [e] at h; exact ⟨o, rfl, h.1, h.2⟩
theorem hasZ_of {l : List Ob} {v n : Int} {o : Ob} (h : objZ l v = some o) (h0 : 0 ≤ n) (h1 : n < o.f.length) : hasZ l v n = true := by
  simp [hasZ, lenZ, h, h0, h1]
/-- What stands in a field; 0 of none. -/
def getZ (l : List Ob) (v n : Int) : Int := match objZ l v with
  | some o => (o.f[n.toNat]?).getD 0
  | none => 0
/-- Which fields of a shape are references. -/
def refZ (ss : List (List Bool)) (l : List Ob) (v n : Int) : Bool := hasZ l v n && (if shpZ l v < 0 then shpZ l v == -2 else (((ss[(shpZ l v).toNat]?).getD [])[n.toNat]?).getD false)
/-- Shapes that are there, of as many fields. -/
def Wf (ss : List (List Bool)) (l : List Ob) : Prop := ∀ p o, atN l p = some o → -2 ≤ o.sh ∧ (0 ≤ o.sh → ∃ r, ss[o.sh.toNat]? = some r ∧ r.length = o.f.length)
theorem Wf.obj {ss : List (List Bool)} {l : List Ob} (h : Wf ss l) {v : Int} {o : Ob} (e : objZ l v = some o) : -2 ≤ o.sh ∧ (0 ≤ o.sh → ∃ r, ss[o.sh.toNat]? = some r ∧ r.length = o.f.length) := by
  unfold objZ at e
  split at e
  · exact h _ _ e
  · cases e
theorem Wf.nil (ss : List (List Bool)) : Wf ss [] := fun p o h => by simp [atN] at h
end Go.Proofs.Ytbdeflpjplhafaa.J

