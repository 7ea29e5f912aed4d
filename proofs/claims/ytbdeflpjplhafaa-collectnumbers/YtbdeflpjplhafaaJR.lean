/- What is kept of a heap, without Go. -/
import Derived.Test.YtbdeflpjplhafaaJO
namespace Go.Proofs.Ytbdeflpjplhafaa.J
set_option linter.unusedVariables false

structure KOk (l : List Ob) (K : List (Nat × Ob)) : Prop where
  at_ : ∀ x ∈ K, atN l x.1 = some x.2
  rise : K.Pairwise fun a b => a.1 < b.1
def keysK (K : List (Nat × Ob)) : List Int := K.map fun x => (x.1 : Int) + 1
def obsK (K : List (Nat × Ob)) : List Ob := K.map (·.2)
theorem keysK_len (K : List (Nat × Ob)) : (keysK K).length = K.length := by simp [keysK]
theorem obsK_len (K : List (Nat × Ob)) : (obsK K).length = K.length := by simp [obsK]
theorem keysK_at {K : List (Nat × Ob)} {i p : Nat} {o : Ob} (h : K[i]? = some (p, o)) : (keysK K)[i]? = some ((p : Int) + 1) := by simp [keysK, h]
theorem obsK_at {K : List (Nat × Ob)} {i p : Nat} {o : Ob} (h : K[i]? = some (p, o)) : (obsK K)[i]? = some o := by simp [obsK, h]
theorem obsK_take (K : List (Nat × Ob)) (i : Nat) : obsK (K.take i) = (obsK K).take i := by simp [obsK, List.map_take]
theorem atN_apart : ∀ (l : List Ob) (p q : Nat) (o o' : Ob), atN l p = some o → atN l q = some o' → p < q → p + (o.f.length + 3) ≤ q
  | [], p, q, o, o', h, _, _ => by simp [atN] at h
  | x :: l, p, q, o, o', h, h', hlt => by
    unfold atN at h h'
    rw [if_neg (by omega)] at h'
    split at h'
    · cases h'
    · split at h
      · cases h; omega
      · split at h
        · cases h
        · have := atN_apart l _ _ _ _ h h' (by omega)
          omega
theorem KOk.here {l : List Ob} {K : List (Nat × Ob)} (h : KOk l K) {i p : Nat} {o : Ob} (hi : K[i]? = some (p, o)) : atN l p = some o := h.at_ _ (List.mem_of_getElem? hi)
theorem KOk.lt {l : List Ob} {K : List (Nat × Ob)} (h : KOk l K) {i j p q : Nat} {o o' : Ob} (hi : K[i]? = some (p, o)) (hj : K[j]? = some (q, o')) (hlt : i < j) : p < q := by
  obtain ⟨h1, e1⟩ := List.getElem?_eq_some_iff.1 hi
  obtain ⟨h2, e2⟩ := List.getElem?_eq_some_iff.1 hj
  have := List.pairwise_iff_getElem.1 h.rise i j h1 h2 hlt
  rw [e1, e2] at this
  exact this
theorem KOk.apart {l : List Ob} {K : List (Nat × Ob)} (h : KOk l K) {i j p q : Nat} {o o' : Ob} (hi : K[i]? = some (p, o)) (hj : K[j]? = some (q, o')) (hlt : i < j) : p + (o.f.length + 3) ≤ q :=
  atN_apart l _ _ _ _ (h.here hi) (h.here hj) (h.lt hi hj hlt)
theorem KOk.place {l : List Ob} {K : List (Nat × Ob)} (h : KOk l K) : ∀ (i p : Nat) (o : Ob), K[i]? = some (p, o) → usedN ((obsK K).take i) ≤ p
  | 0, p, o, _ => by simp [usedN]
  | i + 1, p, o, hi => by
    have hlt := (List.getElem?_eq_some_iff.1 hi).1
    obtain ⟨⟨p', o'⟩, hx⟩ : ∃ x, K[i]? = some x := ⟨K[i]'(by omega), List.getElem?_eq_getElem _⟩
    have h1 := KOk.place h i p' o' hx
    have h2 := h.apart hx hi (Nat.lt_succ_self i)
    have h3 := (usedN_take (obsK K) i o' (obsK_at hx)).1
    omega
theorem KOk.within {l : List Ob} {K : List (Nat × Ob)} (h : KOk l K) : usedN (obsK K) ≤ usedN l := by
  by_cases h0 : K.length = 0
  · have : K = [] := List.eq_nil_of_length_eq_zero h0
    subst this; simp [obsK, usedN]
  · obtain ⟨⟨p, o⟩, hx⟩ : ∃ x, K[K.length - 1]? = some x := ⟨K[K.length - 1]'(by omega), List.getElem?_eq_getElem _⟩
    have h1 := h.place _ p o hx
    have h2 := usedN_take (obsK K) (K.length - 1) o (obsK_at hx)
    have h3 := atN_lt l p o (h.here hx)
    have h4 : (obsK K).take (K.length - 1 + 1) = obsK K := by rw [List.take_of_length_le]; rw [obsK_len]; omega
    rw [h4] at h2
    omega
/-- Where an object goes; 0 of none. -/
def toA : Nat → List (Nat × Ob) → Nat → Int
  | _, [], _ => 0
  | q, (p, o) :: K, j => if p + 1 = j then (q : Int) + 1 else toA (q + (o.f.length + 3)) K j
theorem toA_none : ∀ (K : List (Nat × Ob)) (q j : Nat), (∀ x ∈ K, x.1 + 1 ≠ j) → toA q K j = 0
  | [], q, j, _ => rfl
  | (p, o) :: K, q, j, h => by
    unfold toA
    rw [if_neg (h (p, o) List.mem_cons_self)]
    exact toA_none K _ j fun x hx => h x (List.mem_cons_of_mem _ hx)
theorem toA_snoc : ∀ (K : List (Nat × Ob)) (q j p : Nat) (o : Ob), (∀ x ∈ K, x.1 ≠ p) → toA q (K ++ [(p, o)]) j = if j = p + 1 then ((q + usedN (obsK K) : Nat) : Int) + 1 else toA q K j
  | [], q, j, p, o, _ => by
    simp only [List.nil_append, toA, obsK, List.map_nil, usedN, Nat.add_zero]
    by_cases e : j = p + 1
    · rw [if_pos e, if_pos e.symm]
    · rw [if_neg e, if_neg (Ne.symm e)]
  | (p', o') :: K, q, j, p, o, h => by
    simp only [List.cons_append, toA]
    by_cases e : p' + 1 = j
    · rw [if_pos e, if_pos e, if_neg (by have := h (p', o') List.mem_cons_self; simp only at this; omega)]
    · rw [if_neg e, if_neg e, toA_snoc K _ j p o (fun x hx => h x (List.mem_cons_of_mem _ hx))]
      simp only [obsK, List.map_cons, usedN]
      rw [show q + (o'.f.length + 3) + usedN (List.map (·.2) K) = q + (o'.f.length + 3 + usedN (List.map (·.2) K)) by omega]
theorem KOk.step {l : List Ob} {K : List (Nat × Ob)} (h : KOk l K) {i p : Nat} {o : Ob} (hi : K[i]? = some (p, o)) (j : Nat) :
    toA 0 (K.take (i + 1)) j = if j = p + 1 then (usedN ((obsK K).take i) : Int) + 1 else toA 0 (K.take i) j := by
  rw [take_snoc hi, toA_snoc, obsK_take, Nat.zero_add]
  intro x hx e
  obtain ⟨k, hk⟩ := List.getElem?_of_mem hx
  rw [List.getElem?_take] at hk
  split at hk
  · rename_i hlt
    obtain ⟨p', o'⟩ := x
    have := h.lt hk hi hlt
    simp only at e; omega
  · cases hk
theorem toA_zero (l : List Ob) : ∀ (K : List (Nat × Ob)) (q : Nat), toA q K 0 = 0
  | [], q => rfl
  | (p, o) :: K, q => by
    unfold toA
    rw [if_neg (by omega)]
    exact toA_zero l K _
theorem toA_le : ∀ (K : List (Nat × Ob)) (q j : Nat), 0 ≤ toA q K j ∧ toA q K j ≤ ((q + usedN (obsK K) : Nat) : Int)
  | [], q, j => by simp only [toA]; omega
  | (p, o) :: K, q, j => by
    unfold toA
    simp only [obsK, List.map_cons, usedN]
    split
    · omega
    · have := toA_le K (q + (o.f.length + 3)) j
      simp only [obsK] at this
      omega
/-- Is that field a reference? -/
def rb (ss : List (List Bool)) (sh : Int) (n : Nat) : Bool := if sh < 0 then sh == -2 else (((ss[sh.toNat]?).getD [])[n]?).getD false
theorem refZ_rb {ss : List (List Bool)} {l : List Ob} {v : Int} {o : Ob} (h : objZ l v = some o) {n : Nat} (hn : n < o.f.length) : refZ ss l v (n : Int) = rb ss o.sh n := by
  unfold refZ shpZ rb
  rw [hasZ_of h (by omega) (by omega), h]
  simp
/-- References lead to objects. -/
def RefsOk (ss : List (List Bool)) (l : List Ob) : Prop := ∀ (p : Nat) (o : Ob), atN l p = some o → ∀ (n : Nat) x, o.f[n]? = some x → rb ss o.sh n = true → x = 0 ∨ (objZ l x).isSome = true
def mvN (ss : List (List Bool)) (K : List (Nat × Ob)) (n : Nat) (o : Ob) : Ob := { o with f := o.f.mapIdx fun i v => if i < n ∧ rb ss o.sh i = true then toA 0 K v.toNat else v }
def mvO (ss : List (List Bool)) (K : List (Nat × Ob)) (o : Ob) : Ob := mvN ss K o.f.length o
theorem mvN_len (ss : List (List Bool)) (K : List (Nat × Ob)) (n : Nat) (o : Ob) : (mvN ss K n o).f.length = o.f.length := by simp [mvN]
theorem mvN_at (ss : List (List Bool)) (K : List (Nat × Ob)) (n : Nat) (o : Ob) (i : Nat) : (mvN ss K n o).f[i]? = (o.f[i]?).map fun v => if i < n ∧ rb ss o.sh i = true then toA 0 K v.toNat else v := by simp [mvN]
theorem Ob.ext' {a b : Ob} (h1 : a.sh = b.sh) (h2 : a.tag = b.tag) (h3 : ∀ i : Nat, a.f[i]? = b.f[i]?) : a = b := by
  cases a; cases b
  simp only at h1 h2 h3
  subst h1 h2
  have := List.ext_getElem? h3
  subst this
  rfl
theorem mvN_zero (ss : List (List Bool)) (K : List (Nat × Ob)) (o : Ob) : mvN ss K 0 o = o := by
  refine Ob.ext' rfl rfl fun i => ?_
  rw [mvN_at]
  cases o.f[i]? <;> simp
theorem mvN_no {ss : List (List Bool)} {K : List (Nat × Ob)} {n : Nat} {o : Ob} (h : rb ss o.sh n = false) : mvN ss K (n + 1) o = mvN ss K n o := by
  refine Ob.ext' rfl rfl fun i => ?_
  rw [mvN_at, mvN_at]
  cases e : o.f[i]? with
  | none => rfl
  | some v =>
    simp only [Option.map_some]
    by_cases hi : i = n
    · subst hi; simp [h]
    · have : (i < n + 1) ↔ (i < n) := by omega
      simp [this]
theorem mvN_yes {ss : List (List Bool)} {K : List (Nat × Ob)} {n : Nat} {o : Ob} {x : Int} (hx : o.f[n]? = some x) (h : rb ss o.sh n = true) : setF n (toA 0 K x.toNat) (mvN ss K n o) = mvN ss K (n + 1) o := by
  refine Ob.ext' rfl rfl fun i => ?_
  rw [mvN_at]
  simp only [setF, List.getElem?_set, mvN_len, mvN_at]
  by_cases hi : n = i
  · subst hi
    have hl := (List.getElem?_eq_some_iff.1 hx).1
    rw [if_pos rfl, if_pos hl, hx]
    simp [h]
  · rw [if_neg hi]
    cases o.f[i]? with
    | none => rfl
    | some v =>
      have : (i < n + 1) ↔ (i < n) := by omega
      simp [this]
/-- Does what is kept lead on to what is kept? -/
def leadK (K : List (Nat × Ob)) (x : Int) : Bool := x == 0 || toA 0 K x.toNat != 0
def okO (ss : List (List Bool)) (K : List (Nat × Ob)) (o : Ob) : Bool := (List.range o.f.length).all fun n => !rb ss o.sh n || leadK K ((o.f[n]?).getD 0)
def okK (ss : List (List Bool)) (K : List (Nat × Ob)) : Bool := K.all fun x => okO ss K x.2
end Go.Proofs.Ytbdeflpjplhafaa.J

