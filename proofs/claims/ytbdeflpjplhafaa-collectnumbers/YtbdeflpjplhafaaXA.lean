/- Like, pure: pairings that are one to one and closed. -/
import Derived.Test.YtbdeflpjplhafaaVN
namespace Go.Proofs.Ytbdeflpjplhafaa.J
open Go.RowKit Go.MapKept Go.ChangeMaps
set_option linter.unusedVariables false

def swp (M : List (Int × Int)) : List (Int × Int) := M.map fun p => (p.2, p.1)
theorem swp_app (M N : List (Int × Int)) : swp (M ++ N) = swp M ++ swp N := by simp [swp]
theorem swp_len (M : List (Int × Int)) : (swp M).length = M.length := by simp [swp]
theorem swp_fst (M : List (Int × Int)) : (swp M).map (·.1) = M.map (·.2) := by simp [swp, Function.comp_def]
theorem mem_swp {M : List (Int × Int)} {x y : Int} : (y, x) ∈ swp M ↔ (x, y) ∈ M := by
  simp only [swp, List.mem_map, Prod.mk.injEq]
  constructor
  · rintro ⟨⟨a, b⟩, h, rfl, rfl⟩; exact h
  · intro h; exact ⟨(x, y), h, rfl, rfl⟩
theorem ilook_mem : ∀ {M : List (Int × Int)} {x y : Int}, ilook M x = some y → (x, y) ∈ M
  | [], x, y, h => by simp [ilook] at h
  | p :: M, x, y, h => by
    unfold ilook at h
    by_cases e : x = p.1
    · subst e
      simp only [beq_self_eq_true, if_true, Option.some.injEq] at h
      subst h
      exact List.mem_cons_self
    · rw [if_neg (by simpa using e)] at h
      exact List.mem_cons_of_mem _ (ilook_mem h)
theorem ilook_of : ∀ {M : List (Int × Int)} {x y : Int}, (M.map (·.1)).Nodup → (x, y) ∈ M → ilook M x = some y
  | [], x, y, _, h => by simp at h
  | p :: M, x, y, hn, h => by
    simp only [List.map_cons, List.nodup_cons] at hn
    unfold ilook
    rcases List.mem_cons.1 h with rfl | h
    · simp
    · have : x ≠ p.1 := fun e => hn.1 (e ▸ List.mem_map_of_mem (f := fun q : Int × Int => q.1) h)
      rw [if_neg (by simpa using this)]
      exact ilook_of hn.2 h
theorem ilook_no {M : List (Int × Int)} {x : Int} (h : ilook M x = none) : x ∉ M.map (·.1) := by
  induction M with
  | nil => simp
  | cons p M ih =>
    unfold ilook at h
    by_cases e : x = p.1
    · subst e; simp at h
    · rw [if_neg (by simpa using e)] at h
      simp only [List.map_cons, List.mem_cons, not_or]
      exact ⟨e, ih h⟩

section
variable (s1 : List (List Bool)) (l1 : List Ob) (s2 : List (List Bool)) (l2 : List Ob) (ra rb : List Int)
def fldOK (R : Int → Int → Prop) (x y : Int) (n : Nat) : Prop := refZ s1 l1 x (n : Int) = refZ s2 l2 y (n : Int) ∧ if refZ s1 l1 x (n : Int) = true then R (getZ l1 x (n : Int)) (getZ l2 y (n : Int)) else getZ l1 x (n : Int) = getZ l2 y (n : Int)
def alk (R : Int → Int → Prop) (x y : Int) : Prop := shpZ l1 x = shpZ l2 y ∧ lenZ l1 x = lenZ l2 y ∧ tagZ l1 x = tagZ l2 y ∧ ∀ n : Nat, (n : Int) < lenZ l1 x → fldOK s1 l1 s2 l2 R x y n
/-- A pairing of what two heaps hold. -/
structure VR (R : Int → Int → Prop) : Prop where
  z : R 0 0
  fn : ∀ {x y y' : Int}, R x y → R x y' → y = y'
  inj : ∀ {x x' y : Int}, R x y → R x' y → x = x'
  al : ∀ {x y : Int}, R x y → alk s1 l1 s2 l2 R x y
  ro : ∀ {i : Nat} {x y : Int}, ra[i]? = some x → rb[i]? = some y → R x y
def InM (M : List (Int × Int)) (x y : Int) : Prop := (x, y) ∈ M
/-- How far a comparison went: k roots; cur is being looked at. -/
structure Pz (k : Nat) (cur : Int × Int) (M left : List (Int × Int)) : Prop where
  z : (0, 0) ∈ M
  n1 : (M.map (·.1)).Nodup
  n2 : (M.map (·.2)).Nodup
  ob : ∀ p ∈ M, p = (0, 0) ∨ ((objZ l1 p.1).isSome = true ∧ (objZ l2 p.2).isSome = true)
  ro : ∀ {i : Nat} {x y : Int}, i < k → ra[i]? = some x → rb[i]? = some y → (x, y) ∈ M
  td : ∀ p ∈ M, p = (0, 0) ∨ p ∈ left ∨ alk s1 l1 s2 l2 (InM M) p.1 p.2 ∨ p = cur
  li : ∀ p ∈ left, p ∈ M ∧ p ≠ (0, 0)
  fo : ∀ {R : Int → Int → Prop}, VR s1 l1 s2 l2 ra rb R → ∀ p ∈ M, R p.1 p.2
end
variable {s1 : List (List Bool)} {l1 : List Ob} {s2 : List (List Bool)} {l2 : List Ob} {ra rb : List Int} {k : Nat} {cur : Int × Int} {M left : List (Int × Int)} {x y : Int}
theorem fldOK.mono {R S : Int → Int → Prop} {n : Nat} (h : fldOK s1 l1 s2 l2 R x y n) (hs : ∀ a b, R a b → S a b) : fldOK s1 l1 s2 l2 S x y n := by
  refine ⟨h.1, ?_⟩
  have := h.2
  split
  · rename_i e; rw [if_pos e] at this; exact hs _ _ this
  · rename_i e; rw [if_neg e] at this; exact this
theorem alk.mono {R S : Int → Int → Prop} (h : alk s1 l1 s2 l2 R x y) (hs : ∀ a b, R a b → S a b) : alk s1 l1 s2 l2 S x y := ⟨h.1, h.2.1, h.2.2.1, fun n hn => (h.2.2.2 n hn).mono hs⟩
theorem shpZ0 (l : List Ob) : shpZ l 0 = -3 ∧ lenZ l 0 = 0 ∧ tagZ l 0 = 0 := by
  unfold shpZ lenZ tagZ
  rw [objZ_lo (by decide)]
  exact ⟨rfl, rfl, rfl⟩
theorem alk_zero (R : Int → Int → Prop) : alk s1 l1 s2 l2 R 0 0 := by
  obtain ⟨a, b, c⟩ := shpZ0 l1
  obtain ⟨d, e, f⟩ := shpZ0 l2
  exact ⟨a.trans d.symm, b.trans e.symm, c.trans f.symm, fun n hn => by rw [b] at hn; omega⟩
def putB (M : List (Int × Int)) (x y : Int) : Bool := if (ilook M x).isSome || (ilook (swp M) y).isSome then (ilook M x).getD 0 == y && (ilook (swp M) y).getD 0 == x else true
def putN (M : List (Int × Int)) (x y : Int) : List (Int × Int) := if (ilook M x).isSome || (ilook (swp M) y).isSome then [] else [(x, y)]
theorem Pz.look0 (h : Pz s1 l1 s2 l2 ra rb k cur M left) : ilook M 0 = some 0 ∧ ilook (swp M) 0 = some 0 := ⟨ilook_of h.n1 h.z, ilook_of (by rw [swp_fst]; exact h.n2) (mem_swp.2 h.z)⟩
theorem Pz.put_ok (h : Pz s1 l1 s2 l2 ra rb k cur M left) (hx : x = 0 ∨ (objZ l1 x).isSome = true) (hy : y = 0 ∨ (objZ l2 y).isSome = true) (hf : ∀ {R : Int → Int → Prop}, VR s1 l1 s2 l2 ra rb R → R x y) (hb : putB M x y = true) :
    (x, y) ∈ M ++ putN M x y ∧ Pz s1 l1 s2 l2 ra rb k cur (M ++ putN M x y) (left ++ putN M x y) := by
  obtain ⟨z1, z2⟩ := h.look0
  unfold putB at hb
  unfold putN
  by_cases hc : ((ilook M x).isSome || (ilook (swp M) y).isSome) = true
  · rw [if_pos hc] at hb ⊢
    rw [List.append_nil, List.append_nil]
    refine ⟨?_, h⟩
    simp only [Bool.and_eq_true, beq_iff_eq] at hb
    obtain ⟨h1, h2⟩ := hb
    cases e : ilook M x with
    | some y' =>
      rw [e] at h1
      simp only [Option.getD_some] at h1
      subst h1
      exact ilook_mem e
    | none =>
      rw [e] at h1
      simp only [Option.getD_none] at h1
      subst h1
      rw [z2] at h2
      simp only [Option.getD_some] at h2
      subst h2
      exact h.z
  · rw [if_neg hc]
    simp only [Bool.or_eq_true, not_or, Bool.not_eq_true, Option.isSome_eq_false_iff, Option.isNone_iff_eq_none] at hc
    obtain ⟨c1, c2⟩ := hc
    have hx0 : x ≠ 0 := fun e => by rw [e, z1] at c1; cases c1
    have hy0 : y ≠ 0 := fun e => by rw [e, z2] at c2; cases c2
    have hin : ∀ a b, InM M a b → InM (M ++ [(x, y)]) a b := fun a b hab => List.mem_append_left _ hab
    refine ⟨by simp, ⟨List.mem_append_left _ h.z, ?_, ?_, ?_, ?_, ?_, ?_, ?_⟩⟩
    · rw [List.map_append, List.nodup_append]
      refine ⟨h.n1, by simp, fun a ha b hb => ?_⟩
      simp only [List.map_cons, List.map_nil, List.mem_singleton] at hb
      subst hb
      exact fun e => ilook_no c1 (e ▸ ha)
    · rw [List.map_append, List.nodup_append]
      refine ⟨h.n2, by simp, fun a ha b hb => ?_⟩
      simp only [List.map_cons, List.map_nil, List.mem_singleton] at hb
      subst hb
      exact fun e => ilook_no c2 (by rw [swp_fst]; exact e ▸ ha)
    · intro p hp
      rcases List.mem_append.1 hp with hp | hp
      · exact h.ob p hp
      · simp only [List.mem_singleton] at hp
        subst hp
        exact .inr ⟨hx.resolve_left hx0, hy.resolve_left hy0⟩
    · intro i a b hi h1 h2; exact List.mem_append_left _ (h.ro hi h1 h2)
    · intro p hp
      rcases List.mem_append.1 hp with hp | hp
      · rcases h.td p hp with e | e | e | e
        · exact .inl e
        · exact .inr (.inl (List.mem_append_left _ e))
        · exact .inr (.inr (.inl (e.mono hin)))
        · exact .inr (.inr (.inr e))
      · exact .inr (.inl (List.mem_append_right _ hp))
    · intro p hp
      rcases List.mem_append.1 hp with hp | hp
      · exact ⟨List.mem_append_left _ (h.li p hp).1, (h.li p hp).2⟩
      · refine ⟨List.mem_append_right _ hp, fun e => ?_⟩
        simp only [List.mem_singleton] at hp
        subst hp
        cases e
        exact hx0 rfl
    · intro R hR p hp
      rcases List.mem_append.1 hp with hp | hp
      · exact h.fo hR p hp
      · simp only [List.mem_singleton] at hp
        subst hp
        exact hf hR
theorem Pz.put_no (h : Pz s1 l1 s2 l2 ra rb k cur M left) (hb : putB M x y = false) {R : Int → Int → Prop} (hR : VR s1 l1 s2 l2 ra rb R) (hf : R x y) : False := by
  unfold putB at hb
  by_cases hc : ((ilook M x).isSome || (ilook (swp M) y).isSome) = true
  · rw [if_pos hc] at hb
    suffices hm : (x, y) ∈ M by
      rw [ilook_of h.n1 hm, ilook_of (M := swp M) (by rw [swp_fst]; exact h.n2) (mem_swp.2 hm)] at hb
      simp at hb
    rcases Bool.or_eq_true_iff.1 hc with c | c
    · obtain ⟨y', e⟩ := Option.isSome_iff_exists.1 c
      have hm := ilook_mem e
      have := hR.fn (h.fo hR _ hm) hf
      simp only at this
      subst this
      exact hm
    · obtain ⟨x', e⟩ := Option.isSome_iff_exists.1 c
      have hm := mem_swp.1 (ilook_mem e)
      have := hR.inj (h.fo hR _ hm) hf
      simp only at this
      subst this
      exact hm
  · rw [if_neg hc] at hb; cases hb
theorem Pz.few (h : Pz s1 l1 s2 l2 ra rb k cur M left) : M.length ≤ l1.length + 1 := by
  have := nodup_le (M.map (·.1)) (0 :: begs 0 l1) h.n1 (fun a ha => by
    obtain ⟨p, hp, rfl⟩ := List.mem_map.1 ha
    rcases h.ob p hp with e | ⟨e, _⟩
    · rw [e]; exact List.mem_cons_self
    · obtain ⟨o, ho⟩ := Option.isSome_iff_exists.1 e
      obtain ⟨i, h1, h2⟩ := objZ_idx ho
      have h3 := begs_at l1 0 i (List.getElem?_eq_some_iff.1 h1).1
      rw [Nat.zero_add, ← h2] at h3
      exact List.mem_cons_of_mem _ (List.mem_of_getElem? h3))
  simpa [begs_len] using this
theorem Pz.start : Pz s1 l1 s2 l2 ra rb 0 (0, 0) [(0, 0)] [] :=
  ⟨by simp, by simp, by simp, fun p hp => .inl (by simpa using hp), fun hi => absurd hi (by omega), fun p hp => .inl (by simpa using hp), fun p hp => by simp at hp, fun hR p hp => by
    simp only [List.mem_singleton] at hp
    subst hp
    exact hR.z⟩
theorem Pz.root (h : Pz s1 l1 s2 l2 ra rb k cur M left) (hx : ra[k]? = some x) (hy : rb[k]? = some y) (hm : (x, y) ∈ M) : Pz s1 l1 s2 l2 ra rb (k + 1) cur M left :=
  ⟨h.z, h.n1, h.n2, h.ob, fun {i a b} hi h1 h2 => by
    by_cases e : i = k
    · subst e
      rw [hx] at h1; rw [hy] at h2
      cases h1; cases h2
      exact hm
    · exact h.ro (by omega) h1 h2, h.td, h.li, h.fo⟩
theorem Pz.pop {o : Int × Int} (h : Pz s1 l1 s2 l2 ra rb k (0, 0) M (left ++ [o])) : Pz s1 l1 s2 l2 ra rb k o M left ∧ o ∈ M ∧ (objZ l1 o.1).isSome = true ∧ (objZ l2 o.2).isSome = true := by
  obtain ⟨h1, h2⟩ := h.li o (by simp)
  obtain ⟨h3, h4⟩ := (h.ob o h1).resolve_left h2
  refine ⟨⟨h.z, h.n1, h.n2, h.ob, h.ro, fun p hp => ?_, fun p hp => h.li p (List.mem_append_left _ hp), h.fo⟩, h1, h3, h4⟩
  rcases h.td p hp with e | e | e | e
  · exact .inl e
  · rcases List.mem_append.1 e with e | e
    · exact .inr (.inl e)
    · exact .inr (.inr (.inr (by simpa using e)))
  · exact .inr (.inr (.inl e))
  · exact .inl e
theorem Pz.done {o : Int × Int} (h : Pz s1 l1 s2 l2 ra rb k o M left) (ha : alk s1 l1 s2 l2 (InM M) o.1 o.2) : Pz s1 l1 s2 l2 ra rb k (0, 0) M left :=
  ⟨h.z, h.n1, h.n2, h.ob, h.ro, fun p hp => by
    rcases h.td p hp with e | e | e | e
    · exact .inl e
    · exact .inr (.inl e)
    · exact .inr (.inr (.inl e))
    · subst e; exact .inr (.inr (.inl ha)), h.li, h.fo⟩
theorem nodup_fst : ∀ {M : List (Int × Int)}, (M.map (·.1)).Nodup → ∀ {x y y' : Int}, (x, y) ∈ M → (x, y') ∈ M → y = y' := fun hn _ _ _ h1 h2 => by
  have a := ilook_of hn h1
  have b := ilook_of hn h2
  rw [a] at b
  cases b
  rfl
theorem Pz.fin (h : Pz s1 l1 s2 l2 ra rb k (0, 0) M []) (hk : ra.length ≤ k) : VR s1 l1 s2 l2 ra rb (InM M) :=
  ⟨h.z, fun h1 h2 => nodup_fst h.n1 h1 h2, fun h1 h2 => nodup_fst (M := swp M) (by rw [swp_fst]; exact h.n2) (mem_swp.2 h1) (mem_swp.2 h2), fun {a b} hab => by
    rcases h.td (a, b) hab with e | e | e | e
    · cases e; exact alk_zero _
    · simp at e
    · exact e
    · cases e; exact alk_zero _, fun {i a b} h1 h2 => h.ro (by have := (List.getElem?_eq_some_iff.1 h1).1; omega) h1 h2⟩
end Go.Proofs.Ytbdeflpjplhafaa.J
