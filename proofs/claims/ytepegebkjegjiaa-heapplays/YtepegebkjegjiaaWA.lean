/- HeapPlays: each call at both heaps. -/
import Derived.Test.YtepegebkjegjiaaVJ
import Derived.Test.YtepegebkjegjiaaUO
import Derived.Test.YtepegebkjegjiaaUR
import Derived.Test.YtepegebkjegjiaaVE
namespace Go.Proofs.Ytepegebkjegjiaa.J
open Go.RowKit Go.MapKept Go.ChangeMaps
set_option linter.unusedVariables false
variable {n0 : Nat} {X : Nat → Prop} {w : World} {p q most : Nat} {l m : List Ob} {ss tt : List (List Bool)}

theorem TwoV.drewN (h : TwoV n0 X w p q most l ss m tt) (k : Nat) : TwoV n0 X (w.drewN k) p q most l ss m tt ∧ TwoS n0 X w (w.drewN k) := h.below (below_drewQ w k)
def arA (most : Nat) (l : List Ob) (n : Int) : Int × Int := if n < 0 ∨ 256 < n then (0, 1) else if most < usedN l + (n.toNat + 3) then (0, 26) else ((usedN l : Int) + 1, 0)
def arL (most : Nat) (l : List Ob) (refs : Bool) (n : Int) : List Ob := if n < 0 ∨ 256 < n then l else if most < usedN l + (n.toNat + 3) then l else l ++ [⟨arrS refs, 0, List.replicate n.toNat 0⟩]
theorem pl_arrayH (h : TwoV n0 X w p q most l ss m tt) (refs : Bool) (n : Int) : Calls Try.prog 15 #[.pointer (some ⟨p, 0, none⟩), .bool refs, .int .i64 n] w fun e w' => e = .returned (.tuple #[.int .i64 (arA most l n).1, .int .i64 (arA most l n).2]) ∧ TwoV n0 X w' p q most (arL most l refs n) ss m tt ∧ TwoS n0 X w w' := by
  unfold arA arL
  by_cases h1 : n < 0 ∨ 256 < n
  · rw [if_pos h1, if_pos h1]
    exact (Array_bad refs n h1 _ w).mono fun e w' ⟨a, b⟩ => by subst b; exact ⟨a, h, TwoS.refl _⟩
  · rw [if_neg h1, if_neg h1]
    obtain ⟨k, rfl⟩ : ∃ k : Nat, n = (k : Int) := ⟨n.toNat, by omega⟩
    rw [Int.toNat_natCast]
    by_cases h2 : most < usedN l + (k + 3)
    · rw [if_pos h2, if_pos h2]
      have h' := h
      obtain ⟨H, R, rfl, rfl, hh, hr, hd, hx⟩ := h
      exact (Array_full hh refs k (by omega) h2).mono fun e w' ⟨a, b⟩ => ⟨a, h'.below b⟩
    · rw [if_neg h2, if_neg h2]
      obtain ⟨H, R, rfl, rfl, hh, hr, hd, hx⟩ := h
      exact (Array_any hh refs k (by omega) (by omega)).mono fun e w' ⟨a, H', b, c⟩ => ⟨a, two_hstep hh hr hd hx b c⟩
theorem pl_arrayR (h : TwoV n0 X w p q most l ss m tt) (refs : Bool) (n : Int) : Calls Try.prog 16 #[.pointer (some ⟨q, 0, none⟩), .bool refs, .int .i64 n] w fun e w' => e = .returned (.tuple #[.int .i64 (arA most m n).1, .int .i64 (arA most m n).2]) ∧ TwoV n0 X w' p q most l ss (arL most m refs n) tt ∧ TwoS n0 X w w' := by
  unfold arA arL
  by_cases h1 : n < 0 ∨ 256 < n
  · rw [if_pos h1, if_pos h1]
    exact (uarray_bad refs n h1 _ w).mono fun e w' ⟨a, b⟩ => by subst b; exact ⟨a, h, TwoS.refl _⟩
  · rw [if_neg h1, if_neg h1]
    obtain ⟨k, rfl⟩ : ∃ k : Nat, n = (k : Int) := ⟨n.toNat, by omega⟩
    rw [Int.toNat_natCast]
    by_cases h2 : most < usedN m + (k + 3)
    · rw [if_pos h2, if_pos h2]
      have h' := h
      obtain ⟨H, R, rfl, rfl, hh, hr, hd, hx⟩ := h
      exact (uarray_full hr refs k (by omega) h2).mono fun e w' ⟨a, k, b⟩ => by subst b; exact ⟨a, h'.drewN k⟩
    · rw [if_neg h2, if_neg h2]
      obtain ⟨H, R, rfl, rfl, hh, hr, hd, hx⟩ := h
      exact (uarray_any hr refs k (by omega) (by omega)).mono fun e w' ⟨a, R', b, c⟩ => ⟨a, two_rstep hh hr hd hx b c⟩
def shS (ss : List (List Bool)) (s : Int) : Option (List Bool) := if s < 0 then none else ss[s.toNat]?
def obA (most : Nat) (l : List Ob) (ss : List (List Bool)) (s : Int) : Int × Int := match shS ss s with
  | none => (0, 1)
  | some r => if most < usedN l + (r.length + 3) then (0, 26) else ((usedN l : Int) + 1, 0)
def obL (most : Nat) (l : List Ob) (ss : List (List Bool)) (s : Int) : List Ob := match shS ss s with
  | none => l
  | some r => if most < usedN l + (r.length + 3) then l else l ++ [⟨s, 0, List.replicate r.length 0⟩]
theorem shS_none {s : Int} (h : shS ss s = none) : s < 0 ∨ (ss.length : Int) ≤ s := by
  unfold shS at h
  split at h
  · omega
  · rw [List.getElem?_eq_none_iff] at h
    omega
theorem shS_some {s : Int} {r : List Bool} (h : shS ss s = some r) : ∃ k : Nat, s = (k : Int) ∧ ss[k]? = some r := by
  unfold shS at h
  split at h
  · cases h
  · exact ⟨s.toNat, by omega, h⟩
theorem pl_objectH (h : TwoV n0 X w p q most l ss m tt) (hs : ∀ r ∈ ss, r.length ≤ 100000) (s : Int) : Calls Try.prog 13 #[.pointer (some ⟨p, 0, none⟩), .int .i64 s] w fun e w' => e = .returned (.tuple #[.int .i64 (obA most l ss s).1, .int .i64 (obA most l ss s).2]) ∧ TwoV n0 X w' p q most (obL most l ss s) ss m tt ∧ TwoS n0 X w w' := by
  unfold obA obL
  have h' := h
  obtain ⟨H, R, rfl, rfl, hh, hr, hd, hx⟩ := h
  cases e : shS ss s with
  | none => exact (Object_bad hh s (shS_none e)).mono fun e w' ⟨a, b⟩ => by subst b; exact ⟨a, h', TwoS.refl _⟩
  | some r =>
    obtain ⟨k, rfl, hk⟩ := shS_some e
    have hn := hs r (List.mem_of_getElem? hk)
    simp only []
    by_cases h2 : most < usedN l + (r.length + 3)
    · rw [if_pos h2, if_pos h2]
      exact (Object_full hh k r hk hn h2).mono fun e w' ⟨a, b⟩ => ⟨a, h'.below b⟩
    · rw [if_neg h2, if_neg h2]
      exact (Object_any hh k r hk hn (by omega)).mono fun e w' ⟨a, H', b, c⟩ => ⟨a, two_hstep hh hr hd hx b c⟩
theorem pl_objectR (h : TwoV n0 X w p q most l ss m tt) (hs : ∀ r ∈ tt, r.length ≤ 100000) (s : Int) : Calls Try.prog 14 #[.pointer (some ⟨q, 0, none⟩), .int .i64 s] w fun e w' => e = .returned (.tuple #[.int .i64 (obA most m tt s).1, .int .i64 (obA most m tt s).2]) ∧ TwoV n0 X w' p q most l ss (obL most m tt s) tt ∧ TwoS n0 X w w' := by
  unfold obA obL
  have h' := h
  obtain ⟨H, R, rfl, rfl, hh, hr, hd, hx⟩ := h
  cases e : shS tt s with
  | none => exact (uobject_bad hr s (shS_none e)).mono fun e w' ⟨a, b⟩ => by subst b; exact ⟨a, h', TwoS.refl _⟩
  | some r =>
    obtain ⟨k, rfl, hk⟩ := shS_some e
    have hn := hs r (List.mem_of_getElem? hk)
    simp only []
    by_cases h2 : most < usedN m + (r.length + 3)
    · rw [if_pos h2, if_pos h2]
      exact (uobject_full hr k r hk hn h2).mono fun e w' ⟨a, j, b⟩ => by subst b; exact ⟨a, h'.drewN j⟩
    · rw [if_neg h2, if_neg h2]
      exact (uobject_any hr k r hk hn (by omega)).mono fun e w' ⟨a, R', b, c⟩ => ⟨a, two_rstep hh hr hd hx b c⟩
def seA (ss : List (List Bool)) (l : List Ob) (v n x : Int) : Int := if hasZ l v n = true then (if fitZ ss l v n x = true then 0 else 20) else 1
def seL (ss : List (List Bool)) (l : List Ob) (v n x : Int) : List Ob := if hasZ l v n = true then (if fitZ ss l v n x = true then setL l v n x else l) else l
theorem pl_setH (h : TwoV n0 X w p q most l ss m tt) (v n x : Int) : Calls Try.prog 18 #[.pointer (some ⟨p, 0, none⟩), .int .i64 v, .int .i64 n, .int .i64 x] w fun e w' => e = .returned (.int .i64 (seA ss l v n x)) ∧ TwoV n0 X w' p q most (seL ss l v n x) ss m tt ∧ TwoS n0 X w w' := by
  unfold seA seL
  have h' := h
  obtain ⟨H, R, rfl, rfl, hh, hr, hd, hx⟩ := h
  cases e : hasZ l v n with
  | false => exact (Set_no hh v n x e).mono fun e w' ⟨a, b⟩ => by subst b; exact ⟨a, h', TwoS.refl _⟩
  | true =>
    cases e2 : fitZ ss l v n x with
    | false => exact (Set_type hh v n x e e2).mono fun e w' ⟨a, b⟩ => by subst b; exact ⟨a, h', TwoS.refl _⟩
    | true => exact (Set_yes hh v n x e e2).mono fun e w' ⟨a, b, c⟩ => ⟨a, two_hstep hh hr hd hx b c⟩
theorem pl_setR (h : TwoV n0 X w p q most l ss m tt) (v n x : Int) : Calls Try.prog 19 #[.pointer (some ⟨q, 0, none⟩), .int .i64 v, .int .i64 n, .int .i64 x] w fun e w' => e = .returned (.int .i64 (seA tt m v n x)) ∧ TwoV n0 X w' p q most l ss (seL tt m v n x) tt ∧ TwoS n0 X w w' := by
  unfold seA seL
  have h' := h
  obtain ⟨H, R, rfl, rfl, hh, hr, hd, hx⟩ := h
  cases e : hasZ m v n with
  | false => exact (uset_no hr v n x e).mono fun e w' ⟨a, b⟩ => by subst b; exact ⟨a, h', TwoS.refl _⟩
  | true =>
    cases e2 : fitZ tt m v n x with
    | false => exact (uset_type hr v n x e e2).mono fun e w' ⟨a, j, b⟩ => by subst b; exact ⟨a, h'.drewN j⟩
    | true => exact (uset_yes hr v n x e e2).mono fun e w' ⟨a, b, c⟩ => ⟨a, two_rstep hh hr hd hx b c⟩
def tgA (l : List Ob) (v : Int) : Int := if (objZ l v).isSome = true then 0 else 1
def tgL (l : List Ob) (v x : Int) : List Ob := if (objZ l v).isSome = true then setTagL l v x else l
theorem pl_tagH (h : TwoV n0 X w p q most l ss m tt) (v x : Int) : Calls Try.prog 20 #[.pointer (some ⟨p, 0, none⟩), .int .i64 v, .int .i64 x] w fun e w' => e = .returned (.int .i64 (tgA l v)) ∧ TwoV n0 X w' p q most (tgL l v x) ss m tt ∧ TwoS n0 X w w' := by
  unfold tgA tgL
  have h' := h
  obtain ⟨H, R, rfl, rfl, hh, hr, hd, hx⟩ := h
  cases e : objZ l v with
  | none => exact (SetTag_no hh v x e).mono fun e w' ⟨a, b⟩ => by subst b; exact ⟨a, h', TwoS.refl _⟩
  | some o => exact (SetTag_yes hh v x o e).mono fun e w' ⟨a, b, c⟩ => ⟨a, two_hstep hh hr hd hx b c⟩
theorem pl_tagR (h : TwoV n0 X w p q most l ss m tt) (v x : Int) : Calls Try.prog 21 #[.pointer (some ⟨q, 0, none⟩), .int .i64 v, .int .i64 x] w fun e w' => e = .returned (.int .i64 (tgA m v)) ∧ TwoV n0 X w' p q most l ss (tgL m v x) tt ∧ TwoS n0 X w w' := by
  unfold tgA tgL
  have h' := h
  obtain ⟨H, R, rfl, rfl, hh, hr, hd, hx⟩ := h
  cases e : objZ m v with
  | none => exact (utag_no hr v x e).mono fun e w' ⟨a, b⟩ => by subst b; exact ⟨a, h', TwoS.refl _⟩
  | some o => exact (utag_yes hr v x o e).mono fun e w' ⟨a, b, c⟩ => ⟨a, two_rstep hh hr hd hx b c⟩
/-- The number of a shape, told. -/
theorem pl_shapeH (h : TwoV n0 X w p q most l ss m tt) (v : Value) (r : List Bool) (hv : BView w v r) (hr : r.length ≤ 100000) (hs : ss.length ≤ 100000) : Calls Try.prog 11 #[.pointer (some ⟨p, 0, none⟩), v] w fun e w' => e = .returned (.int .i64 (numS ss r : Int)) ∧ TwoV n0 X w' p q most l (addS ss r) m tt ∧ TwoS n0 X w w' := by
  have h' := h
  obtain ⟨H, R, rfl, rfl, hh, hr', hd, hx⟩ := h
  cases e : idxS ss r with
  | some i => exact (Shape_old hh v r hv hr i e).mono fun _ w' ⟨e1, e2⟩ => ⟨by rw [e1]; unfold numS; rw [e], by unfold addS; rw [e]; exact h'.below e2⟩
  | none => exact (Shape_new hh v r hv hr hs e).mono fun _ w' ⟨e1, H', e2, e3⟩ => ⟨by rw [e1]; unfold numS; rw [e], two_hstep hh hr' hd hx e2 e3⟩
theorem pl_shapeR (h : TwoV n0 X w p q most l ss m tt) (v : Value) (r : List Bool) (hv : BView w v r) (hr : r.length ≤ 100000) (hs : tt.length ≤ 100000) : Calls Try.prog 12 #[.pointer (some ⟨q, 0, none⟩), v] w fun e w' => e = .returned (.int .i64 (numS tt r : Int)) ∧ TwoV n0 X w' p q most l ss m (addS tt r) ∧ TwoS n0 X w w' := by
  obtain ⟨H, R, rfl, rfl, hh, hr', hd, hx⟩ := h
  exact (ushape_any hr' v r hv hr hs).mono fun _ w' ⟨e1, R', e2, e3⟩ => ⟨e1, two_rstep hh hr' hd hx e2 e3⟩
/-- Slide, told: of what is kept. -/
def slL (ss : List (List Bool)) (l : List Ob) (K : List (Nat × Ob)) : List Ob := if okK ss K = true then obsM ss K else l
def slA (ss : List (List Bool)) (K : List (Nat × Ob)) : List Int × Int := if okK ss K = true then (begs 0 (obsK K), 0) else ([], 1)
theorem pl_slideH {K : List (Nat × Ob)} (h : TwoV n0 X w p q most l ss m tt) (hrf : RefsOk ss l) (hK : KOk l K) {B : Nat} (vk : Value) (hv : NOwn w B vk (keysK K)) : Calls Try.prog 23 #[.pointer (some ⟨p, 0, none⟩), vk] w fun e w' => ∃ v, e = .returned (.tuple #[v, .int .i64 (slA ss K).2]) ∧ NOwn w' w.heap.size v (slA ss K).1 ∧ TwoV n0 X w' p q most (slL ss l K) ss m tt ∧ TwoS n0 X w w' := by
  have h' := h
  obtain ⟨H, R, rfl, rfl, hh, hr, hd, hx⟩ := h
  unfold slA slL
  refine (Slide_any hh hrf hK vk (KV.of_own hh.raw hv)).mono fun e w' he => ?_
  rcases he with ⟨a, b, c⟩ | ⟨a, v, b, H', c, d, f⟩
  · rw [a]
    exact ⟨.slice none 0 0, b, NOwn.nil _ _, h'.below c⟩
  · rw [a]
    exact ⟨v, b, c, two_hstep hh hr hd hx d f⟩
theorem pl_slideR {K : List (Nat × Ob)} (h : TwoV n0 X w p q most l ss m tt) (hrf : RefsOk tt m) (hK : KOk m K) (vk : Value) (hv : NView w vk (keysK K)) : Calls Try.prog 24 #[.pointer (some ⟨q, 0, none⟩), vk] w fun e w' => ∃ v, e = .returned (.tuple #[v, .int .i64 (slA tt K).2]) ∧ NOwn w' w.heap.size v (slA tt K).1 ∧ TwoV n0 X w' p q most l ss (slL tt m K) tt ∧ TwoS n0 X w w' := by
  have h' := h
  obtain ⟨H, R, rfl, rfl, hh, hr, hd, hx⟩ := h
  unfold slA slL
  refine (uslide_any hr hrf hK vk hv).mono fun e w' he => ?_
  rcases he with ⟨a, b, c⟩ | ⟨a, v, b, R', c, d, f⟩
  · rw [a]
    exact ⟨.slice none 0 0, b, NOwn.nil _ _, h'.below c⟩
  · rw [a]
    exact ⟨v, b, c, two_rstep hh hr hd hx d f⟩
theorem pairA_len : ∀ (l : List Ob) (p : Nat), (pairA p l).length = l.length
  | [], p => rfl
  | o :: l, p => by simp [pairA, pairA_len l]
theorem NOwn.shape {v : Value} {B n : Nat} {xs : List Int} (h : NOwn w B v xs) (hn : xs.length = n) : ∃ a c, v = .slice a n c := by
  obtain ⟨a, c, e⟩ := own_slice h
  rw [hn] at e
  exact ⟨a, c, e⟩
theorem mark_yes {P : Program} {f : FuncId} {args : Array Value} {w : World} {b : Bool} {N : Ending → World → Prop} {Q : Ending → World → Prop} (h : Calls P f args w fun e w' => (b = false ∧ N e w') ∨ (b = true ∧ Q e w')) (hb : b = true) : Calls P f args w Q :=
  h.mono fun e w' he => by
    rcases he with ⟨a, _⟩ | ⟨_, c⟩
    · rw [hb] at a; cases a
    · exact c
variable {w' : World} {roots : List Int} {K : List (Nat × Ob)}
theorem two_usedR (h : TwoV n0 X w p q most l ss m tt) : Calls Try.prog 55 #[.pointer (some ⟨q, 0, none⟩)] w fun e w' => e = .returned (.int .i64 (usedN m : Int)) ∧ w' = w := by
  obtain ⟨H, R, rfl, rfl, hh, hr, hd, hx⟩ := h
  exact uused_any hr
theorem two_allR (h : TwoV n0 X w p q most l ss m tt) {n : Nat} (hn : m.length = n) : Calls Try.prog 10 #[.pointer (some ⟨q, 0, none⟩)] w fun e w' => ∃ a c, e = .returned (.slice a n c) ∧ NOwn w' w.heap.size (.slice a n c) (begs 0 m) ∧ Below w.heap.size w w' := by
  obtain ⟨H, R, rfl, rfl, hh, hr, hd, hx⟩ := h
  exact (uall_any hr).mono fun e w' ⟨v, e1, e2, e3⟩ => by
    obtain ⟨a, c, rfl⟩ := e2.shape (by rw [begs_len, hn])
    exact ⟨a, c, e1, e2, e3⟩
theorem two_usedH (h : TwoV n0 X w p q most l ss m tt) : Calls Try.prog 33 #[.pointer (some ⟨p, 0, none⟩)] w fun e w' => e = .returned (.int .i64 (usedN l : Int)) ∧ w' = w := by
  obtain ⟨H, R, rfl, rfl, hh, hr, hd, hx⟩ := h
  exact used_any hh
theorem two_allH (h : TwoV n0 X w p q most l ss m tt) {n : Nat} (hn : l.length = n) : Calls Try.prog 36 #[.pointer (some ⟨p, 0, none⟩)] w fun e w' => ∃ a c, e = .returned (.slice a n c) ∧ NOwn w' w.heap.size (.slice a n c) (begs 0 l) ∧ Below w.heap.size w w' := by
  obtain ⟨H, R, rfl, rfl, hh, hr, hd, hx⟩ := h
  exact (All_any hh).mono fun e w' ⟨v, e1, e2, e3⟩ => by
    obtain ⟨a, c, rfl⟩ := e2.shape (by rw [begs_len, hn])
    exact ⟨a, c, e1, e2, e3⟩
theorem two_gtagH (h : TwoV n0 X w p q most l ss m tt) (v : Int) : Calls Try.prog 37 #[.pointer (some ⟨p, 0, none⟩), .int .i64 v] w fun e w' => e = .returned (.int .i64 (tagZ l v)) ∧ w' = w := by
  obtain ⟨H, R, rfl, rfl, hh, hr, hd, hx⟩ := h
  exact Tag_any hh v
theorem two_gtagR (h : TwoV n0 X w p q most l ss m tt) (v : Int) : Calls Try.prog 60 #[.pointer (some ⟨q, 0, none⟩), .int .i64 v] w fun e w' => e = .returned (.int .i64 (tagZ m v)) ∧ w' = w := by
  obtain ⟨H, R, rfl, rfl, hh, hr, hd, hx⟩ := h
  exact utag_any hr v
theorem two_shpH (h : TwoV n0 X w p q most l ss m tt) (v : Int) : Calls Try.prog 58 #[.pointer (some ⟨p, 0, none⟩), .int .i64 v] w fun e w' => e = .returned (.int .i64 (shpZ l v)) ∧ w' = w := by
  obtain ⟨H, R, rfl, rfl, hh, hr, hd, hx⟩ := h
  exact ShapeOf_any hh v
theorem two_shpR (h : TwoV n0 X w p q most l ss m tt) (v : Int) : Calls Try.prog 59 #[.pointer (some ⟨q, 0, none⟩), .int .i64 v] w fun e w' => e = .returned (.int .i64 (shpZ m v)) ∧ w' = w := by
  obtain ⟨H, R, rfl, rfl, hh, hr, hd, hx⟩ := h
  exact ushp_any hr v
theorem two_getH (h : TwoV n0 X w p q most l ss m tt) (v n : Int) (hn : hasZ l v n = true) : Calls Try.prog 61 #[.pointer (some ⟨p, 0, none⟩), .int .i64 v, .int .i64 n] w fun e w' => e = .returned (.tuple #[.int .i64 (getZ l v n), .int .i64 0]) ∧ Below w.heap.size w w' := by
  obtain ⟨H, R, rfl, rfl, hh, hr, hd, hx⟩ := h
  exact get_yes hh v n hn
theorem two_getR (h : TwoV n0 X w p q most l ss m tt) (v n : Int) (hn : hasZ m v n = true) : Calls Try.prog 62 #[.pointer (some ⟨q, 0, none⟩), .int .i64 v, .int .i64 n] w fun e w' => e = .returned (.tuple #[.int .i64 (getZ m v n), .int .i64 0]) ∧ w' = w := by
  obtain ⟨H, R, rfl, rfl, hh, hr, hd, hx⟩ := h
  exact uget_yes hr v n hn
theorem two_markR (h : TwoV n0 X w p q most l ss m tt) (hr : RefsOk tt m) (vr : Value) (hv : NView w vr roots) (hrl : roots.length ≤ 1000000) (ha : roots.all (rootB m) = true) : Calls Try.prog 22 #[.pointer (some ⟨q, 0, none⟩), vr] w fun e w' => ∃ K a c, RchK tt m roots K ∧ e = .returned (.tuple #[.slice a K.length c, .bool true]) ∧ NOwn w' w.heap.size (.slice a K.length c) (keysK K) ∧ Below w.heap.size w w' := by
  obtain ⟨H, R, rfl, rfl, hh, hr2, hd, hx⟩ := h
  have hm2 : usedN m ≤ 16384 := Nat.le_trans hr2.few hr2.most
  exact (mark_yes (umark_any hr2 hr vr hv (by omega)) ha).mono fun e w' ⟨v, e1, K, hK, hn, hb⟩ => by
    obtain ⟨a, c, rfl⟩ := hn.shape (keysK_len K)
    exact ⟨K, a, c, hK, e1, hn, hb⟩
end Go.Proofs.Ytepegebkjegjiaa.J
