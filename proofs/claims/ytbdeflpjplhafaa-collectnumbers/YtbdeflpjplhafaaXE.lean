/- CollectLike, pure: what was collected is paired with what it was. -/
import Derived.Test.YtbdeflpjplhafaaXA
namespace Go.Proofs.Ytbdeflpjplhafaa.J
open Go.RowKit Go.MapKept Go.ChangeMaps
set_option linter.unusedVariables false

variable {ss : List (List Bool)} {l : List Ob} {roots : List Int} {K K2 : List (Nat × Ob)} {s1 s2 : List (List Bool)} {l1 l2 : List Ob} {ra rb' : List Int}
theorem VR.refl (ss : List (List Bool)) (l : List Ob) (ra : List Int) : VR ss l ss l ra ra (fun a b => a = b) :=
  ⟨rfl, fun h1 h2 => h1.symm.trans h2, fun h1 h2 => h1.trans h2.symm, fun {x y} h => by
    subst h
    exact ⟨rfl, rfl, rfl, fun n hn => ⟨rfl, by split <;> rfl⟩⟩, fun h1 h2 => by rw [h1] at h2; exact Option.some.inj h2⟩
theorem alk.symm {R : Int → Int → Prop} {x y : Int} (h : alk s1 l1 s2 l2 R x y) : alk s2 l2 s1 l1 (fun a b => R b a) y x := by
  obtain ⟨a, b, c, d⟩ := h
  refine ⟨a.symm, b.symm, c.symm, fun n hn => ?_⟩
  obtain ⟨e, f⟩ := d n (by rw [b]; exact hn)
  refine ⟨e.symm, ?_⟩
  rw [← e]
  by_cases h : refZ s1 l1 x (n : Int) = true
  · rw [if_pos h] at f ⊢; exact f
  · rw [if_neg h] at f ⊢; exact f.symm
theorem VR.symm {R : Int → Int → Prop} (h : VR s1 l1 s2 l2 ra rb' R) : VR s2 l2 s1 l1 rb' ra (fun a b => R b a) :=
  ⟨h.z, fun h1 h2 => h.inj h1 h2, fun h1 h2 => h.fn h1 h2, fun h1 => (h.al h1).symm, fun h1 h2 => h.ro h2 h1⟩
theorem moved_obj (h : KOk l K) {v : Int} (hv : v ∈ keysK K) : ∃ (i p : Nat) (o : Ob), K[i]? = some (p, o) ∧ v = (p : Int) + 1 ∧ objZ l v = some o ∧ toA 0 K v.toNat = (usedN ((obsM ss K).take i) : Int) + 1 ∧ objZ (obsM ss K) (toA 0 K v.toNat) = some (mvO ss K o) := by
  have hp := toA_in K 0 v hv
  obtain ⟨i, p, o, h1, h2, h3⟩ := toA_mem K 0 v.toNat (by omega)
  obtain ⟨⟨p', o'⟩, h4, h5⟩ := List.mem_map.1 hv
  have he : v = (p : Int) + 1 := by simp only at h5; omega
  rw [Nat.zero_add, ← usedN_obsM ss K] at h3
  refine ⟨i, p, o, h1, he, by rw [he]; exact h.obj h1, h3, ?_⟩
  rw [h3]
  exact objZ_nth (obsM_at h1)
theorem begs_rise : ∀ (l : List Ob) (p : Nat), (begs p l).Pairwise (· < ·) := fun l p => by
  rw [← pairA_keys]
  unfold keysK
  exact List.Pairwise.map _ (fun a b h => by omega) (pairA_rise l p)
theorem usedN_take_inj (l : List Ob) {i j : Nat} (hi : i < l.length) (hj : j < l.length) (h : usedN (l.take i) = usedN (l.take j)) : i = j := by
  have h1 := begs_at l 0 i hi
  have h2 := begs_at l 0 j hj
  rw [← h] at h2
  have hr := begs_rise l 0
  rcases Nat.lt_trichotomy i j with e | e | e
  · have := (List.pairwise_iff_getElem.1 hr) i j (by rw [begs_len]; exact hi) (by rw [begs_len]; exact hj) e
    rw [(List.getElem?_eq_some_iff.1 h1).2, (List.getElem?_eq_some_iff.1 h2).2] at this
    omega
  · exact e
  · have := (List.pairwise_iff_getElem.1 hr) j i (by rw [begs_len]; exact hj) (by rw [begs_len]; exact hi) e
    rw [(List.getElem?_eq_some_iff.1 h1).2, (List.getElem?_eq_some_iff.1 h2).2] at this
    omega
/-- Where it is beside where it was. -/
def mvR (K : List (Nat × Ob)) (p v : Int) : Prop := (v = 0 ∧ p = 0) ∨ (v ∈ keysK K ∧ p = toA 0 K v.toNat)
theorem mvR_of {v : Int} (h : v = 0 ∨ v ∈ keysK K) : mvR K (toA 0 K v.toNat) v := by
  rcases h with rfl | h
  · exact .inl ⟨rfl, toA_zero [] K 0⟩
  · exact .inr ⟨h, rfl⟩
theorem getZ_of {l : List Ob} {v : Int} {o : Ob} (h : objZ l v = some o) {n : Nat} {y : Int} (hy : o.f[n]? = some y) : getZ l v (n : Int) = y := by
  unfold getZ; rw [h]; simp [hy]
theorem alk_moved (h : RchK ss l roots K) {v : Int} (hv : v ∈ keysK K) : alk ss (obsM ss K) ss l (mvR K) (toA 0 K v.toNat) v := by
  obtain ⟨i, p, o, h1, h2, h3, h4, h5⟩ := moved_obj (ss := ss) h.ok hv
  have hl : (mvO ss K o).f.length = o.f.length := mvN_len _ _ _ _
  refine ⟨by unfold shpZ; rw [h3, h5]; rfl, by unfold lenZ; rw [h3, h5]; simp only [hl], by unfold tagZ; rw [h3, h5]; rfl, fun n hn => ?_⟩
  unfold lenZ at hn
  rw [h5] at hn
  simp only [hl] at hn
  have hn' : n < o.f.length := by omega
  have e1 := refZ_rb (ss := ss) h5 (n := n) (by rw [hl]; exact hn')
  have e2 := refZ_rb (ss := ss) h3 hn'
  obtain ⟨y, hy⟩ : ∃ y, o.f[n]? = some y := ⟨o.f[n], List.getElem?_eq_getElem hn'⟩
  have hm : (mvO ss K o).f[n]? = some (if rb ss o.sh n = true then toA 0 K y.toNat else y) := by
    unfold mvO
    rw [mvN_at, hy]
    simp [hn']
  refine ⟨e1.trans e2.symm, ?_⟩
  rw [e1, getZ_of h5 hm, getZ_of h3 hy]
  have hsh : (mvO ss K o).sh = o.sh := rfl
  rw [hsh]
  by_cases e : rb ss o.sh n = true
  · rw [if_pos e, if_pos e]
    refine mvR_of ?_
    by_cases h0 : y = 0
    · exact .inl h0
    · exact .inr ((h.iff y).2 (.step ((h.iff v).1 hv) h3 hy e h0))
  · rw [if_neg e, if_neg e]
theorem movedL_at' {X : List Int} {k : Nat} {x : Int} (hx : X[k]? = some x) : (movedL K X)[k]? = some (toA 0 K x.toNat) := by simp [movedL, hx]
theorem VR.moved (h : RchK ss l roots K) : VR ss (obsM ss K) ss l (movedL K roots) roots (mvR K) := by
  refine ⟨.inl ⟨rfl, rfl⟩, ?_, ?_, ?_, ?_⟩
  · rintro p v v' (⟨rfl, rfl⟩ | ⟨h1, rfl⟩) (⟨rfl, h4⟩ | ⟨h3, h4⟩)
    · rfl
    · have := toA_in K 0 v' h3; omega
    · have := toA_in K 0 v h1; omega
    · obtain ⟨i, p, o, a1, a2, -, a4, -⟩ := moved_obj (ss := ss) h.ok h1
      obtain ⟨j, q, o', b1, b2, -, b4, -⟩ := moved_obj (ss := ss) h.ok h3
      rw [a4, b4] at h4
      have := usedN_take_inj (obsM ss K) (i := i) (j := j) (by rw [obsM_len]; exact (List.getElem?_eq_some_iff.1 a1).1) (by rw [obsM_len]; exact (List.getElem?_eq_some_iff.1 b1).1) (by omega)
      subst this
      rw [a1] at b1
      cases b1
      omega
  · rintro p p' v (⟨rfl, rfl⟩ | ⟨h1, rfl⟩) (⟨h3, rfl⟩ | ⟨h3, rfl⟩)
    · rfl
    · exact (toA_zero [] K 0).symm
    · subst h3; exact toA_zero [] K 0
    · rfl
  · rintro p v (⟨rfl, rfl⟩ | ⟨h1, rfl⟩)
    · exact alk_zero _
    · exact alk_moved h h1
  · intro i p v hi hj
    rw [movedL_at' hj] at hi
    cases hi
    refine mvR_of ?_
    by_cases h0 : v = 0
    · exact .inl h0
    · exact .inr ((h.iff v).2 (.root (List.mem_of_getElem? hj) h0))
/-- What is reached is reached, too, where it was moved to. -/
theorem Rch.moved (h : RchK ss l roots K) {v : Int} (hv : Rch ss l roots v) : Rch ss (obsM ss K) (movedL K roots) (toA 0 K v.toNat) := by
  induction hv with
  | root hx h0 =>
    rename_i x
    have hk := (h.iff x).2 (.root hx h0)
    have := toA_in K 0 x hk
    exact .root (List.mem_map_of_mem (f := fun x => toA 0 K x.toNat) hx) (by omega)
  | step hx ho hy hr h0 ih =>
    rename_i x y o n
    have hk := (h.iff x).2 hx
    have hky := (h.iff y).2 (.step hx ho hy hr h0)
    obtain ⟨i, p, o', h1, h2, h3, h4, h5⟩ := moved_obj (ss := ss) h.ok hk
    rw [ho] at h3
    cases h3
    have := toA_in K 0 y hky
    have hn := (List.getElem?_eq_some_iff.1 hy).1
    exact .step ih h5 (n := n) (by unfold mvO; rw [mvN_at, hy]; simp [hn, hr]) hr (by omega)
theorem keys_begs (h : RchK ss l roots K) (h2 : RchK ss (obsM ss K) (movedL K roots) K2) : keysK K2 = begs 0 (obsM ss K) := by
  refine rise_ext _ _ h2.ok.keys (begs_rise _ _) fun x => ⟨fun hx => ?_, fun hx => ?_⟩
  · obtain ⟨y, hy, rfl⟩ := List.mem_map.1 hx
    obtain ⟨i, a, b⟩ := objZ_idx (h2.ok.obj (List.getElem?_of_mem hy).choose_spec)
    have h3 := begs_at (obsM ss K) 0 i (List.getElem?_eq_some_iff.1 a).1
    rw [Nat.zero_add, ← b] at h3
    exact List.mem_of_getElem? h3
  · obtain ⟨i, hi⟩ := List.getElem?_of_mem hx
    have hl := (List.getElem?_eq_some_iff.1 hi).1
    rw [begs_len] at hl
    have h3 := begs_at (obsM ss K) 0 i hl
    rw [hi, Nat.zero_add] at h3
    cases h3
    rw [obsM_len] at hl
    obtain ⟨⟨p, o⟩, hp⟩ : ∃ x, K[i]? = some x := ⟨K[i], List.getElem?_eq_getElem hl⟩
    have hk : (p : Int) + 1 ∈ keysK K := List.mem_of_getElem? (keysK_at hp)
    obtain ⟨j, q, o', a1, a2, -, a4, -⟩ := moved_obj (ss := ss) h.ok hk
    have hij : i = j := by
      rcases Nat.lt_trichotomy i j with e | e | e
      · have := h.ok.lt hp a1 e; omega
      · exact e
      · have := h.ok.lt a1 hp e; omega
    subst hij
    rw [← a4]
    exact (h2.iff _).2 (Rch.moved h ((h.iff _).1 hk))
theorem KOk.ext : ∀ {K K' : List (Nat × Ob)}, (∀ x ∈ K, atN l x.1 = some x.2) → (∀ x ∈ K', atN l x.1 = some x.2) → keysK K = keysK K' → K = K'
  | [], [], _, _, _ => rfl
  | [], y :: K', _, _, h => by simp [keysK] at h
  | x :: K, [], _, _, h => by simp [keysK] at h
  | (p, o) :: K, (q, o') :: K', h1, h2, h => by
    simp only [keysK, List.map_cons, List.cons.injEq] at h
    have e : p = q := by omega
    subst e
    have a := h1 _ List.mem_cons_self
    have b := h2 _ List.mem_cons_self
    simp only at a b
    rw [a] at b
    cases b
    rw [KOk.ext (fun x hx => h1 x (List.mem_cons_of_mem _ hx)) (fun x hx => h2 x (List.mem_cons_of_mem _ hx)) h.2]
theorem kept_all (h : RchK ss l roots K) (h2 : RchK ss (obsM ss K) (movedL K roots) K2) : K2 = pairA 0 (obsM ss K) :=
  KOk.ext h2.ok.at_ (fun x hx => by have := ((pairA_at (obsM ss K) 0 x).1 hx).2; simpa using this) (by rw [keys_begs h h2, pairA_keys])
theorem toA_same : ∀ (l : List Ob) (q : Nat) (x : Int), x ∈ begs q l → toA q (pairA q l) x.toNat = x
  | [], q, x, h => by simp [begs] at h
  | o :: l, q, x, h => by
    simp only [begs, List.mem_cons] at h
    unfold pairA toA
    rcases h with rfl | h
    · rw [if_pos (by omega)]
    · have hx : q + (o.f.length + 3) < x.toNat := by
        obtain ⟨i, hi⟩ := List.getElem?_of_mem h
        have hl := (List.getElem?_eq_some_iff.1 hi).1
        rw [begs_len] at hl
        rw [begs_at l _ i hl] at hi
        cases hi
        omega
      rw [if_neg (by omega)]
      exact toA_same l _ x h
theorem obj_beg {x : Int} (h : (objZ l x).isSome = true) : x ∈ begs 0 l := by
  obtain ⟨o, ho⟩ := Option.isSome_iff_exists.1 h
  obtain ⟨i, h1, h2⟩ := objZ_idx ho
  have h3 := begs_at l 0 i (List.getElem?_eq_some_iff.1 h1).1
  rw [Nat.zero_add, ← h2] at h3
  exact List.mem_of_getElem? h3
theorem toA_id {x : Int} (h : x = 0 ∨ (objZ l x).isSome = true) : toA 0 (pairA 0 l) x.toNat = x := by
  rcases h with rfl | h
  · exact toA_zero [] _ 0
  · exact toA_same l 0 x (obj_beg h)
theorem movedL_id {X : List Int} (h : X.all (rootB l) = true) : movedL (pairA 0 l) X = X := by
  unfold movedL
  refine Eq.trans ?_ (List.map_id X)
  exact List.map_congr_left fun x hx => toA_id (rootB_iff.1 (List.all_eq_true.1 h x hx))
theorem obsK_pair : ∀ (l : List Ob) (q : Nat), obsK (pairA q l) = l
  | [], q => rfl
  | o :: l, q => by
    have := obsK_pair l (q + (o.f.length + 3))
    unfold obsK at this
    simp [pairA, obsK, this]
theorem obsM_id (h : RefsOk ss l) : obsM ss (pairA 0 l) = l := by
  rw [obsM_eq, obsK_pair]
  refine Eq.trans ?_ (List.map_id l)
  refine List.map_congr_left fun o ho => ?_
  obtain ⟨i, hi⟩ := List.getElem?_of_mem ho
  have hz := objZ_at (objZ_nth hi)
  refine Ob.ext' rfl rfl fun j => ?_
  show (mvN ss (pairA 0 l) o.f.length o).f[j]? = o.f[j]?
  rw [mvN_at]
  cases e : o.f[j]? with
  | none => rfl
  | some y =>
    have hj := (List.getElem?_eq_some_iff.1 e).1
    simp only [Option.map_some, Option.some.injEq]
    by_cases hr : rb ss o.sh j = true
    · rw [if_pos ⟨hj, hr⟩]
      exact toA_id (h _ o hz j y e hr)
    · rw [if_neg (fun h => hr h.2)]
theorem moved_root (h : RchK ss l roots K) : (movedL K roots).all (rootB (obsM ss K)) = true := by
  rw [List.all_eq_true]
  intro x hx
  obtain ⟨v, hv, rfl⟩ := List.mem_map.1 hx
  rw [rootB_iff]
  by_cases h0 : v = 0
  · subst h0; exact .inl (toA_zero [] K 0)
  · obtain ⟨i, p, o, h1, h2, h3, h4, h5⟩ := moved_obj (ss := ss) h.ok ((h.iff v).2 (.root hv h0))
    exact .inr (by rw [h5]; rfl)
theorem objZ_tag (l : List Ob) (k t x : Int) (hk : 1 ≤ k) : objZ (setTagL l k t) x = if x = k then (objZ l x).map (setT t) else objZ l x := by
  unfold objZ setTagL
  by_cases h1 : 1 ≤ x
  · rw [if_pos h1, if_pos h1, atN_mod (setT t) (fun _ => rfl)]
    by_cases e : x = k
    · rw [if_pos e, if_pos (by rw [e])]
    · rw [if_neg e, if_neg (by omega)]
  · rw [if_neg h1, if_neg h1]
    split <;> rfl
/-- With one tag turned nothing is beside it. -/
theorem no_tag (h : RchK ss l roots K) {k t : Int} (hk : k ∈ begs 0 (obsM ss K)) (ht : t ≠ tagZ (obsM ss K) k) (R : Int → Int → Prop) : ¬ VR ss (setTagL (obsM ss K) k t) ss l (movedL K roots) roots R := fun hR => by
  obtain ⟨i, hi⟩ := List.getElem?_of_mem hk
  have hl := (List.getElem?_eq_some_iff.1 hi).1
  rw [begs_len] at hl
  have h3 := begs_at (obsM ss K) 0 i hl
  rw [hi, Nat.zero_add] at h3
  obtain rfl := Option.some.inj h3
  have hk1 : (1 : Int) ≤ (usedN ((obsM ss K).take i) : Int) + 1 := by omega
  generalize hkk : (usedN ((obsM ss K).take i) : Int) + 1 = k at *
  have all : ∀ v, Rch ss l roots v → R (toA 0 K v.toNat) v := fun v hv => by
    induction hv with
    | root hx h0 =>
      obtain ⟨j, hj⟩ := List.getElem?_of_mem hx
      exact hR.ro (movedL_at' hj) hj
    | step hx ho hy hr h0 ih =>
      rename_i x y o n
      have hkx := (h.iff x).2 hx
      obtain ⟨i', p, o', h1, h2, h3, h4, h5⟩ := moved_obj (ss := ss) h.ok hkx
      rw [ho] at h3
      cases h3
      have hn := (List.getElem?_eq_some_iff.1 hy).1
      obtain ⟨o2, a1, a2, a3⟩ : ∃ o2, objZ (setTagL (obsM ss K) k t) (toA 0 K x.toNat) = some o2 ∧ o2.f = (mvO ss K o).f ∧ o2.sh = o.sh := by
        rw [objZ_tag _ _ _ _ hk1, h5]
        by_cases e : toA 0 K x.toNat = k
        · rw [if_pos e]; exact ⟨_, rfl, rfl, rfl⟩
        · rw [if_neg e]; exact ⟨_, rfl, rfl, rfl⟩
      have hl2 : o2.f.length = o.f.length := by rw [a2]; exact mvN_len _ _ _ _
      have hal := (hR.al ih).2.2.2 n (by unfold lenZ; rw [a1]; simp only; omega)
      have hm : o2.f[n]? = some (toA 0 K y.toNat) := by
        rw [a2]
        unfold mvO
        rw [mvN_at, hy]
        simp [hn, hr]
      have e1 := refZ_rb (ss := ss) a1 (n := n) (by omega)
      rw [a3, hr] at e1
      have h6 := hal.2
      rw [if_pos e1, getZ_of a1 hm, getZ_of ho hy] at h6
      exact h6
  rw [obsM_len] at hl
  obtain ⟨⟨p, o⟩, hp⟩ : ∃ x, K[i]? = some x := ⟨K[i], List.getElem?_eq_getElem hl⟩
  have hkv : (p : Int) + 1 ∈ keysK K := List.mem_of_getElem? (keysK_at hp)
  obtain ⟨j, q, o', a1, a2, a3, a4, a5⟩ := moved_obj (ss := ss) h.ok hkv
  have hij : i = j := by
    rcases Nat.lt_trichotomy i j with e | e | e
    · have := h.ok.lt hp a1 e; omega
    · exact e
    · have := h.ok.lt a1 hp e; omega
  subst hij
  rw [hkk] at a4
  have hr := (hR.al (all _ ((h.iff _).1 hkv))).2.2.1
  rw [a4] at hr a5
  have b1 := objZ_tag (obsM ss K) k t k hk1
  rw [if_pos rfl, a5] at b1
  unfold tagZ at hr ht
  rw [b1, a3] at hr
  rw [a5] at ht
  simp only [Option.map_some, setT] at hr
  exact ht hr
end Go.Proofs.Ytbdeflpjplhafaa.J
