/- Slide of the document's own heap: walked. -/
import Derived.Test.YtepegebkjegjiaaUL
namespace Go.Proofs.Ytepegebkjegjiaa.J
open Go.RowKit Go.MapKept Go.ChangeMaps
set_option linter.unusedVariables false

variable {n0 : Nat} {w : World} {R : RB} {most : Nat} {l : List Ob} {ss : List (List Bool)} {K : List (Nat × Ob)}
theorem hasI_key (hK : KOk l K) {i p : Nat} {o : Ob} (hi : K[i]? = some (p, o)) : hasI (keysK K) ((p : Int) + 1) = (i : Int) :=
  hasI_some (keysK_at hi) (fun j hj e => by
    simp only [keysK, List.getElem?_map, Option.map_eq_some_iff] at e
    obtain ⟨⟨p', o'⟩, h1, h2⟩ := e
    have := hK.lt h1 hi hj
    simp only at h2
    omega)
theorem toA_has (hK : KOk l K) {x : Int} (hx : 0 ≤ x) (h : toA 0 K x.toNat ≠ 0) : ∃ (i p : Nat) (o : Ob), K[i]? = some (p, o) ∧ hasI (keysK K) x = (i : Int) ∧ i < K.length ∧ (begs 0 (obsK K))[i]? = some (toA 0 K x.toNat) := by
  obtain ⟨i, p, o, h1, h2, h3⟩ := toA_mem K 0 x.toNat h
  have hil := (List.getElem?_eq_some_iff.1 h1).1
  refine ⟨i, p, o, h1, ?_, hil, ?_⟩
  · rw [show x = (p : Int) + 1 by omega]
    exact hasI_key hK h1
  · rw [begs_at _ _ _ (by rw [obsK_len]; exact hil), h3]
theorem hasI_not {x : Int} (hx : 0 ≤ x) (h : toA 0 K x.toNat = 0) : hasI (keysK K) x < 0 := by
  apply Classical.byContradiction
  intro hn
  have := hasI_ge.1 (by omega : 0 ≤ hasI (keysK K) x)
  obtain ⟨⟨p, o⟩, h1, h2⟩ := List.mem_map.1 this
  obtain ⟨i, hi⟩ := List.getElem?_of_mem h1
  have h4 : ∀ (K : List (Nat × Ob)) (q : Nat), (p, o) ∈ K → toA q K (p + 1) ≠ 0 := by
    intro K
    induction K with
    | nil => intro q h; simp at h
    | cons y K ih =>
      intro q hm
      obtain ⟨p', o'⟩ := y
      unfold toA
      split
      · omega
      · rcases List.mem_cons.1 hm with e | e
        · cases e; rename_i hne; exact absurd rfl hne
        · exact ih _ e
  have e : x.toNat = p + 1 := by simp only at h2; omega
  rw [e] at h
  exact h4 K 0 h1 h
theorem leadK_has (hK : KOk l K) {x : Int} (hx : 0 ≤ x) (h0 : x ≠ 0) : leadK K x = !decide (hasI (keysK K) x < 0) := by
  unfold leadK
  have : (x == 0) = false := by simpa using h0
  rw [this, Bool.false_or]
  by_cases h : toA 0 K x.toNat = 0
  · rw [h, decide_eq_true (hasI_not hx h)]; rfl
  · obtain ⟨i, p, o, _, h2, _⟩ := toA_has hK hx h
    rw [h2, decide_eq_false (by omega)]
    simpa using h
theorem RefsOk.bound (h : RefsOk ss l) {p : Nat} {o : Ob} (ho : atN l p = some o) {n : Nat} {x : Int} (hx : o.f[n]? = some x) (hr : rb ss o.sh n = true) : 0 ≤ x ∧ x ≤ usedN l := by
  rcases h p o ho n x hx hr with e | e
  · omega
  · obtain ⟨o', ho'⟩ := Option.isSome_iff_exists.1 e
    have := objZ_in ho'
    omega
/-- What is read of an object that is kept. -/
def KRd (w : World) (R : RB) (ss : List (List Bool)) (K : List (Nat × Ob)) : Prop :=
  ∀ (i p : Nat) (o : Ob), K[i]? = some (p, o) → ∃ (i0 g : Nat) (ua : Option Addr) (uc : Nat), o.f.length ≤ uc ∧ uc ≤ 9223372036854775807 ∧ o.f.length ≤ 16384 ∧
    (∀ W, Below w.heap.size w W → Calls Try.prog 45 #[.pointer (some ⟨R.rb, 0, none⟩), .int .i64 ((p : Int) + 1)] W fun e w' => e = .returned (.pointer (some ⟨g, i0 * 4, none⟩)) ∧ w' = W) ∧
    (∀ W, Below w.heap.size w W → W.cell? ⟨g, i0 * 4, none⟩ = some (.int .i64 ((p : Int) + 1)) ∧ W.cell? ⟨g, i0 * 4 + 1, none⟩ = some (.int .i64 o.sh) ∧ W.cell? ⟨g, i0 * 4 + 2, none⟩ = some (.slice ua o.f.length uc) ∧ W.cell? ⟨g, i0 * 4 + 3, none⟩ = some (.int .i64 o.tag)) ∧
    (∀ (k : Nat) x, o.f[k]? = some x → ∃ fb, ua = some ⟨fb, 0, none⟩ ∧ ∀ W, Below w.heap.size w W → W.cell? ⟨fb, k, none⟩ = some (.int .i64 x)) ∧
    (∀ W (n : Nat), n < o.f.length → Below w.heap.size w W → Calls Try.prog 46 #[.pointer (some ⟨R.rb, 0, none⟩), .int .i64 ((p : Int) + 1), .int .i64 (n : Int)] W fun e w' => e = .returned (.bool (rb ss o.sh n)) ∧ ∃ q, w' = W.drewN q)
theorem KRd.of (h : RV n0 w R most l ss) (hK : KOk l K) : KRd w R ss K := by
  intro i p o hi
  have ho := hK.obj hi
  obtain ⟨i0, hi0, hp⟩ := objZ_idx ho
  obtain ⟨g, cap, u, el, hu, c0, c1, c2, c3, -⟩ := h.obj hi0
  have hfo := h.fo i0 u o hu hi0
  obtain ⟨ua, uc, eu⟩ := own_slice hfo
  subst eu
  obtain ⟨b1, b2⟩ := own_cap hfo
  unfold maxLen at b2
  have b3 := usedN_take l i0 o hi0
  have := h.few
  have := h.most
  rw [← hp] at c0
  refine ⟨i0, g, ua, uc, b1, by omega, by omega, fun W hb => ?_, fun W hb => ⟨cell_later hb c0, cell_later hb c1, cell_later hb c2, cell_later hb c3⟩, fun k x hx => ?_, fun W n hn hb => ?_⟩
  · rw [hp]; exact ufind_some (h.below hb) hi0 el
  · obtain ⟨fb, e1, -, -, hc, -⟩ := own_cell hfo (icells_at hx)
    exact ⟨fb, e1, fun W hb => cell_later hb hc⟩
  · have := uisref_yes (h.below hb) ((p : Int) + 1) (n : Int) (hasZ_of ho (by omega) (by omega))
    rw [refZ_rb ho hn] at this
    exact this
end Go.Proofs.Ytepegebkjegjiaa.J

