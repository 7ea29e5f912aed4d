/- Texts NS NT FCs FOv. -/
import Derived.Test.YtlnapfeglbdecaaBm24
import Derived.Test.YtlnapfeglbdecaaBm04
import Derived.Test.YtlnapfeglbdecaaBm07
namespace Go.Proofs.Ytlnapfeglbdecaa.M
open Go.RowKit

def szs : List LN → Nat
  | [] => 0
  | x :: r => (if 0 ≤ x.hr then 0 else sz x.op) + szs r
theorem szs_append (a b : List LN) : szs (a ++ b) = szs a + szs b := by
  induction a with
  | nil => simp [szs]
  | cons x a ih => simp only [List.cons_append, szs, ih]; omega
theorem szs_le (l : List LN) : szs l ≤ 3 * (l.filter (fun x => !decide (0 ≤ x.hr))).length := by
  induction l with
  | nil => simp [szs]
  | cons x r ih =>
    have := sz_le x.op
    simp only [szs, List.filter_cons]
    by_cases h : 0 ≤ x.hr
    · simp [h]; omega
    · simp [h]; omega
theorem plc_get : ∀ (ls : List LN) (p : Int) (ps : List Int) (i : Nat) (q : Int), (plc ls p ps)[i]? = some q → ps[i]? = some q ∨ ∃ a x c, ls = a ++ x :: c ∧ 0 ≤ x.hr ∧ x.hr.toNat = i ∧ q = p + (szs a : Nat)
  | [], p, ps, i, q, h => .inl h
  | x :: r, p, ps, i, q, h => by
    rw [plc_cons] at h
    by_cases hx : 0 ≤ x.hr
    · rw [if_pos hx] at h
      rcases plc_get r p _ i q h with h | ⟨a, y, c, e1, e2, e3, e4⟩
      · by_cases e : x.hr.toNat = i
        · subst e
          rw [List.getElem?_set] at h
          simp only [if_true] at h
          split at h
          · cases h
            exact .inr ⟨[], x, r, rfl, hx, rfl, by simp [szs]⟩
          · cases h
        · rw [List.getElem?_set_ne e] at h
          exact .inl h
      · exact .inr ⟨x :: a, y, c, by rw [e1]; rfl, e2, e3, by rw [e4]; simp [szs, hx]⟩
    · rw [if_neg hx] at h
      rcases plc_get r _ ps i q h with h | ⟨a, y, c, e1, e2, e3, e4⟩
      · exact .inl h
      · exact .inr ⟨x :: a, y, c, by rw [e1]; rfl, e2, e3, by rw [e4]; simp [szs, hx]; omega⟩
theorem cod_st (ps : List Int) : ∀ (a c : List LN) (p : Int), (∃ y ∈ c, ¬ 0 ≤ y.hr) → ∃ z ∈ cod ps (a ++ c) p, z.pl = p + (szs a : Nat)
  | [], [], _, ⟨y, h, _⟩ => by simp at h
  | [], x :: c, p, ⟨y, h, hy⟩ => by
    rw [List.nil_append, cod_cons]
    by_cases hx : 0 ≤ x.hr
    · rw [if_pos hx]
      have : y ∈ c := by
        rcases List.mem_cons.1 h with rfl | h
        · exact absurd hx hy
        · exact h
      have := cod_st ps [] c p ⟨y, this, hy⟩
      simpa using this
    · rw [if_neg hx]
      exact ⟨_, List.mem_cons_self, by simp [szs]⟩
  | x :: a, c, p, h => by
    rw [List.cons_append, cod_cons]
    by_cases hx : 0 ≤ x.hr
    · rw [if_pos hx]
      obtain ⟨z, h1, h2⟩ := cod_st ps a c p h
      exact ⟨z, h1, by rw [h2]; simp [szs, hx]⟩
    · rw [if_neg hx]
      obtain ⟨z, h1, h2⟩ := cod_st ps a c (p + (sz x.op : Nat)) h
      exact ⟨z, List.mem_cons_of_mem _ h1, by rw [h2]; simp [szs, hx]; omega⟩
theorem find_at {l : List IN} {p : Int} (h : ∃ z ∈ l, z.pl = p) : 0 ≤ findZ l p := by
  rcases findZ_cases l p with ⟨_, h2⟩ | ⟨k, x, h1, _⟩
  · obtain ⟨z, hz, hp⟩ := h
    exact absurd hp (h2 z hz)
  · omega
def Ended (σ : SG) : Prop := ∃ ls0 x, σ.ls = ls0 ++ [x] ∧ ¬ 0 ≤ x.hr
theorem Ended.behind {σ : SG} (h : Ended σ) {a c : List LN} {x : LN} (e : σ.ls = a ++ x :: c) (hx : 0 ≤ x.hr) : ∃ y ∈ c, ¬ 0 ≤ y.hr := by
  obtain ⟨ls0, z, h1, h2⟩ := h
  rw [h1] at e
  rcases List.eq_nil_or_concat c with e2 | ⟨c', y, e2⟩
  · subst e2
    have := List.append_inj_right' e rfl
    simp at this
    subst this
    exact absurd hx h2
  · rw [List.concat_eq_append] at e2
    subst e2
    have e3 : ls0 ++ [z] = (a ++ x :: c') ++ [y] := by rw [e]; simp
    have := List.append_inj_right' e3 rfl
    simp at this
    subst this
    exact ⟨z, by simp, h2⟩
theorem Ended.some {σ : SG} (h : Ended σ) : ∃ y ∈ σ.ls, ¬ 0 ≤ y.hr := by
  obtain ⟨ls0, z, h1, h2⟩ := h
  exact ⟨z, by rw [h1]; simp, h2⟩
theorem stands_at {σ : SG} (h : Ended σ) (i : Nat) : 0 ≤ findZ (codeZ σ) (((placesZ σ)[i]?).getD 0) := by
  have h0 : 0 ≤ findZ (codeZ σ) 0 := by
    have := cod_st (placesZ σ) [] σ.ls 0 h.some
    exact find_at (by simpa [codeZ, szs] using this)
  cases hq : (placesZ σ)[i]? with
  | none => exact h0
  | some q =>
    show 0 ≤ findZ (codeZ σ) q
    rcases plc_get σ.ls 0 _ i q hq with h1 | ⟨a, x, c, e1, e2, e3, e4⟩
    · rw [List.getElem?_replicate] at h1
      split at h1
      · cases h1; exact h0
      · cases h1
    · have hb := h.behind e1 e2
      have := cod_st (placesZ σ) (a ++ [x]) c 0 hb
      rw [List.append_assoc, List.singleton_append, ← e1] at this
      refine find_at ?_
      obtain ⟨z, hz1, hz2⟩ := this
      refine ⟨z, hz1, ?_⟩
      rw [hz2, e4, szs_append]
      simp [szs, e2]
theorem place_small {σ : SG} (h : szs σ.ls ≤ 1000) (i : Nat) : 0 ≤ ((placesZ σ)[i]?).getD 0 ∧ ((placesZ σ)[i]?).getD 0 ≤ 1000 := by
  cases hq : (placesZ σ)[i]? with
  | none => exact ⟨Int.le_refl 0, by decide⟩
  | some q =>
    show 0 ≤ q ∧ q ≤ 1000
    rcases plc_get σ.ls 0 _ i q hq with h1 | ⟨a, x, c, e1, e2, e3, e4⟩
    · rw [List.getElem?_replicate] at h1
      split at h1
      · cases h1; omega
      · cases h1
    · have : szs a ≤ szs σ.ls := by rw [e1, szs_append]; omega
      omega
theorem fits_pl {op a b : Int} (p : Int) (h6 : kd op ≠ 6) : fitsB ⟨p, op, a, b⟩ = fitsB ⟨0, op, a, b⟩ := by
  unfold fitsB
  dsimp only
  split <;> first | rfl | (rename_i h; exact absurd h h6)
theorem cod_enc (ps : List Int) (hps : ∀ i : Nat, 0 ≤ (ps[i]?).getD 0 ∧ (ps[i]?).getD 0 ≤ 1000) : ∀ (ls : List LN) (p : Nat) (out : List Int), (∀ x ∈ ls, LOk x) → out.length = p → p + szs ls ≤ 1000 → ∃ b, encL (cod ps ls (p : Int)) out = (b, 0)
  | [], p, out, _, ho, hp => ⟨out, by
    unfold cod encL
    rw [if_neg (by simp [szs] at hp; omega)]⟩
  | x :: r, p, out, hl, ho, hp => by
    have hx := hl x (by simp)
    have hr : ∀ y ∈ r, LOk y := fun y hy => hl y (by simp [hy])
    rw [cod_cons]
    simp only [szs] at hp
    rcases hx with ⟨h1, h2⟩ | ⟨h1, h2, h3, h4, h5⟩ | ⟨h1, h2, h3, h4, h5⟩
    · rw [if_pos h1] at hp ⊢
      exact cod_enc ps hps r p out hr ho (by omega)
    · rw [if_neg (by omega)] at hp
      rw [if_neg (by omega), if_neg (by omega)]
      unfold encL
      rw [if_neg h3, if_neg (by simp [ho]), if_neg (by rw [fits_pl _ h4, h5]; decide)]
      have := cod_enc ps hps r (p + sz x.op) (out ++ oneB ⟨(p : Int), x.op, x.a, x.b⟩) hr (by rw [List.length_append, one_len _ h3, ho]) (by omega)
      rw [Int.natCast_add] at this
      exact this
    · have hk : kd x.op ≠ 0 := by rw [h3]; decide
      rw [if_neg (by omega)] at hp
      rw [if_neg (by omega), if_pos h2]
      unfold encL
      have hq := hps x.lb.toNat
      rw [if_neg hk, if_neg (by simp [ho]), if_neg (by
        unfold fitsB
        dsimp only
        rw [h3]
        simp only [decide_eq_false_iff_not, Classical.not_not]
        exact ⟨h5, by omega, by omega⟩)]
      have := cod_enc ps hps r (p + sz x.op) (out ++ oneB ⟨(p : Int), x.op, (ps[x.lb.toNat]?).getD 0, x.b⟩) hr (by rw [List.length_append, one_len _ hk, ho]) (by omega)
      rw [Int.natCast_add] at this
      exact this
theorem made_szs {pool : List CD} {σ : SG} (h : Made pool σ) : szs σ.ls ≤ 390 := by
  have h1 := szs_le σ.ls
  have h2 := h.ins
  unfold SG.ins at h2
  omega
theorem made_back {pool : List CD} {σ : SG} (h : Made pool σ) : decZ5 (encL (codeZ σ) []).1 = (codeZ σ, 0, 0) := by
  have hs := made_szs h
  obtain ⟨b, hb⟩ := cod_enc (placesZ σ) (fun i => place_small (by omega) i) σ.ls 0 [] (fun x hx => (h.good.ls x hx).1) rfl (by omega)
  have hb' : encL (codeZ σ) [] = (b, 0) := hb
  rw [hb']
  exact back2 _ _ hb'
theorem body_ended {k : BK} {pool : List CD} {σ : SG} (h : BodyIs k pool σ) : Ended σ := by
  obtain ⟨σ1, _, h2⟩ := h
  split at h2
  · obtain ⟨σ2, _, rfl⟩ := h2
    exact ⟨σ2.ls, _, rfl, by decide⟩
  · subst h2
    exact ⟨σ1.ls, _, rfl, by decide⟩
theorem hands_stand {σ : SG} (h : Ended σ) : ∀ x ∈ handsZ σ, 0 ≤ findZ (codeZ σ) x.f ∧ 0 ≤ findZ (codeZ σ) x.t ∧ 0 ≤ findZ (codeZ σ) x.a := fun x hx => by
  unfold handsZ at hx
  obtain ⟨t, _, rfl⟩ := List.mem_map.1 hx
  exact ⟨stands_at h _, stands_at h _, stands_at h _⟩
end Go.Proofs.Ytlnapfeglbdecaa.M
namespace Go.Proofs.Ytlnapfeglbdecaa.M
open Go.RowKit

def HG (t : TR) (s : List LN) : Prop := ∃ a m c xf xt, s = a ++ xf :: (m ++ xt :: c) ∧ xf.hr = t.f ∧ xt.hr = t.t ∧ 0 ≤ t.f ∧ 0 ≤ t.t ∧ (∃ y ∈ m, ¬ 0 ≤ y.hr) ∧ (∀ y ∈ m ++ xt :: c, y.hr ≠ t.f) ∧ ∀ y ∈ c, y.hr ≠ t.t
theorem HG.app {t : TR} {s s2 : List LN} (h : HG t s) (h2 : ∀ y ∈ s2, y.hr ≠ t.f ∧ y.hr ≠ t.t) : HG t (s ++ s2) := by
  obtain ⟨a, m, c, xf, xt, e, h1, h3, h4, h5, h6, h7, h8⟩ := h
  refine ⟨a, m, c ++ s2, xf, xt, by rw [e]; simp, h1, h3, h4, h5, h6, fun y hy => ?_, fun y hy => ?_⟩
  · rw [show m ++ xt :: (c ++ s2) = (m ++ xt :: c) ++ s2 by simp] at hy
    rcases List.mem_append.1 hy with hy | hy
    · exact h7 y hy
    · exact (h2 y hy).1
  · rcases List.mem_append.1 hy with hy | hy
    · exact h8 y hy
    · exact (h2 y hy).2
theorem HG.pre {t : TR} {s : List LN} (s1 : List LN) (h : HG t s) : HG t (s1 ++ s) := by
  obtain ⟨a, m, c, xf, xt, e, h⟩ := h
  exact ⟨s1 ++ a, m, c, xf, xt, by rw [e]; simp, h⟩
structure Pz (σ σ' : SG) : Prop where
  ls : ∃ s, σ'.ls = σ.ls ++ s ∧ ∀ x ∈ s, x.hr = -1
  hs : σ'.hs = σ.hs
  lab : σ'.labels = σ.labels
theorem Pz.trans {a b c : SG} (h : Pz a b) (g : Pz b c) : Pz a c := by
  obtain ⟨s1, e1, f1⟩ := h.ls
  obtain ⟨s2, e2, f2⟩ := g.ls
  exact ⟨⟨s1 ++ s2, by rw [e2, e1]; simp, fun x hx => (List.mem_append.1 hx).elim (f1 x) (f2 x)⟩, g.hs.trans h.hs, g.lab.trans h.lab⟩
theorem pz_put (σ : SG) (op a b : Int) : Pz σ (σ.put op a b) := ⟨⟨_, rfl, fun x hx => by simp at hx; subst hx; rfl⟩, rfl, rfl⟩
theorem pz_jump (σ : SG) (op l : Int) : Pz σ (σ.jump op l) := ⟨⟨_, rfl, fun x hx => by simp at hx; subst hx; rfl⟩, rfl, rfl⟩
theorem pz_putC (σ : SG) (op : Int) (c : CD) : Pz σ (σ.putC op c) := ⟨⟨_, rfl, fun x hx => by simp at hx; subst hx; rfl⟩, rfl, rfl⟩
mutual
theorem Num.pz {d : Nat} {pl : Bool} {σ σ' : SG} : Num d pl σ σ' → Pz σ σ'
  | .c0 _ _ => pz_put _ _ _ _
  | .c1 _ _ => pz_put _ _ _ _
  | .c2 _ _ => pz_put _ _ _ _
  | .bin _ _ _ h1 h2 => (h1.pz.trans h2.pz).trans (pz_put _ _ _ _)
  | .neg _ h1 => h1.pz.trans (pz_put _ _ _ _)
  | .ldc _ _ _ => pz_putC _ _ _
  | .getx _ h1 => h1.pz.trans (pz_putC _ _ _)
  | .iaload _ h1 => ((pz_put _ _ _ _).trans h1.pz).trans (pz_put _ _ _ _)
  | .calc_ _ h1 h2 => (h1.pz.trans h2.pz).trans (pz_putC _ _ _)
  | .virt _ h1 h2 => (h1.pz.trans h2.pz).trans (pz_putC _ _ _)
  | .isa _ _ _ h1 => h1.pz.trans (pz_putC _ _ _)
theorem Ref.pz {d : Nat} {pl : Bool} {σ σ' : SG} : Ref d pl σ σ' → Pz σ σ'
  | .r0 _ _ => pz_put _ _ _ _
  | .newA => pz_putC _ _ _
  | .newB => pz_putC _ _ _
  | .next _ h1 => h1.pz.trans (pz_putC _ _ _)
  | .stat _ => pz_putC _ _ _
  | .aaload _ h1 => ((pz_put _ _ _ _).trans h1.pz).trans (pz_put _ _ _ _)
  | .cast _ _ _ h1 => h1.pz.trans (pz_putC _ _ _)
end
theorem Arr.pz {pl : Bool} {σ σ' : SG} (h : Arr pl σ σ') : Pz σ σ' := by
  cases h with
  | a0 h1 => exact (h1.pz.trans (pz_put _ _ _ _)).trans (pz_put _ _ _ _)
  | a1 k c _ _ => exact ((pz_put _ _ _ _).trans (pz_putC _ _ _)).trans (pz_put _ _ _ _)
  | a2 h1 h2 => exact (((pz_put _ _ _ _).trans h1.pz).trans h2.pz).trans (pz_put _ _ _ _)
  | a3 k _ h1 => exact (((pz_put _ _ _ _).trans (pz_put _ _ _ _)).trans h1.pz).trans (pz_put _ _ _ _)
theorem Thr.pz {σ σ' : SG} (h : Thr σ σ') : Pz σ σ' := by
  cases h with
  | t0 => exact (pz_putC _ _ _).trans (pz_put _ _ _ _)
  | t1 => exact (pz_put _ _ _ _).trans (pz_putC _ _ _)
  | t2 => exact (pz_put _ _ _ _).trans (pz_putC _ _ _)
  | t3 k _ => exact (pz_put _ _ _ _).trans (pz_putC _ _ _)
theorem Cond.pz {pl : Bool} {no : Int} {σ σ' : SG} (h : Cond pl no σ σ') : Pz σ σ' := by
  cases h with
  | null op _ h1 => exact h1.pz.trans (pz_jump _ _ _)
  | same op _ h1 h2 => exact (h1.pz.trans h2.pz).trans (pz_jump _ _ _)
  | one k _ h1 => exact h1.pz.trans (pz_jump _ _ _)
  | two k _ h1 h2 => exact (h1.pz.trans h2.pz).trans (pz_jump _ _ _)
structure Fw (K : Nat) (P : TR → Prop) (σ σ' : SG) : Prop where
  lab : σ.labels ≤ σ'.labels
  ex : ∃ s hs, σ'.ls = σ.ls ++ s ∧ σ'.hs = σ.hs ++ hs ∧ (∀ x ∈ s, 0 ≤ x.hr → (K : Int) ≤ x.hr ∧ x.hr < σ'.labels) ∧ ∀ t ∈ hs, P t ∧ HG t s ∧ t.f < σ'.labels ∧ t.t < σ'.labels
def Fz (σ σ' : SG) : Prop := Fw σ.labels (fun t => (σ.labels : Int) ≤ t.f ∧ (σ.labels : Int) ≤ t.t) σ σ'
theorem Fw.refl (K : Nat) (P : TR → Prop) (σ : SG) : Fw K P σ σ := ⟨Nat.le_refl _, [], [], by simp, by simp, fun x hx => by simp at hx, fun t ht => by simp at ht⟩
theorem Fw.mono {K K' : Nat} {P P' : TR → Prop} {σ σ' : SG} (h : Fw K P σ σ') (hK : K' ≤ K) (hP : ∀ t, P t → P' t) : Fw K' P' σ σ' := by
  obtain ⟨s, hs, e1, e2, e3, e4⟩ := h.ex
  exact ⟨h.lab, s, hs, e1, e2, fun x hx h0 => ⟨by have := (e3 x hx h0).1; omega, (e3 x hx h0).2⟩, fun t ht => ⟨hP t (e4 t ht).1, (e4 t ht).2⟩⟩
theorem Fw.mark {K : Nat} {P : TR → Prop} {σ σ' : SG} (h : Fw K P σ σ') : Fw K P σ σ'.mark := by
  obtain ⟨s, hs, e1, e2, e3, e4⟩ := h.ex
  refine ⟨Nat.le_succ_of_le h.lab, s, hs, e1, e2, fun x hx h0 => ?_, fun t ht => ?_⟩
  · have := e3 x hx h0
    exact ⟨this.1, by show x.hr < ((σ'.labels + 1 : Nat) : Int); omega⟩
  · obtain ⟨h1, h2, h3, h4⟩ := e4 t ht
    exact ⟨h1, h2, by show t.f < ((σ'.labels + 1 : Nat) : Int); omega, by show t.t < ((σ'.labels + 1 : Nat) : Int); omega⟩
theorem Fw.plain {K : Nat} {P : TR → Prop} {σ σ1 σ2 : SG} (h : Fw K P σ σ1) (g : Pz σ1 σ2) : Fw K P σ σ2 := by
  obtain ⟨s, hs, e1, e2, e3, e4⟩ := h.ex
  obtain ⟨s2, f1, f2⟩ := g.ls
  refine ⟨by rw [g.lab]; exact h.lab, s ++ s2, hs, by rw [f1, e1]; simp, by rw [g.hs, e2], fun x hx h0 => ?_, fun t ht => ?_⟩
  · rw [g.lab]
    rcases List.mem_append.1 hx with hx | hx
    · exact e3 x hx h0
    · have := f2 x hx; omega
  · obtain ⟨h1, h2, h3, h4⟩ := e4 t ht
    rw [g.lab]
    refine ⟨h1, h2.app fun y hy => ?_, h3, h4⟩
    have := f2 y hy
    obtain ⟨_, _, _, _, _, _, _, _, q1, q2, _⟩ := h2
    exact ⟨by omega, by omega⟩
theorem Fw.here {K : Nat} {P : TR → Prop} {σ σ1 : SG} (h : Fw K P σ σ1) (l : Int) (hK : (K : Int) ≤ l) (hl : l < σ1.labels) (hP : ∀ t, P t → t.f ≠ l ∧ t.t ≠ l) : Fw K P σ (σ1.here l) := by
  obtain ⟨s, hs, e1, e2, e3, e4⟩ := h.ex
  refine ⟨h.lab, s ++ [⟨0, -1, 0, 0, -1, l⟩], hs, by show σ1.ls ++ _ = _; rw [e1]; simp, e2, fun x hx h0 => ?_, fun t ht => ?_⟩
  · rcases List.mem_append.1 hx with hx | hx
    · exact e3 x hx h0
    · simp at hx; subst hx; exact ⟨hK, hl⟩
  · obtain ⟨h1, h2, h3, h4⟩ := e4 t ht
    refine ⟨h1, h2.app fun y hy => ?_, h3, h4⟩
    simp at hy
    subst hy
    have := hP t h1
    exact ⟨fun e => this.1 e.symm, fun e => this.2 e.symm⟩
theorem Fw.caught {K : Nat} {P : TR → Prop} {σ σ1 : SG} (h : Fw K P σ σ1) (a : Int) : Fw K P σ (σ1.caught a) := ⟨h.lab, h.ex⟩
theorem Fw.tried {K : Nat} {P : TR → Prop} {σ σ1 : SG} (h : Fw K P σ σ1) (t : TR) (ht : P t) (hg : ∀ s, σ1.ls = σ.ls ++ s → HG t s) (h1 : t.f < σ1.labels) (h2 : t.t < σ1.labels) : Fw K P σ (σ1.tried t) := by
  obtain ⟨s, hs, e1, e2, e3, e4⟩ := h.ex
  refine ⟨h.lab, s, hs ++ [t], e1, by show σ1.hs ++ [t] = _; rw [e2]; simp, e3, fun u hu => ?_⟩
  rcases List.mem_append.1 hu with hu | hu
  · exact e4 u hu
  · simp at hu; subst hu; exact ⟨ht, hg s e1, h1, h2⟩
theorem Fw.sub {K : Nat} {P : TR → Prop} {σ σ1 σ2 : SG} (h : Fw K P σ σ1) (g : Fz σ1 σ2) (hK : K ≤ σ1.labels) (hP : ∀ t : TR, (σ1.labels : Int) ≤ t.f → (σ1.labels : Int) ≤ t.t → P t) : Fw K P σ σ2 := by
  obtain ⟨s, hs, e1, e2, e3, e4⟩ := h.ex
  obtain ⟨s2, hs2, f1, f2, f3, f4⟩ := g.ex
  have hl := g.lab
  refine ⟨Nat.le_trans h.lab hl, s ++ s2, hs ++ hs2, by rw [f1, e1]; simp, by rw [f2, e2]; simp, fun x hx h0 => ?_, fun t ht => ?_⟩
  · rcases List.mem_append.1 hx with hx | hx
    · have := e3 x hx h0; omega
    · have := f3 x hx h0; omega
  · rcases List.mem_append.1 ht with ht | ht
    · obtain ⟨h1, h2, h3, h4⟩ := e4 t ht
      refine ⟨h1, h2.app fun y hy => ?_, by omega, by omega⟩
      obtain ⟨_, _, _, _, _, _, _, _, q1, q2, _⟩ := h2
      by_cases h0 : 0 ≤ y.hr
      · have := (f3 y hy h0).1
        exact ⟨by omega, by omega⟩
      · exact ⟨by omega, by omega⟩
    · obtain ⟨h1, h2, h3, h4⟩ := f4 t ht
      exact ⟨hP t h1.1 h1.2, h2.pre s, h3, h4⟩
theorem Pz.fz {σ σ' : SG} (h : Pz σ σ') : Fz σ σ' := (Fw.refl _ _ σ).plain h
theorem mark2 (σ : SG) : Fw σ.labels (fun t => ((σ.labels + 2 : Nat) : Int) ≤ t.f ∧ ((σ.labels + 2 : Nat) : Int) ≤ t.t) σ σ.mark.mark := (Fw.refl _ _ σ).mark.mark
theorem up2 {σ σ' : SG} (h : Fw σ.labels (fun t => ((σ.labels + 2 : Nat) : Int) ≤ t.f ∧ ((σ.labels + 2 : Nat) : Int) ≤ t.t) σ σ') : Fz σ σ' := h.mono (Nat.le_refl _) (fun t ht => ⟨by omega, by omega⟩)
theorem try1 {σ σ1 : SG} (g : Fz ((σ.mark.mark.mark.mark.here (σ.labels : Int)).put 0 0 0) σ1) :
    Fw σ.labels (fun t => (((σ.labels + 4 : Nat) : Int) ≤ t.f ∧ ((σ.labels + 4 : Nat) : Int) ≤ t.t) ∨ (t.f = σ.labels ∧ t.t = σ.labels + 1)) σ ((((((σ1.here (σ.mark.labels : Int)).jump 167 (σ.mark.mark.mark.labels : Int)).here (σ.mark.mark.labels : Int)).caught (σ.mark.mark.labels : Int)).put 58 7 0).tried ⟨(σ.labels : Int), (σ.mark.labels : Int), (σ.mark.mark.labels : Int)⟩) := by
  have hl : σ.labels + 4 ≤ σ1.labels := g.lab
  have m1 : (σ.mark.labels : Int) = σ.labels + 1 := by show ((σ.labels + 1 : Nat) : Int) = _; omega
  have m2 : (σ.mark.mark.labels : Int) = σ.labels + 2 := by show ((σ.labels + 1 + 1 : Nat) : Int) = _; omega
  have a0 : Fw σ.labels (fun t => ((σ.labels + 4 : Nat) : Int) ≤ t.f ∧ ((σ.labels + 4 : Nat) : Int) ≤ t.t) σ ((σ.mark.mark.mark.mark.here (σ.labels : Int)).put 0 0 0) :=
    ((((Fw.refl _ _ σ).mark.mark.mark.mark).here (σ.labels : Int) (Int.le_refl _) (by show (σ.labels : Int) < ((σ.labels + 1 + 1 + 1 + 1 : Nat) : Int); omega) (fun t ht => ⟨by omega, by omega⟩))).plain (pz_put _ _ _ _)
  have a1 := a0.sub g (by show σ.labels ≤ σ.labels + 1 + 1 + 1 + 1; omega) (fun t h1 h2 => ⟨h1, h2⟩)
  have a2 := ((((a1.here (σ.mark.labels : Int) (by omega) (by omega) (fun t ht => ⟨by omega, by omega⟩)).plain (pz_jump _ 167 (σ.mark.mark.mark.labels : Int))).here (σ.mark.mark.labels : Int) (by omega) (by show _ < (σ1.labels : Int); omega) (fun t ht => ⟨by omega, by omega⟩)).caught (σ.mark.mark.labels : Int)).plain (pz_put _ 58 7 0)
  refine (a2.mono (Nat.le_refl _) (fun t ht => Or.inl ht)).tried _ (.inr ⟨rfl, m1⟩) (fun s hs => ?_) (by show (σ.labels : Int) < (σ1.labels : Int); omega) (by show (σ.mark.labels : Int) < (σ1.labels : Int); omega)
  obtain ⟨s1, hs1, f1, f2, f3, f4⟩ := g.ex
  have hs' : σ1.ls ++ [⟨0, -1, 0, 0, -1, (σ.mark.labels : Int)⟩] ++ [⟨0, 167, 0, 0, (σ.mark.mark.mark.labels : Int), -1⟩] ++ [⟨0, -1, 0, 0, -1, (σ.mark.mark.labels : Int)⟩] ++ [⟨0, 58, 7, 0, -1, -1⟩] = σ.ls ++ s := hs
  have f1' : σ1.ls = (σ.ls ++ [⟨0, -1, 0, 0, -1, (σ.labels : Int)⟩] ++ [⟨0, 0, 0, 0, -1, -1⟩]) ++ s1 := f1
  have es : s = ⟨0, -1, 0, 0, -1, (σ.labels : Int)⟩ :: ((⟨0, 0, 0, 0, -1, -1⟩ :: s1) ++ ⟨0, -1, 0, 0, -1, (σ.mark.labels : Int)⟩ :: [⟨0, 167, 0, 0, (σ.mark.mark.mark.labels : Int), -1⟩, ⟨0, -1, 0, 0, -1, (σ.mark.mark.labels : Int)⟩, ⟨0, 58, 7, 0, -1, -1⟩]) := by
    rw [f1'] at hs'
    simp only [List.append_assoc] at hs'
    have := List.append_cancel_left hs'
    rw [← this]
    simp
  have k1 : ∀ y ∈ s1, y.hr ≠ (σ.labels : Int) := fun y hy e => by
    have h0 : 0 ≤ y.hr := by omega
    have hq : ((σ.labels + 1 + 1 + 1 + 1 : Nat) : Int) ≤ y.hr := (f3 y hy h0).1
    omega
  rw [es]
  refine ⟨[], ⟨0, 0, 0, 0, -1, -1⟩ :: s1, [⟨0, 167, 0, 0, (σ.mark.mark.mark.labels : Int), -1⟩, ⟨0, -1, 0, 0, -1, (σ.mark.mark.labels : Int)⟩, ⟨0, 58, 7, 0, -1, -1⟩], ⟨0, -1, 0, 0, -1, (σ.labels : Int)⟩, ⟨0, -1, 0, 0, -1, (σ.mark.labels : Int)⟩, rfl, rfl, rfl, by show (0 : Int) ≤ (σ.labels : Int); omega, by show (0 : Int) ≤ (σ.mark.labels : Int); omega, ⟨⟨0, 0, 0, 0, -1, -1⟩, by simp, by decide⟩, fun y hy => ?_, fun y hy => ?_⟩
  · show y.hr ≠ (σ.labels : Int)
    simp only [List.cons_append, List.mem_cons, List.mem_append, List.not_mem_nil, or_false] at hy
    rcases hy with rfl | hy | rfl | rfl | rfl | rfl
    · show (-1 : Int) ≠ _; omega
    · exact k1 y hy
    · show (σ.mark.labels : Int) ≠ _; omega
    · show (-1 : Int) ≠ _; omega
    · show (σ.mark.mark.labels : Int) ≠ _; omega
    · show (-1 : Int) ≠ _; omega
  · show y.hr ≠ (σ.mark.labels : Int)
    simp only [List.mem_cons, List.not_mem_nil, or_false] at hy
    rcases hy with rfl | rfl | rfl
    · show (-1 : Int) ≠ _; omega
    · show (σ.mark.mark.labels : Int) ≠ _; omega
    · show (-1 : Int) ≠ _; omega
theorem try2 {σ σ2 σ3 : SG} (h : Fw σ.labels (fun t => (((σ.labels + 4 : Nat) : Int) ≤ t.f ∧ ((σ.labels + 4 : Nat) : Int) ≤ t.t) ∨ (t.f = σ.labels ∧ t.t = σ.labels + 1)) σ σ2) (hl : σ.labels + 4 ≤ σ2.labels) (g : Fz σ2 σ3) : Fw σ.labels (fun t => (((σ.labels + 4 : Nat) : Int) ≤ t.f ∧ ((σ.labels + 4 : Nat) : Int) ≤ t.t) ∨ (t.f = σ.labels ∧ t.t = σ.labels + 1)) σ σ3 :=
  h.sub g (by omega) (fun t h1 h2 => .inl ⟨by omega, by omega⟩)
theorem try3 {σ σ3 : SG} (h : Fw σ.labels (fun t => (((σ.labels + 4 : Nat) : Int) ≤ t.f ∧ ((σ.labels + 4 : Nat) : Int) ≤ t.t) ∨ (t.f = σ.labels ∧ t.t = σ.labels + 1)) σ σ3) (hl : σ.labels + 4 ≤ σ3.labels) : Fz σ ((σ3.here (σ.mark.mark.mark.labels : Int)).put 0 0 0) := by
  have m3 : (σ.mark.mark.mark.labels : Int) = σ.labels + 3 := by show ((σ.labels + 1 + 1 + 1 : Nat) : Int) = _; omega
  exact ((h.here (σ.mark.mark.mark.labels : Int) (by omega) (by omega) (fun t ht => by rcases ht with ht | ht <;> exact ⟨by omega, by omega⟩)).plain (pz_put _ _ _ _)).mono (Nat.le_refl _) (fun t ht => by rcases ht with ht | ht <;> exact ⟨by omega, by omega⟩)
mutual
theorem One.fz {e : Nat} {pl : Bool} {σ σ' : SG} : One e pl σ σ' → Fz σ σ'
  | .set_ _ _ h1 => (h1.pz.trans (pz_put _ _ _ _)).fz
  | .inc _ _ _ _ => (pz_put _ _ _ _).fz
  | .chs _ _ h1 => h1.fz
  | .lp _ _ h1 => h1.fz
  | .dup _ _ h1 => ((((h1.pz.trans (pz_put _ _ _ _)).trans (pz_put _ _ _ _)).trans (pz_put _ _ _ _)).trans (pz_put _ _ _ _)).fz
  | .prt h1 => (h1.pz.trans (pz_putC _ _ _)).fz
  | .ast _ _ h1 => (h1.pz.trans (pz_put _ _ _ _)).fz
  | .ptx h1 h2 => ((h1.pz.trans h2.pz).trans (pz_putC _ _ _)).fz
  | .ptn h1 h2 => ((h1.pz.trans h2.pz).trans (pz_putC _ _ _)).fz
  | .pts h1 => (h1.pz.trans (pz_putC _ _ _)).fz
  | .arr h1 => h1.pz.fz
  | .tr _ _ h1 => h1.fz
  | .lk _ h1 => h1.fz
  | .thr h1 => h1.pz.fz
  | .nwt _ _ => ((pz_putC _ _ _).trans (pz_put _ _ _ _)).fz
theorem Sm.fz {e : Nat} {pl : Bool} {σ σ' : SG} : Sm e pl σ σ' → Fz σ σ'
  | .nil => Fw.refl _ _ _
  | .snoc h1 _ h2 => by
    have a := h1.fz
    exact a.sub h2.fz a.lab (fun t g1 g2 => ⟨by have := a.lab; omega, by have := a.lab; omega⟩)
theorem Chs.fz {e : Nat} {pl : Bool} {σ σ' : SG} : Chs e pl σ σ' → Fz σ σ'
  | .mk hc h1 h2 => by
    have m1 : (σ.mark.labels : Int) = σ.labels + 1 := by show ((σ.labels + 1 : Nat) : Int) = _; omega
    have a0 := (mark2 σ).plain hc.pz
    have l0 : _ = σ.labels + 2 := hc.pz.lab
    have a1 := a0.sub h1.fz (by omega) (fun t g1 g2 => ⟨by omega, by omega⟩)
    have l1 := h1.fz.lab
    have a2 := (a1.plain (pz_jump _ 167 (σ.mark.labels : Int))).here (σ.labels : Int) (Int.le_refl _) (by show (σ.labels : Int) < _; rw [jump_lab]; omega) (fun t ht => ⟨by omega, by omega⟩)
    have l2 := h2.fz.lab
    rw [here_lab, jump_lab] at l2
    have a3 := a2.sub h2.fz (by rw [here_lab, jump_lab]; omega) (fun t g1 g2 => by rw [here_lab, jump_lab] at g1 g2; exact ⟨by omega, by omega⟩)
    exact up2 ((a3.here (σ.mark.labels : Int) (by omega) (by omega) (fun t ht => ⟨by omega, by omega⟩)).plain (pz_put _ _ _ _))
theorem Lp.fz {e : Nat} {pl : Bool} {σ σ' : SG} : Lp e pl σ σ' → Fz σ σ'
  | .mk v k _ _ h1 => by
    have m1 : (σ.mark.labels : Int) = σ.labels + 1 := by show ((σ.labels + 1 : Nat) : Int) = _; omega
    have a0 := ((((((mark2 σ).plain (pz_put _ 3 0 0)).plain (pz_put _ 54 (v : Int) 0)).here (σ.labels : Int) (Int.le_refl _) (by show (σ.labels : Int) < ((σ.labels + 1 + 1 : Nat) : Int); omega) (fun t ht => ⟨by omega, by omega⟩)).plain (pz_put _ 21 (v : Int) 0)).plain (pz_put _ (3 + (k : Int)) 0 0)).plain (pz_jump _ 162 (σ.mark.labels : Int))
    have l1 : σ.labels + 2 ≤ _ := h1.fz.lab
    have a1 := a0.sub h1.fz (by show σ.labels ≤ σ.labels + 1 + 1; omega) (fun t g1 g2 => by
      have g1' : ((σ.labels + 1 + 1 : Nat) : Int) ≤ t.f := g1
      have g2' : ((σ.labels + 1 + 1 : Nat) : Int) ≤ t.t := g2
      exact ⟨by omega, by omega⟩)
    have a2 := (a1.plain (pz_put _ 132 (v : Int) 1)).plain (pz_jump _ 167 (σ.labels : Int))
    exact up2 ((a2.here (σ.mark.labels : Int) (by omega) (by rw [jump_lab, put_lab]; omega) (fun t ht => ⟨by omega, by omega⟩)).plain (pz_put _ _ _ _))
theorem Tr.fz {e : Nat} {pl : Bool} {σ σ' : SG} : Tr e pl σ σ' → Fz σ σ'
  | .t0 h1 h2 => by
    have l1 : σ.labels + 4 ≤ _ := h1.fz.lab
    have l2 := h2.fz.lab
    simp only [tried_lab, put_lab, caught_lab, here_lab, jump_lab] at l2
    exact try3 (try2 (try1 h1.fz) (by simp only [tried_lab, put_lab, caught_lab, here_lab, jump_lab]; exact l1) h2.fz) (by omega)
  | .t1 h1 h2 => by
    have l1 : σ.labels + 4 ≤ _ := h1.fz.lab
    have l2 := h2.fz.lab
    simp only [tried_lab, put_lab, caught_lab, here_lab, jump_lab] at l2
    exact try3 (((try2 (try1 h1.fz) (by simp only [tried_lab, put_lab, caught_lab, here_lab, jump_lab]; exact l1) h2.fz).plain (pz_put _ 25 7 0)).plain (pz_put _ 191 0 0)) (by simp only [put_lab]; omega)
theorem Lk.fz {e : Nat} {pl : Bool} {σ σ' : SG} : Lk e pl σ σ' → Fz σ σ'
  | .l0 v _ h1 => by
    have a := ((Fw.refl σ.labels (fun t => (σ.labels : Int) ≤ t.f ∧ (σ.labels : Int) ≤ t.t) σ).plain ((pz_put _ 25 (4 + (v : Int)) 0).trans (pz_put _ 194 0 0))).sub h1.fz (Nat.le_refl _) (fun t g1 g2 => ⟨g1, g2⟩)
    exact (a.plain (pz_put _ _ _ _)).plain (pz_put _ _ _ _)
  | .l1 v _ _ _ h1 => by
    have a := ((Fw.refl σ.labels (fun t => (σ.labels : Int) ≤ t.f ∧ (σ.labels : Int) ≤ t.t) σ).plain ((pz_put _ 25 (4 + (v : Int)) 0).trans (pz_put _ 194 0 0))).sub h1.fz (Nat.le_refl _) (fun t g1 g2 => ⟨g1, g2⟩)
    exact (((a.plain (pz_put _ _ _ _)).plain (pz_putC _ _ _)).plain (pz_put _ _ _ _)).plain (pz_put _ _ _ _)
end
end Go.Proofs.Ytlnapfeglbdecaa.M
namespace Go.Proofs.Ytlnapfeglbdecaa
open Go.RowKit

theorem made_small {σ : M.SG} (h : M.BodyIs .main [] σ) : Places (M.codeZ σ) ∧ (M.codeZ σ).length ≤ 1024 := by
  have h1 := decZ_small (encL (M.codeZ σ) []).1
  rw [M.made_back (M.body_made h (by decide))] at h1
  exact h1
end Go.Proofs.Ytlnapfeglbdecaa
namespace Go.Proofs.Ytlnapfeglbdecaa
open Go.RowKit

def ovB (p : Int) (y : HN) : Bool := decide (y.f ≤ p) && decide (p < y.t)
def ovL (p : Int) : List HN → Nat → List Int
  | [], _ => []
  | y :: r, j => (if ovB p y then [(j : Int)] else []) ++ ovL p r (j + 1)
theorem ovL_cons (p : Int) (y : HN) (r : List HN) (j : Nat) : ovL p (y :: r) j = (if ovB p y then [(j : Int)] else []) ++ ovL p r (j + 1) := rfl
theorem ovL_len (p : Int) : ∀ (h : List HN) (j : Nat), (ovL p h j).length ≤ h.length
  | [], _ => Nat.le_refl _
  | y :: r, j => by
    have := ovL_len p r (j + 1)
    rw [ovL_cons, List.length_append]
    have h1 : (if ovB p y then [(j : Int)] else []).length ≤ 1 := by split <;> simp
    simp only [List.length_cons]
    omega
theorem ovL_mem (p : Int) : ∀ (h : List HN) (j : Nat) (m : Int), m ∈ ovL p h j ↔ ∃ (q : Nat) (y : HN), h[q]? = some y ∧ ovB p y = true ∧ m = ((j + q : Nat) : Int)
  | [], j, m => by simp [ovL]
  | y :: r, j, m => by
    rw [ovL_cons, List.mem_append, ovL_mem p r (j + 1) m]
    constructor
    · rintro (h | ⟨q, z, h1, h2, h3⟩)
      · split at h
        · rename_i hb
          simp at h
          exact ⟨0, y, rfl, hb, by simpa using h⟩
        · simp at h
      · exact ⟨q + 1, z, by simpa using h1, h2, by omega⟩
    · rintro ⟨q, z, h1, h2, h3⟩
      cases q with
      | zero =>
        simp at h1
        subst h1
        left
        rw [if_pos h2]
        simpa using h3
      | succ q => exact .inr ⟨q, z, by simpa using h1, h2, by omega⟩
set_option maxRecDepth 8000 in
set_option maxHeartbeats 4000000 in
theorem rover_any (v u : Value) (l : List IN) (h : List HN) (k : Nat) (x : IN) (w : World) (hv : IView w v l) (hu : HView w u h) (hx : l[k]? = some x) (hh : h.length ≤ 1000000000) :
    Calls Try.prog 13 #[v, u, .int .i64 (k : Int)] w fun e w' => ∃ v', e = .returned v' ∧ NOwn w' w.heap.size v' (ovL x.pl h 0) ∧ Below w.heap.size w w' := by
  have HV := hidIt hv
  have HU := hidIt hu
  have hk := (List.getElem?_eq_some_iff.1 hx).1
  have hk' : (k : Int) < (l.length : Int) := by omega
  obtain ⟨ao, cap, rfl, hc, hm, _⟩ := hv
  obtain ⟨ao1, cap1, rfl, hc1, hm1, _⟩ := hu
  unfold maxLen at hm hm1
  have HX := hidIt hx
  clear hx
  go_enter Try.func13, Try.ntmps13
  go_wp2
  go_loopw [7, 8] (fun o i wr => ∃ (j : Nat) (acc : List Int), j ≤ h.length ∧ acc.length ≤ j ∧ i = .int .i64 (j : Int) ∧ NOwn wr w.heap.size o acc ∧ Below w.heap.size w wr ∧ acc ++ ovL x.pl (h.drop j) j = ovL x.pl h 0) (fun _ i _ => h.length - (intOf i).toNat)
  case atStart => exact ⟨0, [], Nat.zero_le _, Nat.le_refl _, rfl, NOwn.nil _ _, Below.refl _ w, rfl⟩
  case round =>
    obtain ⟨j, acc, hj, hacc, rfl, ho, hb, he⟩ := hrel
    have HO := hidIt ho
    have HB := hidIt hb
    have HE := hidIt he
    have hz := hb.size
    obtain ⟨ao2, cap2, rfl⟩ := own_slice ho
    clear ho hb he
    by_cases hlt : j < h.length
    · have hlt' : (j : Int) < (h.length : Int) := by omega
      obtain ⟨y, hy⟩ : ∃ y, h[j]? = some y := ⟨h[j], List.getElem?_eq_getElem hlt⟩
      obtain ⟨g1, off1, rfl, c0, c1, c2, c3⟩ := (HU.out.below HB.out).row hy
      obtain ⟨g, off, rfl, d0, d1, d2, d3⟩ := (HV.out.below HB.out).row HX.out
      rw [drop_at hy, ovL_cons] at HE
      unfold ovB at HE
      clear hy HU HV c2 c3 d1 d2 d3
      by_cases h1 : y.f ≤ x.pl
      · rw [decide_eq_true h1] at HE
        by_cases h2 : x.pl < y.t
        · rw [decide_eq_true h2] at HE
          go_wp2_with fail
          go_quiet (fail)
          have HBq := hidIt (below_drewN HB.out nq)
          have HOq := hidIt (HO.out.drewN nq)
          clear c0 c1 d0 HB HO hz
          generalize wr.drewN nq = W2 at *
          have hz := HBq.out.size
          go_wp2_with (at_builtin; refine wpList_nappend rfl _ _ rfl w.heap.size _ _ _ HOq.out rfl rfl (by omega) HBq.out.size ?_; intro ao3 cap3 w2 ho2 st2; have HB2 := hidIt ((HBq.out.trans ((below_alloc _ _).mono HBq.out.size)).trans (st2.below (Nat.le_trans HBq.out.size (below_alloc _ _).size) (fun k hk => (HOq.out.lt k hk).1))); have HO2 := hidIt ho2; clear ho2 st2)
          exact ⟨⟨j + 1, _, by omega, by simp; omega, by go_num, HO2.out, HB2.out, by have := HE.out; simpa using this⟩, by simp [intOf]; omega⟩
        · rw [decide_eq_false h2] at HE
          go_wp2_with fail
          go_quiet (fail)
          go_wp2
          exact ⟨⟨j + 1, _, by omega, by omega, by go_num, HO.out.drewN nq, below_drewN HB.out nq, by have := HE.out; simpa using this⟩, by simp [intOf]; omega⟩
      · rw [decide_eq_false h1] at HE
        have h1d : decide (y.f ≤ x.pl) = false := decide_eq_false h1
        go_wp2_with fail
        go_quiet (fail)
        go_wp2
        exact ⟨⟨j + 1, _, by omega, by omega, by go_num, HO.out.drewN nq, below_drewN HB.out nq, by have := HE.out; simpa using this⟩, by simp [intOf]; omega⟩
    · have hlt' : ¬ (j : Int) < (h.length : Int) := by omega
      obtain rfl : j = h.length := by omega
      rw [List.drop_length] at HE
      go_wp2
      go_ret
      refine ⟨_, rfl, ?_, HB.out⟩
      have := HE.out
      simp only [ovL, List.append_nil] at this
      rw [← this]
      exact HO.out
structure Sd (l : List IN) (h : List HN) (r : List Bool) : Prop where
  len : r.length = l.length
  fst : r[0]? = some true
  snd : ∀ k : Nat, r[k]? = some true → Rch l h k
structure Pa (l : List IN) (h : List HN) (r0 r : List Bool) (more : Bool) (i : Nat) : Prop where
  sd : Sd l h r
  one : more = true → cntF r < cntF r0
  two : more = false → r = r0
  cls : more = false → ∀ k, k < i → r[k]? = some true → ∀ m, Succ l h k m → r[m]? = some true
theorem Sd.begin (l : List IN) (h : List HN) (h0 : 0 < l.length) : Sd l h ((List.replicate l.length false).set 0 true) := by
  have hf : (List.replicate l.length false)[0]? = some false := by simp [h0]
  refine ⟨by simp, set_self hf, fun k hk => ?_⟩
  rcases Nat.eq_zero_or_pos k with e | e
  · subst e; exact .zero h0
  · rw [List.getElem?_set_ne (by omega), List.getElem?_replicate] at hk
    split at hk <;> simp at hk
theorem Pa.begin {l : List IN} {h : List HN} {r : List Bool} (s : Sd l h r) : Pa l h r r false 0 := ⟨s, fun h => absurd h (by decide), fun _ => rfl, fun _ k hk => absurd hk (Nat.not_lt_zero _)⟩
theorem Pa.done {l : List IN} {h : List HN} {r0 r : List Bool} (p : Pa l h r0 r false l.length) : ReachIs l h r := by
  refine ⟨p.sd.len, fun k hk => ⟨p.sd.snd k, fun hr => ?_⟩⟩
  clear hk
  induction hr with
  | zero h0 => exact p.sd.fst
  | step hr hs ih => exact p.cls rfl _ hr.lt ih _ hs
structure Pb (l : List IN) (h : List HN) (r0 r : List Bool) (more : Bool) (i : Nat) (T : List Int) (j : Nat) : Prop where
  pa : Pa l h r0 r more i
  dn : more = false → ∀ m ∈ T.take j, r[m.toNat]? = some true
theorem Pb.begin {l : List IN} {h : List HN} {r0 r : List Bool} {more : Bool} {i : Nat} (T : List Int) (p : Pa l h r0 r more i) : Pb l h r0 r more i T 0 := ⟨p, fun _ m hm => by simp at hm⟩
theorem set_same {r : List Bool} {k : Nat} (h : r[k]? = some true) : r.set k true = r := by
  apply List.ext_getElem? 
  intro j
  by_cases e : k = j
  · subst e; rw [List.getElem?_set_self (List.getElem?_eq_some_iff.1 h).1, h]
  · rw [List.getElem?_set_ne e]
theorem Pb.step {l : List IN} {h : List HN} {r0 r : List Bool} {more : Bool} {i j m : Nat} {T : List Int} {b : Bool} (p : Pb l h r0 r more i T j) (hm : T[j]? = some (m : Int)) (hr : Rch l h m) (hb : r[m]? = some b) : Pb l h r0 (r.set m true) (more || !b) i T (j + 1) := by
  cases b with
  | true =>
    rw [set_same hb]
    simp only [Bool.not_true, Bool.or_false]
    refine ⟨p.pa, fun hf q hq => ?_⟩
    rw [List.take_add_one, hm] at hq
    rcases List.mem_append.1 hq with h1 | h1
    · exact p.dn hf q h1
    · simp at h1; subst h1; exact hb
  | false =>
    simp only [Bool.not_false, Bool.or_true]
    have hc := cntF_set hb
    have hle : cntF r ≤ cntF r0 := by
      cases more with
      | true => have := p.pa.one rfl; omega
      | false => rw [p.pa.two rfl]; exact Nat.le_refl _
    refine ⟨⟨⟨by rw [List.length_set]; exact p.pa.sd.len, set_mono p.pa.sd.fst, fun k hk => ?_⟩, fun _ => by omega, fun h => absurd h (by decide), fun h => absurd h (by decide)⟩, fun h => absurd h (by decide)⟩
    by_cases e : k = m
    · subst e; exact hr
    · rw [List.getElem?_set_ne (fun h => e h.symm)] at hk
      exact p.pa.sd.snd k hk
structure Tl (l : List IN) (h : List HN) (i : Nat) (ov : List Int) (T : List Int) (j : Nat) : Prop where
  nx : ∀ m ∈ nextZ l (i : Int), m ∈ T
  ok : ∀ m ∈ T, 0 ≤ m ∧ Succ l h i m.toNat
  hd : ∀ (q : Nat) (p : Int) (y : HN), q < j → ov[q]? = some p → h[p.toNat]? = some y → 0 ≤ findZ l y.a → findZ l y.a ∈ T
theorem Tl.begin {l : List IN} {h : List HN} {i : Nat} (ov : List Int) : Tl l h i ov (nextZ l (i : Int)) 0 :=
  ⟨fun _ h => h, fun m hm => by have := (nextZ_range hm).1; exact ⟨this, .inl (by rw [Int.toNat_of_nonneg this]; exact hm)⟩, fun _ _ _ hq => absurd hq (Nat.not_lt_zero _)⟩
theorem Tl.step {l : List IN} {h : List HN} {i j : Nat} {x : IN} {T : List Int} {p : Int} {y : HN} (t : Tl l h i (ovL x.pl h 0) T j) (hx : l[i]? = some x) (hp : (ovL x.pl h 0)[j]? = some p) (hy : h[p.toNat]? = some y) : Tl l h i (ovL x.pl h 0) (if 0 ≤ findZ l y.a then T ++ [findZ l y.a] else T) (j + 1) := by
  obtain ⟨q, z, h1, h2, h3⟩ := (ovL_mem x.pl h 0 p).1 (List.mem_of_getElem? hp)
  have e : p.toNat = q := by omega
  rw [e, h1] at hy
  have hzy : z = y := Option.some.inj hy
  subst hzy
  unfold ovB at h2
  simp only [Bool.and_eq_true, decide_eq_true_eq] at h2
  by_cases h0 : 0 ≤ findZ l z.a
  · rw [if_pos h0]
    refine ⟨fun m hm => List.mem_append.2 (.inl (t.nx m hm)), fun m hm => ?_, fun q' p' y' hq hp' hy' h0' => ?_⟩
    · rcases List.mem_append.1 hm with hm | hm
      · exact t.ok m hm
      · simp at hm
        subst hm
        exact ⟨h0, .inr ⟨x, z, hx, List.mem_of_getElem? h1, h2.1, h2.2, by rw [Int.toNat_of_nonneg h0]⟩⟩
    · rcases Nat.lt_or_eq_of_le (Nat.le_of_lt_succ hq) with hq | hq
      · exact List.mem_append.2 (.inl (t.hd q' p' y' hq hp' hy' h0'))
      · subst hq
        rw [hp] at hp'
        cases hp'
        rw [e, h1] at hy'
        cases hy'
        simp
  · rw [if_neg h0]
    refine ⟨t.nx, t.ok, fun q' p' y' hq hp' hy' h0' => ?_⟩
    rcases Nat.lt_or_eq_of_le (Nat.le_of_lt_succ hq) with hq | hq
    · exact t.hd q' p' y' hq hp' hy' h0'
    · subst hq
      rw [hp] at hp'
      cases hp'
      rw [e, h1] at hy'
      cases hy'
      exact absurd h0' h0
theorem Tl.all {l : List IN} {h : List HN} {i : Nat} {x : IN} {T : List Int} (t : Tl l h i (ovL x.pl h 0) T (ovL x.pl h 0).length) (hx : l[i]? = some x) (m : Nat) (hs : Succ l h i m) : (m : Int) ∈ T := by
  rcases hs with h1 | ⟨i', y, e1, e2, e3, e4, e5⟩
  · exact t.nx _ h1
  · rw [hx] at e1
    cases e1
    obtain ⟨q, hq⟩ := List.mem_iff_getElem?.1 e2
    obtain ⟨n, hn⟩ := List.mem_iff_getElem?.1 ((ovL_mem x.pl h 0 (q : Int)).2 ⟨q, y, hq, by unfold ovB; simp [e3, e4], by simp⟩)
    have := t.hd n (q : Int) y (List.getElem?_eq_some_iff.1 hn).1 hn (by simpa using hq) (by omega)
    rwa [e5] at this
theorem NOwn.apart {w w' : World} {o : Obj} {B : Nat} {v v' u : Value} {l : List Int} (h : NOwn w B u l) (st : Step v (w.alloc o) v' w') (hne : ∀ k, u.ownBlock = some k → v.ownBlock ≠ some k) : NOwn w' B u l ∧ ∀ k, u.ownBlock = some k → v'.ownBlock ≠ some k := by
  have hlt : ∀ k, u.ownBlock = some k → k < w.heap.size := fun k hk => (h.lt k hk).2
  refine ⟨⟨h.1, ?_⟩, fun k hk => ?_⟩
  · rcases h.2 with x | ⟨g, cap, cur, rfl, hB, hg, r⟩
    · exact .inl x
    · refine .inr ⟨g, cap, cur, rfl, hB, ?_, r⟩
      have hgl := (Array.getElem?_eq_some_iff.1 hg).1
      rw [st.grown.block g (Nat.lt_of_lt_of_le hgl (below_alloc w o).size) (fun e => hne g rfl e.symm), (below_alloc w o).block g hgl]
      exact hg
  · rcases st.moved with e | ⟨g, e, hg⟩
    · rw [e]; exact hne k hk
    · rw [e]
      intro e2
      cases e2
      have := hlt k hk
      have := (below_alloc w o).size
      omega
end Go.Proofs.Ytlnapfeglbdecaa
