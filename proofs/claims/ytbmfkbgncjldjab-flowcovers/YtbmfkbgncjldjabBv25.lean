/- Texts NT FCs. -/
import Derived.Test.YtbmfkbgncjldjabBv24
namespace Go.Proofs.Ytbmfkbgncjldjab.M
open Go.RowKit

def HG (t : TR) (s : List LN) : Prop := ∃ a m c xf xt, s = a ++ xf :: (m ++ xt :: c) ∧ xf.hr = t.f ∧ xt.hr = t.t ∧ 0 ≤ t.f ∧ 0 ≤ t.t ∧ (∃ y ∈ m, ¬ 0 ≤ y.hr) ∧ (∀ y ∈ m ++ xt :: c, y.hr ≠ t.f) ∧ ∀ y ∈ c, y.hr ≠ t.t
theorem HG.app {t : TR} {s s2 : List LN} (h : HG t s) (h2 : ∀ y ∈ s2, y.hr ≠ t.f ∧ y.hr ≠ t.t) : HG t (s ++ s2) := by
  obtain ⟨a, m, c, xf, xt, e, h1, h3, h4, h5, h6, h7, h8⟩ := h
  refine ⟨a, m, c ++ s2, xf, xt, by rw [e]; simp, h1, h3, h4, h5, h6, fun y hy => ?_, fun y hy => ?_⟩
  · rw [show m ++ xt :: (c ++ s2) = (m ++ xt :: c) ++ s2 by simp] at hy
    rcases List.mem_append.1 hy with hy | hy
    · exact h7 y hy
    · exact (h2 y hy).1
  · rcases List.mem_append.1 hy with hy | hy
    · exact h8 y hy
    · exact (h2 y hy).2
theorem HG.pre {t : TR} {s : List LN} (s1 : List LN) (h : HG t s) : HG t (s1 ++ s) := by
  obtain ⟨a, m, c, xf, xt, e, h⟩ := h
  exact ⟨s1 ++ a, m, c, xf, xt, by rw [e]; simp, h⟩
structure Pz (σ σ' : SG) : Prop where
  ls : ∃ s, σ'.ls = σ.ls ++ s ∧ ∀ x ∈ s, x.hr = -1
  hs : σ'.hs = σ.hs
  lab : σ'.labels = σ.labels
theorem Pz.trans {a b c : SG} (h : Pz a b) (g : Pz b c) : Pz a c := by
  obtain ⟨s1, e1, f1⟩ := h.ls
  obtain ⟨s2, e2, f2⟩ := g.ls
  exact ⟨⟨s1 ++ s2, by rw [e2, e1]; simp, fun x hx => (List.mem_append.1 hx).elim (f1 x) (f2 x)⟩, g.hs.trans h.hs, g.lab.trans h.lab⟩
theorem pz_put (σ : SG) (op a b : Int) : Pz σ (σ.put op a b) := ⟨⟨_, rfl, fun x hx => by simp at hx; subst hx; rfl⟩, rfl, rfl⟩
theorem pz_jump (σ : SG) (op l : Int) : Pz σ (σ.jump op l) := ⟨⟨_, rfl, fun x hx => by simp at hx; subst hx; rfl⟩, rfl, rfl⟩
theorem pz_putC (σ : SG) (op : Int) (c : CD) : Pz σ (σ.putC op c) := ⟨⟨_, rfl, fun x hx => by simp at hx; subst hx; rfl⟩, rfl, rfl⟩
mutual
theorem Num.pz {d : Nat} {pl : Bool} {σ σ' : SG} : Num d pl σ σ' → Pz σ σ'
  | .c0 _ _ => pz_put _ _ _ _
  | .c1 _ _ => pz_put _ _ _ _
  | .c2 _ _ => pz_put _ _ _ _
  | .bin _ _ _ h1 h2 => (h1.pz.trans h2.pz).trans (pz_put _ _ _ _)
  | .neg _ h1 => h1.pz.trans (pz_put _ _ _ _)
  | .ldc _ _ _ => pz_putC _ _ _
  | .getx _ h1 => h1.pz.trans (pz_putC _ _ _)
  | .iaload _ h1 => ((pz_put _ _ _ _).trans h1.pz).trans (pz_put _ _ _ _)
  | .calc_ _ h1 h2 => (h1.pz.trans h2.pz).trans (pz_putC _ _ _)
  | .virt _ h1 h2 => (h1.pz.trans h2.pz).trans (pz_putC _ _ _)
  | .isa _ _ _ h1 => h1.pz.trans (pz_putC _ _ _)
theorem Ref.pz {d : Nat} {pl : Bool} {σ σ' : SG} : Ref d pl σ σ' → Pz σ σ'
  | .r0 _ _ => pz_put _ _ _ _
  | .newA => pz_putC _ _ _
  | .newB => pz_putC _ _ _
  | .next _ h1 => h1.pz.trans (pz_putC _ _ _)
  | .stat _ => pz_putC _ _ _
  | .aaload _ h1 => ((pz_put _ _ _ _).trans h1.pz).trans (pz_put _ _ _ _)
  | .cast _ _ _ h1 => h1.pz.trans (pz_putC _ _ _)
end
theorem Arr.pz {pl : Bool} {σ σ' : SG} (h : Arr pl σ σ') : Pz σ σ' := by
  cases h with
  | a0 h1 => exact (h1.pz.trans (pz_put _ _ _ _)).trans (pz_put _ _ _ _)
  | a1 k c _ _ => exact ((pz_put _ _ _ _).trans (pz_putC _ _ _)).trans (pz_put _ _ _ _)
  | a2 h1 h2 => exact (((pz_put _ _ _ _).trans h1.pz).trans h2.pz).trans (pz_put _ _ _ _)
  | a3 k _ h1 => exact (((pz_put _ _ _ _).trans (pz_put _ _ _ _)).trans h1.pz).trans (pz_put _ _ _ _)
theorem Thr.pz {σ σ' : SG} (h : Thr σ σ') : Pz σ σ' := by
  cases h with
  | t0 => exact (pz_putC _ _ _).trans (pz_put _ _ _ _)
  | t1 => exact (pz_put _ _ _ _).trans (pz_putC _ _ _)
  | t2 => exact (pz_put _ _ _ _).trans (pz_putC _ _ _)
  | t3 k _ => exact (pz_put _ _ _ _).trans (pz_putC _ _ _)
theorem Cond.pz {pl : Bool} {no : Int} {σ σ' : SG} (h : Cond pl no σ σ') : Pz σ σ' := by
  cases h with
  | null op _ h1 => exact h1.pz.trans (pz_jump _ _ _)
  | same op _ h1 h2 => exact (h1.pz.trans h2.pz).trans (pz_jump _ _ _)
  | one k _ h1 => exact h1.pz.trans (pz_jump _ _ _)
  | two k _ h1 h2 => exact (h1.pz.trans h2.pz).trans (pz_jump _ _ _)
structure Fw (K : Nat) (P : TR → Prop) (σ σ' : SG) : Prop where
  lab : σ.labels ≤ σ'.labels
  ex : ∃ s hs, σ'.ls = σ.ls ++ s ∧ σ'.hs = σ.hs ++ hs ∧ (∀ x ∈ s, 0 ≤ x.hr → (K : Int) ≤ x.hr ∧ x.hr < σ'.labels) ∧ ∀ t ∈ hs, P t ∧ HG t s ∧ t.f < σ'.labels ∧ t.t < σ'.labels
def Fz (σ σ' : SG) : Prop := Fw σ.labels (fun t => (σ.labels : Int) ≤ t.f ∧ (σ.labels : Int) ≤ t.t) σ σ'
theorem Fw.refl (K : Nat) (P : TR → Prop) (σ : SG) : Fw K P σ σ := ⟨Nat.le_refl _, [], [], by simp, by simp, fun x hx => by simp at hx, fun t ht => by simp at ht⟩
theorem Fw.mono {K K' : Nat} {P P' : TR → Prop} {σ σ' : SG} (h : Fw K P σ σ') (hK : K' ≤ K) (hP : ∀ t, P t → P' t) : Fw K' P' σ σ' := by
  obtain ⟨s, hs, e1, e2, e3, e4⟩ := h.ex
  exact ⟨h.lab, s, hs, e1, e2, fun x hx h0 => ⟨by have := (e3 x hx h0).1; omega, (e3 x hx h0).2⟩, fun t ht => ⟨hP t (e4 t ht).1, (e4 t ht).2⟩⟩
theorem Fw.mark {K : Nat} {P : TR → Prop} {σ σ' : SG} (h : Fw K P σ σ') : Fw K P σ σ'.mark := by
  obtain ⟨s, hs, e1, e2, e3, e4⟩ := h.ex
  refine ⟨Nat.le_succ_of_le h.lab, s, hs, e1, e2, fun x hx h0 => ?_, fun t ht => ?_⟩
  · have := e3 x hx h0
    exact ⟨this.1, by show x.hr < ((σ'.labels + 1 : Nat) : Int); omega⟩
  · obtain ⟨h1, h2, h3, h4⟩ := e4 t ht
    exact ⟨h1, h2, by show t.f < ((σ'.labels + 1 : Nat) : Int); omega, by show t.t < ((σ'.labels + 1 : Nat) : Int); omega⟩
theorem Fw.plain {K : Nat} {P : TR → Prop} {σ σ1 σ2 : SG} (h : Fw K P σ σ1) (g : Pz σ1 σ2) : Fw K P σ σ2 := by
  obtain ⟨s, hs, e1, e2, e3, e4⟩ := h.ex
  obtain ⟨s2, f1, f2⟩ := g.ls
  refine ⟨by rw [g.lab]; exact h.lab, s ++ s2, hs, by rw [f1, e1]; simp, by rw [g.hs, e2], fun x hx h0 => ?_, fun t ht => ?_⟩
  · rw [g.lab]
    rcases List.mem_append.1 hx with hx | hx
    · exact e3 x hx h0
    · have := f2 x hx; omega
  · obtain ⟨h1, h2, h3, h4⟩ := e4 t ht
    rw [g.lab]
    refine ⟨h1, h2.app fun y hy => ?_, h3, h4⟩
    have := f2 y hy
    obtain ⟨_, _, _, _, _, _, _, _, q1, q2, _⟩ := h2
    exact ⟨by omega, by omega⟩
theorem Fw.here {K : Nat} {P : TR → Prop} {σ σ1 : SG} (h : Fw K P σ σ1) (l : Int) (hK : (K : Int) ≤ l) (hl : l < σ1.labels) (hP : ∀ t, P t → t.f ≠ l ∧ t.t ≠ l) : Fw K P σ (σ1.here l) := by
  obtain ⟨s, hs, e1, e2, e3, e4⟩ := h.ex
  refine ⟨h.lab, s ++ [⟨0, -1, 0, 0, -1, l⟩], hs, by show σ1.ls ++ _ = _; rw [e1]; simp, e2, fun x hx h0 => ?_, fun t ht => ?_⟩
  · rcases List.mem_append.1 hx with hx | hx
    · exact e3 x hx h0
    · simp at hx; subst hx; exact ⟨hK, hl⟩
  · obtain ⟨h1, h2, h3, h4⟩ := e4 t ht
    refine ⟨h1, h2.app fun y hy => ?_, h3, h4⟩
    simp at hy
    subst hy
    have := hP t h1
    exact ⟨fun e => this.1 e.symm, fun e => this.2 e.symm⟩
theorem Fw.caught {K : Nat} {P : TR → Prop} {σ σ1 : SG} (h : Fw K P σ σ1) (a : Int) : Fw K P σ (σ1.caught a) := ⟨h.lab, h.ex⟩
theorem Fw.tried {K : Nat} {P : TR → Prop} {σ σ1 : SG} (h : Fw K P σ σ1) (t : TR) (ht : P t) (hg : ∀ s, σ1.ls = σ.ls ++ s → HG t s) (h1 : t.f < σ1.labels) (h2 : t.t < σ1.labels) : Fw K P σ (σ1.tried t) := by
  obtain ⟨s, hs, e1, e2, e3, e4⟩ := h.ex
  refine ⟨h.lab, s, hs ++ [t], e1, by show σ1.hs ++ [t] = _; rw [e2]; simp, e3, fun u hu => ?_⟩
  rcases List.mem_append.1 hu with hu | hu
  · exact e4 u hu
  · simp at hu; subst hu; exact ⟨ht, hg s e1, h1, h2⟩
theorem Fw.sub {K : Nat} {P : TR → Prop} {σ σ1 σ2 : SG} (h : Fw K P σ σ1) (g : Fz σ1 σ2) (hK : K ≤ σ1.labels) (hP : ∀ t : TR, (σ1.labels : Int) ≤ t.f → (σ1.labels : Int) ≤ t.t → P t) : Fw K P σ σ2 := by
  obtain ⟨s, hs, e1, e2, e3, e4⟩ := h.ex
  obtain ⟨s2, hs2, f1, f2, f3, f4⟩ := g.ex
  have hl := g.lab
  refine ⟨Nat.le_trans h.lab hl, s ++ s2, hs ++ hs2, by rw [f1, e1]; simp, by rw [f2, e2]; simp, fun x hx h0 => ?_, fun t ht => ?_⟩
  · rcases List.mem_append.1 hx with hx | hx
    · have := e3 x hx h0; omega
    · have := f3 x hx h0; omega
  · rcases List.mem_append.1 ht with ht | ht
    · obtain ⟨h1, h2, h3, h4⟩ := e4 t ht
      refine ⟨h1, h2.app fun y hy => ?_, by omega, by omega⟩
      obtain ⟨_, _, _, _, _, _, _, _, q1, q2, _⟩ := h2
      by_cases h0 : 0 ≤ y.hr
      · have := (f3 y hy h0).1
        exact ⟨by omega, by omega⟩
      · exact ⟨by omega, by omega⟩
    · obtain ⟨h1, h2, h3, h4⟩ := f4 t ht
      exact ⟨hP t h1.1 h1.2, h2.pre s, h3, h4⟩
theorem Pz.fz {σ σ' : SG} (h : Pz σ σ') : Fz σ σ' := (Fw.refl _ _ σ).plain h
theorem mark2 (σ : SG) : Fw σ.labels (fun t => ((σ.labels + 2 : Nat) : Int) ≤ t.f ∧ ((σ.labels + 2 : Nat) : Int) ≤ t.t) σ σ.mark.mark := (Fw.refl _ _ σ).mark.mark
theorem up2 {σ σ' : SG} (h : Fw σ.labels (fun t => ((σ.labels + 2 : Nat) : Int) ≤ t.f ∧ ((σ.labels + 2 : Nat) : Int) ≤ t.t) σ σ') : Fz σ σ' := h.mono (Nat.le_refl _) (fun t ht => ⟨by omega, by omega⟩)
theorem try1 {σ σ1 : SG} (g : Fz ((σ.mark.mark.mark.mark.here (σ.labels : Int)).put 0 0 0) σ1) :
    Fw σ.labels (fun t => (((σ.labels + 4 : Nat) : Int) ≤ t.f ∧ ((σ.labels + 4 : Nat) : Int) ≤ t.t) ∨ (t.f = σ.labels ∧ t.t = σ.labels + 1)) σ ((((((σ1.here (σ.mark.labels : Int)).jump 167 (σ.mark.mark.mark.labels : Int)).here (σ.mark.mark.labels : Int)).caught (σ.mark.mark.labels : Int)).put 58 7 0).tried ⟨(σ.labels : Int), (σ.mark.labels : Int), (σ.mark.mark.labels : Int)⟩) := by
  have hl : σ.labels + 4 ≤ σ1.labels := g.lab
  have m1 : (σ.mark.labels : Int) = σ.labels + 1 := by show ((σ.labels + 1 : Nat) : Int) = _; omega
  have m2 : (σ.mark.mark.labels : Int) = σ.labels + 2 := by show ((σ.labels + 1 + 1 : Nat) : Int) = _; omega
  have a0 : Fw σ.labels (fun t => ((σ.labels + 4 : Nat) : Int) ≤ t.f ∧ ((σ.labels + 4 : Nat) : Int) ≤ t.t) σ ((σ.mark.mark.mark.mark.here (σ.labels : Int)).put 0 0 0) :=
    ((((Fw.refl _ _ σ).mark.mark.mark.mark).here (σ.labels : Int) (Int.le_refl _) (by show (σ.labels : Int) < ((σ.labels + 1 + 1 + 1 + 1 : Nat) : Int); omega) (fun t ht => ⟨by omega, by omega⟩))).plain (pz_put _ _ _ _)
  have a1 := a0.sub g (by show σ.labels ≤ σ.labels + 1 + 1 + 1 + 1; omega) (fun t h1 h2 => ⟨h1, h2⟩)
  have a2 := ((((a1.here (σ.mark.labels : Int) (by omega) (by omega) (fun t ht => ⟨by omega, by omega⟩)).plain (pz_jump _ 167 (σ.mark.mark.mark.labels : Int))).here (σ.mark.mark.labels : Int) (by omega) (by show _ < (σ1.labels : Int); omega) (fun t ht => ⟨by omega, by omega⟩)).caught (σ.mark.mark.labels : Int)).plain (pz_put _ 58 7 0)
  refine (a2.mono (Nat.le_refl _) (fun t ht => Or.inl ht)).tried _ (.inr ⟨rfl, m1⟩) (fun s hs => ?_) (by show (σ.labels : Int) < (σ1.labels : Int); omega) (by show (σ.mark.labels : Int) < (σ1.labels : Int); omega)
  obtain ⟨s1, hs1, f1, f2, f3, f4⟩ := g.ex
  have hs' : σ1.ls ++ [⟨0, -1, 0, 0, -1, (σ.mark.labels : Int)⟩] ++ [⟨0, 167, 0, 0, (σ.mark.mark.mark.labels : Int), -1⟩] ++ [⟨0, -1, 0, 0, -1, (σ.mark.mark.labels : Int)⟩] ++ [⟨0, 58, 7, 0, -1, -1⟩] = σ.ls ++ s := hs
  have f1' : σ1.ls = (σ.ls ++ [⟨0, -1, 0, 0, -1, (σ.labels : Int)⟩] ++ [⟨0, 0, 0, 0, -1, -1⟩]) ++ s1 := f1
  have es : s = ⟨0, -1, 0, 0, -1, (σ.labels : Int)⟩ :: ((⟨0, 0, 0, 0, -1, -1⟩ :: s1) ++ ⟨0, -1, 0, 0, -1, (σ.mark.labels : Int)⟩ :: [⟨0, 167, 0, 0, (σ.mark.mark.mark.labels : Int), -1⟩, ⟨0, -1, 0, 0, -1, (σ.mark.mark.labels : Int)⟩, ⟨0, 58, 7, 0, -1, -1⟩]) := by
    rw [f1'] at hs'
    simp only [List.append_assoc] at hs'
    have := List.append_cancel_left hs'
    rw [← this]
    simp
  have k1 : ∀ y ∈ s1, y.hr ≠ (σ.labels : Int) := fun y hy e => by
    have h0 : 0 ≤ y.hr := by omega
    have hq : ((σ.labels + 1 + 1 + 1 + 1 : Nat) : Int) ≤ y.hr := (f3 y hy h0).1
    omega
  rw [es]
  refine ⟨[], ⟨0, 0, 0, 0, -1, -1⟩ :: s1, [⟨0, 167, 0, 0, (σ.mark.mark.mark.labels : Int), -1⟩, ⟨0, -1, 0, 0, -1, (σ.mark.mark.labels : Int)⟩, ⟨0, 58, 7, 0, -1, -1⟩], ⟨0, -1, 0, 0, -1, (σ.labels : Int)⟩, ⟨0, -1, 0, 0, -1, (σ.mark.labels : Int)⟩, rfl, rfl, rfl, by show (0 : Int) ≤ (σ.labels : Int); omega, by show (0 : Int) ≤ (σ.mark.labels : Int); omega, ⟨⟨0, 0, 0, 0, -1, -1⟩, by simp, by decide⟩, fun y hy => ?_, fun y hy => ?_⟩
  · show y.hr ≠ (σ.labels : Int)
    simp only [List.cons_append, List.mem_cons, List.mem_append, List.not_mem_nil, or_false] at hy
    rcases hy with rfl | hy | rfl | rfl | rfl | rfl
    · show (-1 : Int) ≠ _; omega
    · exact k1 y hy
    · show (σ.mark.labels : Int) ≠ _; omega
    · show (-1 : Int) ≠ _; omega
    · show (σ.mark.mark.labels : Int) ≠ _; omega
    · show (-1 : Int) ≠ _; omega
  · show y.hr ≠ (σ.mark.labels : Int)
    simp only [List.mem_cons, List.not_mem_nil, or_false] at hy
    rcases hy with rfl | rfl | rfl
    · show (-1 : Int) ≠ _; omega
    · show (σ.mark.mark.labels : Int) ≠ _; omega
    · show (-1 : Int) ≠ _; omega
theorem try2 {σ σ2 σ3 : SG} (h : Fw σ.labels (fun t => (((σ.labels + 4 : Nat) : Int) ≤ t.f ∧ ((σ.labels + 4 : Nat) : Int) ≤ t.t) ∨ (t.f = σ.labels ∧ t.t = σ.labels + 1)) σ σ2) (hl : σ.labels + 4 ≤ σ2.labels) (g : Fz σ2 σ3) : Fw σ.labels (fun t => (((σ.labels + 4 : Nat) : Int) ≤ t.f ∧ ((σ.labels + 4 : Nat) : Int) ≤ t.t) ∨ (t.f = σ.labels ∧ t.t = σ.labels + 1)) σ σ3 :=
  h.sub g (by omega) (fun t h1 h2 => .inl ⟨by omega, by omega⟩)
theorem try3 {σ σ3 : SG} (h : Fw σ.labels (fun t => (((σ.labels + 4 : Nat) : Int) ≤ t.f ∧ ((σ.labels + 4 : Nat) : Int) ≤ t.t) ∨ (t.f = σ.labels ∧ t.t = σ.labels + 1)) σ σ3) (hl : σ.labels + 4 ≤ σ3.labels) : Fz σ ((σ3.here (σ.mark.mark.mark.labels : Int)).put 0 0 0) := by
  have m3 : (σ.mark.mark.mark.labels : Int) = σ.labels + 3 := by show ((σ.labels + 1 + 1 + 1 : Nat) : Int) = _; omega
  exact ((h.here (σ.mark.mark.mark.labels : Int) (by omega) (by omega) (fun t ht => by rcases ht with ht | ht <;> exact ⟨by omega, by omega⟩)).plain (pz_put _ _ _ _)).mono (Nat.le_refl _) (fun t ht => by rcases ht with ht | ht <;> exact ⟨by omega, by omega⟩)
mutual
theorem One.fz {e : Nat} {pl : Bool} {σ σ' : SG} : One e pl σ σ' → Fz σ σ'
  | .set_ _ _ h1 => (h1.pz.trans (pz_put _ _ _ _)).fz
  | .inc _ _ _ _ => (pz_put _ _ _ _).fz
  | .chs _ _ h1 => h1.fz
  | .lp _ _ h1 => h1.fz
  | .dup _ _ h1 => ((((h1.pz.trans (pz_put _ _ _ _)).trans (pz_put _ _ _ _)).trans (pz_put _ _ _ _)).trans (pz_put _ _ _ _)).fz
  | .prt h1 => (h1.pz.trans (pz_putC _ _ _)).fz
  | .ast _ _ h1 => (h1.pz.trans (pz_put _ _ _ _)).fz
  | .ptx h1 h2 => ((h1.pz.trans h2.pz).trans (pz_putC _ _ _)).fz
  | .ptn h1 h2 => ((h1.pz.trans h2.pz).trans (pz_putC _ _ _)).fz
  | .pts h1 => (h1.pz.trans (pz_putC _ _ _)).fz
  | .arr h1 => h1.pz.fz
  | .tr _ _ h1 => h1.fz
  | .lk _ h1 => h1.fz
  | .thr h1 => h1.pz.fz
  | .nwt _ _ => ((pz_putC _ _ _).trans (pz_put _ _ _ _)).fz
theorem Sm.fz {e : Nat} {pl : Bool} {σ σ' : SG} : Sm e pl σ σ' → Fz σ σ'
  | .nil => Fw.refl _ _ _
  | .snoc h1 _ h2 => by
    have a := h1.fz
    exact a.sub h2.fz a.lab (fun t g1 g2 => ⟨by have := a.lab; omega, by have := a.lab; omega⟩)
theorem Chs.fz {e : Nat} {pl : Bool} {σ σ' : SG} : Chs e pl σ σ' → Fz σ σ'
  | .mk hc h1 h2 => by
    have m1 : (σ.mark.labels : Int) = σ.labels + 1 := by show ((σ.labels + 1 : Nat) : Int) = _; omega
    have a0 := (mark2 σ).plain hc.pz
    have l0 : _ = σ.labels + 2 := hc.pz.lab
    have a1 := a0.sub h1.fz (by omega) (fun t g1 g2 => ⟨by omega, by omega⟩)
    have l1 := h1.fz.lab
    have a2 := (a1.plain (pz_jump _ 167 (σ.mark.labels : Int))).here (σ.labels : Int) (Int.le_refl _) (by show (σ.labels : Int) < _; rw [jump_lab]; omega) (fun t ht => ⟨by omega, by omega⟩)
    have l2 := h2.fz.lab
    rw [here_lab, jump_lab] at l2
    have a3 := a2.sub h2.fz (by rw [here_lab, jump_lab]; omega) (fun t g1 g2 => by rw [here_lab, jump_lab] at g1 g2; exact ⟨by omega, by omega⟩)
    exact up2 ((a3.here (σ.mark.labels : Int) (by omega) (by omega) (fun t ht => ⟨by omega, by omega⟩)).plain (pz_put _ _ _ _))
theorem Lp.fz {e : Nat} {pl : Bool} {σ σ' : SG} : Lp e pl σ σ' → Fz σ σ'
  | .mk v k _ _ h1 => by
    have m1 : (σ.mark.labels : Int) = σ.labels + 1 := by show ((σ.labels + 1 : Nat) : Int) = _; omega
    have a0 := ((((((mark2 σ).plain (pz_put _ 3 0 0)).plain (pz_put _ 54 (v : Int) 0)).here (σ.labels : Int) (Int.le_refl _) (by show (σ.labels : Int) < ((σ.labels + 1 + 1 : Nat) : Int); omega) (fun t ht => ⟨by omega, by omega⟩)).plain (pz_put _ 21 (v : Int) 0)).plain (pz_put _ (3 + (k : Int)) 0 0)).plain (pz_jump _ 162 (σ.mark.labels : Int))
    have l1 : σ.labels + 2 ≤ _ := h1.fz.lab
    have a1 := a0.sub h1.fz (by show σ.labels ≤ σ.labels + 1 + 1; omega) (fun t g1 g2 => by
      have g1' : ((σ.labels + 1 + 1 : Nat) : Int) ≤ t.f := g1
      have g2' : ((σ.labels + 1 + 1 : Nat) : Int) ≤ t.t := g2
      exact ⟨by omega, by omega⟩)
    have a2 := (a1.plain (pz_put _ 132 (v : Int) 1)).plain (pz_jump _ 167 (σ.labels : Int))
    exact up2 ((a2.here (σ.mark.labels : Int) (by omega) (by rw [jump_lab, put_lab]; omega) (fun t ht => ⟨by omega, by omega⟩)).plain (pz_put _ _ _ _))
theorem Tr.fz {e : Nat} {pl : Bool} {σ σ' : SG} : Tr e pl σ σ' → Fz σ σ'
  | .t0 h1 h2 => by
    have l1 : σ.labels + 4 ≤ _ := h1.fz.lab
    have l2 := h2.fz.lab
    simp only [tried_lab, put_lab, caught_lab, here_lab, jump_lab] at l2
    exact try3 (try2 (try1 h1.fz) (by simp only [tried_lab, put_lab, caught_lab, here_lab, jump_lab]; exact l1) h2.fz) (by omega)
  | .t1 h1 h2 => by
    have l1 : σ.labels + 4 ≤ _ := h1.fz.lab
    have l2 := h2.fz.lab
    simp only [tried_lab, put_lab, caught_lab, here_lab, jump_lab] at l2
    exact try3 (((try2 (try1 h1.fz) (by simp only [tried_lab, put_lab, caught_lab, here_lab, jump_lab]; exact l1) h2.fz).plain (pz_put _ 25 7 0)).plain (pz_put _ 191 0 0)) (by simp only [put_lab]; omega)
theorem Lk.fz {e : Nat} {pl : Bool} {σ σ' : SG} : Lk e pl σ σ' → Fz σ σ'
  | .l0 v _ h1 => by
    have a := ((Fw.refl σ.labels (fun t => (σ.labels : Int) ≤ t.f ∧ (σ.labels : Int) ≤ t.t) σ).plain ((pz_put _ 25 (4 + (v : Int)) 0).trans (pz_put _ 194 0 0))).sub h1.fz (Nat.le_refl _) (fun t g1 g2 => ⟨g1, g2⟩)
    exact (a.plain (pz_put _ _ _ _)).plain (pz_put _ _ _ _)
  | .l1 v _ _ _ h1 => by
    have a := ((Fw.refl σ.labels (fun t => (σ.labels : Int) ≤ t.f ∧ (σ.labels : Int) ≤ t.t) σ).plain ((pz_put _ 25 (4 + (v : Int)) 0).trans (pz_put _ 194 0 0))).sub h1.fz (Nat.le_refl _) (fun t g1 g2 => ⟨g1, g2⟩)
    exact (((a.plain (pz_put _ _ _ _)).plain (pz_putC _ _ _)).plain (pz_put _ _ _ _)).plain (pz_put _ _ _ _)
end
theorem body_hg {k : BK} {pool : List CD} {σ : SG} (h : BodyIs k pool σ) : ∀ t ∈ σ.hs, HG t σ.ls := by
  obtain ⟨σ1, h1, h2⟩ := h
  have h0 : (pre k pool).hs = [] := by cases k <;> rfl
  obtain ⟨s, hs, e1, e2, e3, e4⟩ := h1.fz.ex
  rw [h0, List.nil_append] at e2
  have hq : ∀ (σ2 : SG), Pz σ1 σ2 → ∀ t ∈ σ2.hs, HG t σ2.ls := fun σ2 g t ht => by
    obtain ⟨s2, f1, f2⟩ := g.ls
    rw [g.hs, e2] at ht
    obtain ⟨_, g2, _⟩ := e4 t ht
    rw [f1, e1, List.append_assoc]
    refine HG.pre _ (g2.app fun y hy => ?_)
    have := f2 y hy
    obtain ⟨_, _, _, _, _, _, _, _, q1, q2, _⟩ := g2
    exact ⟨by omega, by omega⟩
  split at h2
  · obtain ⟨σ2, h3, rfl⟩ := h2
    exact hq _ (h3.pz.trans (pz_put _ _ _ _))
  · subst h2
    exact hq _ (pz_put _ _ _ _)
theorem plc_keep : ∀ (c : List LN) (p : Int) (ps : List Int) (i : Nat), (∀ y ∈ c, y.hr ≠ (i : Int)) → (plc c p ps)[i]? = ps[i]?
  | [], _, _, _, _ => rfl
  | x :: c, p, ps, i, h => by
    rw [plc_cons]
    have hx := h x (by simp)
    have hc : ∀ y ∈ c, y.hr ≠ (i : Int) := fun y hy => h y (by simp [hy])
    by_cases h0 : 0 ≤ x.hr
    · rw [if_pos h0, plc_keep c p _ i hc, List.getElem?_set_ne (by omega)]
    · rw [if_neg h0, plc_keep c _ ps i hc]
theorem plc_last : ∀ (a : List LN) (x : LN) (c : List LN) (p : Int) (ps : List Int) (i : Nat), x.hr = (i : Int) → i < ps.length → (∀ y ∈ c, y.hr ≠ (i : Int)) → (plc (a ++ x :: c) p ps)[i]? = some (p + (szs a : Nat))
  | [], x, c, p, ps, i, hx, hi, hc => by
    rw [List.nil_append, plc_cons, if_pos (by omega), plc_keep c p _ i hc, hx, Int.toNat_natCast, List.getElem?_set_self hi]
    simp [szs]
  | z :: a, x, c, p, ps, i, hx, hi, hc => by
    rw [List.cons_append, plc_cons]
    by_cases h0 : 0 ≤ z.hr
    · rw [if_pos h0, plc_last a x c p _ i hx (by rw [List.length_set]; exact hi) hc]
      simp [szs, h0]
    · rw [if_neg h0, plc_last a x c _ ps i hx hi hc]
      simp [szs, h0]
      omega
theorem szs_pos : ∀ (m : List LN), (∀ x ∈ m, LOk x) → (∃ y ∈ m, ¬ 0 ≤ y.hr) → 1 ≤ szs m
  | [], _, ⟨y, h, _⟩ => by simp at h
  | x :: m, hl, ⟨y, h, hy⟩ => by
    simp only [szs]
    rcases List.mem_cons.1 h with rfl | h
    · rw [if_neg hy]
      have := sz_put (hl y (by simp)) hy
      omega
    · have := szs_pos m (fun z hz => hl z (by simp [hz])) ⟨y, h, hy⟩
      omega
theorem hands_less {k : BK} {pool : List CD} {σ : SG} (h : BodyIs k pool σ) (hp : pool.length ≤ 256) : ∀ x ∈ handsZ σ, x.f < x.t := fun x hx => by
  unfold handsZ at hx
  obtain ⟨t, ht, rfl⟩ := List.mem_map.1 hx
  have hm := body_made h hp
  obtain ⟨a, m, c, xf, xt, e, h1, h2, h3, h4, h5, h6, h7⟩ := body_hg h t ht
  have hg := hm.good.hs t ht
  obtain ⟨i, hi⟩ := Int.eq_ofNat_of_zero_le h3
  obtain ⟨j, hj⟩ := Int.eq_ofNat_of_zero_le h4
  have p1 : (placesZ σ)[i]? = some ((0 : Int) + ((szs a : Nat) : Int)) := by
    unfold placesZ
    rw [e]
    exact plc_last a xf _ 0 _ i (by omega) (by simp; omega) (fun y hy => by have := h6 y hy; omega)
  have p2 : (placesZ σ)[j]? = some ((0 : Int) + ((szs (a ++ xf :: m) : Nat) : Int)) := by
    unfold placesZ
    rw [e, show a ++ xf :: (m ++ xt :: c) = (a ++ xf :: m) ++ xt :: c by simp]
    exact plc_last _ xt c 0 _ j (by omega) (by simp; omega) (fun y hy => by have := h7 y hy; omega)
  have hs := szs_pos m (fun y hy => (hm.good.ls y (by rw [e]; simp [hy])).1) h5
  unfold plH
  show ((placesZ σ)[t.f.toNat]?).getD 0 < ((placesZ σ)[t.t.toNat]?).getD 0
  rw [hi, hj, Int.toNat_natCast, Int.toNat_natCast, p1, p2, szs_append]
  simp only [szs, Option.getD_some]
  omega
theorem cod_mem (ps : List Int) : ∀ (ls : List LN) (p : Int) (x : IN), x ∈ cod ps ls p → ∃ y ∈ ls, ¬ 0 ≤ y.hr ∧ x.op = y.op ∧ x.a = if 0 ≤ y.lb then (ps[y.lb.toNat]?).getD 0 else y.a
  | [], _, _, h => by simp [cod] at h
  | z :: ls, p, x, h => by
    rw [cod_cons] at h
    by_cases h0 : 0 ≤ z.hr
    · rw [if_pos h0] at h
      obtain ⟨y, hy, h⟩ := cod_mem ps ls p x h
      exact ⟨y, by simp [hy], h⟩
    · rw [if_neg h0] at h
      rcases List.mem_cons.1 h with rfl | h
      · exact ⟨z, by simp, h0, rfl, rfl⟩
      · obtain ⟨y, hy, h⟩ := cod_mem ps ls _ x h
        exact ⟨y, by simp [hy], h⟩
theorem cod_app (ps : List Int) : ∀ (a c : List LN) (p : Int), cod ps (a ++ c) p = cod ps a p ++ cod ps c (p + (szs a : Nat))
  | [], c, p => by simp [cod, szs]
  | x :: a, c, p => by
    rw [List.cons_append, cod_cons, cod_cons]
    by_cases h0 : 0 ≤ x.hr
    · rw [if_pos h0, if_pos h0, cod_app ps a c p]
      simp [szs, h0]
    · rw [if_neg h0, if_neg h0, cod_app ps a c, List.cons_append]
      simp only [szs, h0, if_false]
      rw [show p + (sz x.op : Nat) + (szs a : Nat) = p + ((sz x.op + szs a : Nat) : Int) by omega]
theorem codeF_ok (l : List IN) (x : IN) (hx : l.getLast? = some x) (he : endsB x.op = true) : ∀ r : List IN, (∀ y ∈ r, brkB l y = false) → codeF l r = (0, 0)
  | [], _ => by unfold codeF; rw [hx]; simp [he]
  | y :: r, h => by
    rw [codeF_cons, h y (by simp)]
    simp only [Bool.false_eq_true, if_false]
    exact codeF_ok l x hx he r (fun z hz => h z (by simp [hz]))
theorem handF_ok (l : List IN) (k : Int × Int) : ∀ r : List HN, (∀ y ∈ r, handB l y = true) → handF l k r = k
  | [], _ => rfl
  | y :: r, h => by
    rw [handF_cons, h y (by simp)]
    simp only [if_true]
    exact handF_ok l k r (fun z hz => h z (by simp [hz]))
theorem made_check {σ : SG} (h : BodyIs .main [] σ) : checkZ (codeZ σ) (handsZ σ) [] = (0, 0) := by
  have hE := body_ended h
  have hm := body_made h (by decide)
  have hpos := code_pos hE
  obtain ⟨x, hx, he⟩ : ∃ x, (codeZ σ).getLast? = some x ∧ endsB x.op = true := by
    obtain ⟨σ1, _, h2⟩ := h
    rw [if_neg (by decide)] at h2
    subst h2
    have e : codeZ (σ1.put 177 0 0) = cod (placesZ (σ1.put 177 0 0)) σ1.ls 0 ++ [⟨0 + (szs σ1.ls : Nat), 177, 0, 0⟩] := by
      show cod _ (σ1.ls ++ [⟨0, 177, 0, 0, -1, -1⟩]) 0 = _
      rw [cod_app]
      rfl
    exact ⟨⟨0 + (szs σ1.ls : Nat), 177, 0, 0⟩, by rw [e]; simp, by show endsB 177 = true; decide⟩
  have hc : Go.Proofs.Ytbmfkbgncjldjab.codeZ (codeZ σ) = (0, 0) := by
    unfold Go.Proofs.Ytbmfkbgncjldjab.codeZ
    rw [if_neg (fun e => by rw [e] at hpos; simp at hpos)]
    refine codeF_ok _ x hx he _ (fun y hy => ?_)
    obtain ⟨z, hz, h0, h1, h2⟩ := cod_mem _ _ _ y hy
    unfold brkB
    by_cases h6 : kd y.op = 6
    · have hl := (hm.good.ls z hz).1
      rcases hl with hl | hl | hl
      · exact absurd hl.1 h0
      · rw [h1] at h6; exact absurd h6 hl.2.2.2.1
      · rw [if_pos hl.2.1] at h2
        rw [h2, decide_eq_true (stands_at hE _)]
        simp
    · rw [decide_eq_false h6]
      rfl
  unfold checkZ
  rw [hc, if_neg (by decide)]
  refine handF_ok _ _ _ (fun y hy => ?_)
  have h1 := hands_stand hE y hy
  have h2 := hands_less h (by decide) y hy
  unfold handB
  simp [h1.1, h1.2.1, h1.2.2, h2]
end Go.Proofs.Ytbmfkbgncjldjab.M
namespace Go.Proofs.Ytbmfkbgncjldjab
open Go.RowKit

theorem main_parts2 {w w' : World} {e : Ending} (h : M.ClassesQ w e w') : ∃ (g gm cm : Nat) (vc vh vf : Value) (cl : List IN) (hl : List HN) (fl : List FN) (s0 s1 : ByteArray) (b0 : Bool) (n0 : Int) (σ : M.SG), M.BodyIs .main [] σ ∧ cl = M.codeZ σ ∧ hl = M.handsZ σ ∧ e = .returned (.slice (some ⟨g, 0, none⟩) 4 4) ∧ Below w.heap.size w w' ∧ w'.cell? ⟨g, 19, none⟩ = some (.slice (some ⟨gm, 0, none⟩) 2 cm) ∧ 2 ≤ cm ∧ cm ≤ 9223372036854775807 ∧
    (w'.cell? ⟨gm, 0, none⟩ = some (.string s0) ∧ w'.cell? ⟨gm, 1, none⟩ = some (.string s1) ∧ w'.cell? ⟨gm, 2, none⟩ = some (.bool b0) ∧ w'.cell? ⟨gm, 3, none⟩ = some (.bool false) ∧ w'.cell? ⟨gm, 4, none⟩ = some (.int .i64 16) ∧ w'.cell? ⟨gm, 5, none⟩ = some (.int .i64 n0) ∧ w'.cell? ⟨gm, 6, none⟩ = some vc ∧ w'.cell? ⟨gm, 7, none⟩ = some vh ∧ w'.cell? ⟨gm, 8, none⟩ = some vf) ∧
    View w' vc (encL cl []).1 ∧ HView w' vh hl ∧ FView w' vf fl ∧ hl.length ≤ 54 ∧ fl.length ≤ 1000 := by
  obtain ⟨g, cA, cB, cT, cC, σa, ob, σt, σm, σc, his, he, hg, hrow, hb, hA, hB, hT, hC⟩ := h
  obtain ⟨pA, fA, mA, rfl, _⟩ := hA
  obtain ⟨pB, fB, mB, rfl, _⟩ := hB
  obtain ⟨pT, fT, mT, rfl, _⟩ := hT
  obtain ⟨pC, fC, mC, rfl, _, _, rows, hrl, hown, hms⟩ := hC
  obtain ⟨r0, rs, rfl⟩ : ∃ r0 rs, rows = r0 :: rs := by
    cases rows with
    | nil => simp at hrl
    | cons a rs => exact ⟨a, rs, rfl⟩
  have hm0 := hms 0 (.main, σm) r0 rfl rfl
  obtain ⟨vc, vh, vf, fs, rfl, h1, h2, h3, h4⟩ := hm0
  rcases hown.2 with ⟨_, h0⟩ | ⟨gm, cm, cur, hv, _, hgm, k1, k2, _⟩
  · simp at h0
  · have hv' : mC = .slice (some ⟨gm, 0, none⟩) 2 cm := hv
    subst hv'
    have hc : ∀ (i : Nat) (u : Value), (#[Value.string M.BK.main.nm, .string M.BK.main.ds, .bool M.BK.main.st, .bool false, .int .i64 16, .int .i64 ((M.kinds M.BK.main.pl).length : Nat), vc, vh, vf] : Array Value).toList[i]? = some u → w'.cell? ⟨gm, i, none⟩ = some u := fun i u hu => by
      have hi := (List.getElem?_eq_some_iff.1 hu).1
      have := hown.cells (g := gm) rfl i u (by rw [List.flatMap_cons, List.getElem?_append_left hi]; exact hu)
      have e : (⟨gm, 0, none⟩ : Addr).add i = ⟨gm, i, none⟩ := by unfold Addr.add; split <;> simp_all
      rw [e] at this
      exact this
    refine ⟨g, gm, cm, vc, vh, vf, M.codeZ σm, M.handsZ σm, fs.map toFN, _, _, _, _, σm, his.m, rfl, rfl, he, hb, cell_row hrow 19 (by simp), by simpa using k1, by unfold maxLen at k2; exact k2, ⟨hc 0 _ rfl, hc 1 _ rfl, hc 2 _ rfl, hc 3 _ rfl, hc 4 _ rfl, hc 5 _ rfl, hc 6 _ rfl, hc 7 _ rfl, hc 8 _ rfl⟩, code_view h1, GView.h (GView.of_own (T := 44) (fun _ => rfl) h2), frames_view h3 h4, M.body_hands his.m (by decide), ?_⟩
    rw [List.length_map, h4.1]
    exact frames_len his.m (by decide)
set_option maxRecDepth 8000 in
set_option maxHeartbeats 4000000 in
theorem code2_any (vr : Value) (rl : List Int) (w : World) (hr : M.NV w.heap.size w.heap.size w vr rl) :
    Calls Try.prog 5 #[.slice none 0 0, vr] w fun e w' => ∃ (vl vh vf : Value) (σ : M.SG), e = .returned (.tuple #[vl, vh, vf]) ∧ M.BodyIs .main [] σ ∧ IView w' vl (M.codeZ σ) ∧ HView w' vh (M.handsZ σ) ∧ Below w.heap.size w w' := by
  have GD := hidIt (fun v b W hv => rdecode_any rname5 v b W hv)
  have GD1 := hidIt (rdecode_any rname5 (.slice none 0 0) [] w ⟨none, 0, rfl, Nat.le_refl _, by unfold maxLen; omega, fun x hx => by simp at hx, .inl rfl⟩)
  have GC := hidIt (fun W (h : Below w.heap.size w W) => (M.classes_any vr rl W (NVb hr h)).mono fun e w' h => main_parts2 h)
  obtain ⟨aor, capr, rfl, -⟩ := hr
  rw [show decZ5 [] = ([], 0, 0) from rfl] at GD1
  dsimp only at GD1
  go_enter Try.func5, Try.ntmps5
  go_upto_region 2 with (go_at_call 14; refine GD1.out.mono ?_; rintro e w1 ⟨hb1, v1, rfl, ho1⟩; obtain ⟨ao1, cap1, rfl⟩ := own_slice ho1; have HB1 := hidIt hb1; clear hb1 ho1 GD1)
  go_upto_region 5 with (go_at_call 15; refine (GC.out _ HB1.out).mono ?_; rintro e w2 ⟨g, gm, cm, vc, vh, vf, cl, hl, fl, s0, s1, b0, n0, σ, hσ, rfl, rfl, rfl, hb2, m19, hcm1, hcm2, ⟨m0, m1, m2, m3, m4, m5, m6, m7, m8⟩, kc, kh, kf, kl1, kl2⟩)
  obtain ⟨a6, c6, rfl⟩ : ∃ a c, vc = .slice a (encL (M.codeZ σ) []).1.length c := by obtain ⟨a, c, e, _⟩ := kc; exact ⟨a, c, e⟩
  obtain ⟨a7, c7, rfl⟩ : ∃ a c, vh = .slice a (M.handsZ σ).length c := by obtain ⟨a, c, e, _⟩ := kh; exact ⟨a, c, e⟩
  obtain ⟨a8, c8, rfl⟩ : ∃ a c, vf = .slice a fl.length c := by obtain ⟨a, c, e, _⟩ := kf; exact ⟨a, c, e⟩
  have HB2 := hidIt (HB1.out.trans (hb2.mono HB1.out.size))
  have KC := hidIt kc
  have KH := hidIt kh
  have HS := hidIt hσ
  have HZ := hidIt (M.made_back (M.body_made hσ (by decide)))
  clear hb2 kc kh kf kl1 kl2 hσ
  have HA := hidIt (below_alloc w2 (.cells #[.string s0, .string s1, .bool b0, .bool false, .int .i64 16, .int .i64 n0, .slice a6 (encL (M.codeZ σ) []).1.length c6, .slice a7 (M.handsZ σ).length c7, .slice a8 fl.length c8] 52))
  have HX := hidIt (heap_alloc_new w2 (.cells #[.string s0, .string s1, .bool b0, .bool false, .int .i64 16, .int .i64 n0, .slice a6 (encL (M.codeZ σ) []).1.length c6, .slice a7 (M.handsZ σ).length c7, .slice a8 fl.length c8] 52))
  go_upto_region 6 with (fail)
  clear m0 m1 m2 m3 m4 m5 m6 m7 m8 m19
  have HB3 := hidIt (HB2.out.trans (HA.out.mono HB2.out.size))
  have KH2 := hidIt (KH.out.below HA.out)
  have GD2 := hidIt (GD.out _ _ _ (KC.out.below HA.out))
  rw [HZ.out] at GD2
  dsimp only at GD2
  clear KH KC HA
  generalize w2.alloc (.cells #[.string s0, .string s1, .bool b0, .bool false, .int .i64 16, .int .i64 n0, .slice a6 (encL (M.codeZ σ) []).1.length c6, .slice a7 (M.handsZ σ).length c7, .slice a8 fl.length c8] 52) = w3 at *
  have x6 := cell_row HX.out 6 rfl
  go_upto_region 7 with (go_at_call 14; refine GD2.out.mono ?_; rintro e w4 ⟨hb4, v4, rfl, ho4⟩; obtain ⟨ao4, cap4, rfl⟩ := own_slice ho4; have HB4 := hidIt hb4; have HO4 := hidIt ho4; clear hb4 ho4 GD2 x6)
  have HX4 := hidIt ((HB4.out.block _ (Array.getElem?_eq_some_iff.1 HX.out).1).trans HX.out)
  have x7 := cell_row HX4.out 7 rfl
  have x8 := cell_row HX4.out 8 rfl
  have HB5 := hidIt (HB3.out.trans (HB4.out.mono HB3.out.size))
  go_quiet (fail)
  go_wp2
  go_ret3
  exact ⟨_, _, _, σ, rfl, HS.out, (IView.of_own HO4.out).drewN nq, KH2.out.below (below_drewN HB4.out nq), below_drewN HB5.out nq⟩
theorem made_small {σ : M.SG} (h : M.BodyIs .main [] σ) : Places (M.codeZ σ) ∧ (M.codeZ σ).length ≤ 1024 := by
  have h1 := decZ_small (encL (M.codeZ σ) []).1
  rw [M.made_back (M.body_made h (by decide))] at h1
  exact h1
end Go.Proofs.Ytbmfkbgncjldjab
