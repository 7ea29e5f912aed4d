/- Texts MN NA NB NC. -/
import Derived.Test.YtlnapfeglbdecaaBm15
import Derived.Test.YtlnapfeglbdecaaBm01
namespace Go.Proofs.Ytlnapfeglbdecaa.M
open Go.RowKit

theorem put_left (σ : SG) (op a b : Int) : (σ.put op a b).left = σ.left - 1 := rfl
theorem putC_left (σ : SG) (op : Int) (c : CD) : (σ.putC op c).left = σ.left - 1 := rfl
theorem jump_left (σ : SG) (op l : Int) : (σ.jump op l).left = σ.left - 1 := rfl
theorem here_left (σ : SG) (l : Int) : (σ.here l).left = σ.left := rfl
theorem mark_left (σ : SG) : σ.mark.left = σ.left := rfl
theorem caught_left (σ : SG) (a : Int) : (σ.caught a).left = σ.left := rfl
theorem tried_left (σ : SG) (x : TR) : (σ.tried x).left = σ.left := rfl
mutual
theorem Num.left {d : Nat} {pl : Bool} {σ σ' : SG} : Num d pl σ σ' → (σ.left < 20 → σ'.left = σ.left - 1) ∧ (20 ≤ σ.left → 19 - 2 * (d : Int) ≤ σ'.left) ∧ σ'.left < σ.left
  | .c0 _ _ => by rw [put_left]; omega
  | .c1 _ _ => by rw [put_left]; omega
  | .c2 _ _ => by rw [put_left]; omega
  | .bin _ h _ h1 h2 => by
    have a := h1.left
    have b := h2.left
    rw [put_left]; omega
  | .neg h h1 => by
    have a := h1.left
    rw [put_left]; omega
  | .ldc _ h _ => by rw [putC_left]; omega
  | .getx h h1 => by
    have a := h1.left
    rw [putC_left]; omega
  | .iaload h h1 => by
    have a := h1.left
    rw [put_left] at a
    rw [put_left]; omega
  | .calc_ h h1 h2 => by
    have a := h1.left
    have b := h2.left
    rw [putC_left]; omega
  | .virt h h1 h2 => by
    have a := h1.left
    have b := h2.left
    rw [putC_left]; omega
  | .isa _ h _ h1 => by
    have a := h1.left
    rw [putC_left]; omega
theorem Ref.left {d : Nat} {pl : Bool} {σ σ' : SG} : Ref d pl σ σ' → (σ.left < 20 → σ'.left = σ.left - 1) ∧ (20 ≤ σ.left → 19 - 2 * (d : Int) ≤ σ'.left) ∧ σ'.left < σ.left
  | .r0 _ _ => by rw [put_left]; omega
  | .newA => by rw [putC_left]; omega
  | .newB => by rw [putC_left]; omega
  | .next h h1 => by
    have a := h1.left
    rw [putC_left]; omega
  | .stat h => by rw [putC_left]; omega
  | .aaload h h1 => by
    have a := h1.left
    rw [put_left] at a
    rw [put_left]; omega
  | .cast _ h _ h1 => by
    have a := h1.left
    rw [putC_left]; omega
end
theorem Arr.left {pl : Bool} {σ σ' : SG} (h : Arr pl σ σ') (h0 : 25 < σ.left) : 11 ≤ σ'.left ∧ σ'.left < σ.left := by
  cases h with
  | a0 h1 => have a := h1.left; simp only [put_left]; omega
  | a1 k c _ _ => simp only [put_left, putC_left]; omega
  | a2 h1 h2 => have a := h1.left; have b := h2.left; simp only [put_left] at a ⊢; omega
  | a3 k _ h1 => have a := h1.left; simp only [put_left] at a ⊢; omega
theorem Thr.left {σ σ' : SG} (h : Thr σ σ') (h0 : 25 < σ.left) : 11 ≤ σ'.left ∧ σ'.left < σ.left := by
  cases h <;> simp only [put_left, putC_left] <;> omega
theorem Cond.left {pl : Bool} {no : Int} {σ σ' : SG} (h : Cond pl no σ σ') (h0 : 25 < σ.left) : 13 ≤ σ'.left ∧ σ'.left < σ.left := by
  cases h with
  | null op _ h1 => have a := h1.left; rw [jump_left]; omega
  | same op _ h1 h2 => have a := h1.left; have b := h2.left; rw [jump_left]; omega
  | one k _ h1 => have a := h1.left; rw [jump_left]; omega
  | two k _ h1 h2 => have a := h1.left; have b := h2.left; rw [jump_left]; omega
def bnd (e : Nat) : Int := if 4 ≤ e then 11 else 5 * (e : Int) - 9
theorem bnd_step {e : Nat} (h : e < 4) : bnd e = bnd (e + 1) - 5 := by
  unfold bnd
  rw [if_neg (by omega)]
  split <;> omega
theorem bnd_le (e : Nat) : bnd e ≤ 11 := by unfold bnd; split <;> omega
mutual
theorem One.left {e : Nat} {pl : Bool} {σ σ' : SG} : One e pl σ σ' → 25 < σ.left → bnd e ≤ σ'.left ∧ σ'.left < σ.left
  | .set_ _ _ h1, h0 => by
    have a := h1.left; have b := bnd_le e
    rw [put_left]; omega
  | .inc _ _ _ _, h0 => by
    have b := bnd_le e
    rw [put_left]; omega
  | .chs h _ h1, h0 => by
    have a := h1.left h0; have b := bnd_step h
    omega
  | .lp h _ h1, h0 => by
    have a := h1.left h0; have b := bnd_step h
    omega
  | .dup _ _ h1, h0 => by
    have a := h1.left; have b := bnd_le e
    simp only [put_left]; omega
  | .prt h1, h0 => by
    have a := h1.left; have b := bnd_le e
    rw [putC_left]; omega
  | .ast _ _ h1, h0 => by
    have a := h1.left; have b := bnd_le e
    rw [put_left]; omega
  | .ptx h1 h2, h0 => by
    have a := h1.left; have c := h2.left; have b := bnd_le e
    rw [putC_left]; omega
  | .ptn h1 h2, h0 => by
    have a := h1.left; have c := h2.left; have b := bnd_le e
    rw [putC_left]; omega
  | .pts h1, h0 => by
    have a := h1.left; have b := bnd_le e
    rw [putC_left]; omega
  | .arr h1, h0 => by
    have a := h1.left h0; have b := bnd_le e
    omega
  | .tr h _ h1, h0 => by
    have a := h1.left h0; have b := bnd_step h
    omega
  | .lk h h1, h0 => by
    have a := h1.left h0; have b := bnd_step h
    omega
  | .thr h1, h0 => by
    have a := h1.left h0; have b := bnd_le e
    omega
  | .nwt _ _, h0 => by
    have b := bnd_le e
    simp only [put_left, putC_left]; omega
theorem Sm.left {e : Nat} {pl : Bool} {σ σ' : SG} : Sm e pl σ σ' → σ'.left = σ.left ∨ (bnd e ≤ σ'.left ∧ σ'.left < σ.left)
  | .nil => .inl rfl
  | .snoc h1 h h2 => by
    have a := h1.left
    have b := h2.left h
    omega
theorem Chs.left {e : Nat} {pl : Bool} {σ σ' : SG} : Chs e pl σ σ' → 25 < σ.left → bnd e - 2 ≤ σ'.left ∧ σ'.left < σ.left
  | .mk hc h1 h2, h0 => by
    have a := hc.left h0
    have b := h1.left
    have c := h2.left
    have k := bnd_le e
    simp only [here_left, jump_left, put_left, mark_left] at a b c ⊢
    omega
theorem Lp.left {e : Nat} {pl : Bool} {σ σ' : SG} : Lp e pl σ σ' → 25 < σ.left → bnd e - 3 ≤ σ'.left ∧ σ'.left < σ.left
  | .mk _ _ _ _ h1, h0 => by
    have b := h1.left
    have k := bnd_le e
    simp only [here_left, jump_left, put_left, mark_left] at b ⊢
    omega
theorem Tr.left {e : Nat} {pl : Bool} {σ σ' : SG} : Tr e pl σ σ' → 25 < σ.left → bnd e - 5 ≤ σ'.left ∧ σ'.left < σ.left
  | .t0 h1 h2, h0 => by
    have b := h1.left
    have c := h2.left
    have k := bnd_le e
    simp only [here_left, jump_left, put_left, mark_left, caught_left, tried_left] at b c ⊢
    omega
  | .t1 h1 h2, h0 => by
    have b := h1.left
    have c := h2.left
    have k := bnd_le e
    simp only [here_left, jump_left, put_left, mark_left, caught_left, tried_left] at b c ⊢
    omega
theorem Lk.left {e : Nat} {pl : Bool} {σ σ' : SG} : Lk e pl σ σ' → 25 < σ.left → bnd e - 4 ≤ σ'.left ∧ σ'.left < σ.left
  | .l0 _ _ h1, h0 => by
    have b := h1.left
    have k := bnd_le e
    simp only [put_left] at b ⊢
    omega
  | .l1 _ _ _ _ h1, h0 => by
    have b := h1.left
    have k := bnd_le e
    simp only [put_left, putC_left] at b ⊢
    omega
end
end Go.Proofs.Ytlnapfeglbdecaa.M
namespace Go.Proofs.Ytlnapfeglbdecaa.M
open Go.RowKit

def LOk (x : LN) : Prop := (0 ≤ x.hr ∧ x.lb = -1) ∨ (x.hr = -1 ∧ x.lb = -1 ∧ kd x.op ≠ 0 ∧ kd x.op ≠ 6 ∧ fitsB ⟨0, x.op, x.a, x.b⟩ = true) ∨ (x.hr = -1 ∧ 0 ≤ x.lb ∧ kd x.op = 6 ∧ x.a = 0 ∧ x.b = 0)
structure Good (σ : SG) : Prop where
  ls : ∀ x ∈ σ.ls, LOk x ∧ x.lb < σ.labels ∧ x.hr < σ.labels
  hs : ∀ x ∈ σ.hs, (0 ≤ x.f ∧ x.f < σ.labels) ∧ (0 ≤ x.t ∧ x.t < σ.labels) ∧ 0 ≤ x.a ∧ x.a < σ.labels
  pool : σ.pool.length ≤ 256
def SG.heres (σ : SG) : Nat := (σ.ls.filter (fun x => decide (0 ≤ x.hr))).length
def SG.ins (σ : SG) : Nat := (σ.ls.filter (fun x => !decide (0 ≤ x.hr))).length
theorem heres_ins (σ : SG) : σ.heres + σ.ins = σ.ls.length := by
  unfold SG.heres SG.ins
  induction σ.ls with
  | nil => rfl
  | cons x l ih =>
    simp only [List.filter_cons, List.length_cons]
    by_cases h : 0 ≤ x.hr
    · simp [h]; omega
    · simp [h]; omega
structure Rl (k : Int) (σ σ' : SG) : Prop where
  lab : σ.labels ≤ σ'.labels
  bal : (σ'.heres : Int) + σ.labels + k = σ.heres + σ'.labels
  ins : (σ'.ins : Int) + σ'.left = σ.ins + σ.left
  good : Good σ → Good σ'
  pre : ∃ seg, σ'.ls = σ.ls ++ seg
  rt : (∀ c ∈ σ.pool, P3.rightB c = true) → ∀ c ∈ σ'.pool, P3.rightB c = true
theorem Rl.refl (σ : SG) : Rl 0 σ σ := ⟨Nat.le_refl _, by omega, rfl, id, ⟨[], by simp⟩, id⟩
theorem Rl.trans {k m : Int} {a b c : SG} (h : Rl k a b) (g : Rl m b c) : Rl (k + m) a c := by
  obtain ⟨s1, e1⟩ := h.pre
  obtain ⟨s2, e2⟩ := g.pre
  refine ⟨Nat.le_trans h.lab g.lab, ?_, ?_, g.good ∘ h.good, ⟨s1 ++ s2, by rw [e2, e1, List.append_assoc]⟩, fun x => g.rt (h.rt x)⟩
  · have := h.bal; have := g.bal; omega
  · have := h.ins; have := g.ins; omega
theorem good_put {σ : SG} {op a b : Int} (h : Good σ) (h0 : kd op ≠ 0) (h6 : kd op ≠ 6) (hf : fitsB ⟨0, op, a, b⟩ = true) : Good (σ.put op a b) := by
  refine ⟨fun x hx => ?_, h.hs, h.pool⟩
  rcases List.mem_append.1 hx with hx | hx
  · exact h.ls x hx
  · simp at hx; subst hx
    exact ⟨.inr (.inl ⟨rfl, rfl, h0, h6, hf⟩), by show (-1 : Int) < (σ.labels : Int); omega, by show (-1 : Int) < (σ.labels : Int); omega⟩
theorem good_jump {σ : SG} {op l : Int} (h : Good σ) (h6 : kd op = 6) (h0 : 0 ≤ l) (hl : l < σ.labels) : Good (σ.jump op l) := by
  refine ⟨fun x hx => ?_, h.hs, h.pool⟩
  rcases List.mem_append.1 hx with hx | hx
  · exact h.ls x hx
  · simp at hx; subst hx
    exact ⟨.inr (.inr ⟨rfl, h0, h6, rfl, rfl⟩), hl, by show (-1 : Int) < (σ.labels : Int); omega⟩
theorem good_here {σ : SG} {l : Int} (h : Good σ) (h0 : 0 ≤ l) (hl : l < σ.labels) : Good (σ.here l) := by
  refine ⟨fun x hx => ?_, h.hs, h.pool⟩
  rcases List.mem_append.1 hx with hx | hx
  · exact h.ls x hx
  · simp at hx; subst hx
    exact ⟨.inl ⟨h0, rfl⟩, by show (-1 : Int) < (σ.labels : Int); omega, hl⟩
theorem good_mark {σ : SG} (h : Good σ) : Good σ.mark := by
  refine ⟨fun x hx => ?_, fun x hx => ?_, h.pool⟩
  · obtain ⟨a, b, c⟩ := h.ls x hx
    exact ⟨a, by show x.lb < ((σ.labels + 1 : Nat) : Int); omega, by show x.hr < ((σ.labels + 1 : Nat) : Int); omega⟩
  · have := h.hs x hx
    show (0 ≤ x.f ∧ x.f < ((σ.labels + 1 : Nat) : Int)) ∧ (0 ≤ x.t ∧ x.t < ((σ.labels + 1 : Nat) : Int)) ∧ 0 ≤ x.a ∧ x.a < ((σ.labels + 1 : Nat) : Int)
    omega
theorem idx_lt {l : List CD} {c : CD} {k : Nat} (h : P3.idxO c l = some k) : k < l.length := by
  induction l generalizing k with
  | nil => unfold P3.idxO at h; cases h
  | cons d l ih =>
    unfold P3.idxO at h
    split at h
    · cases h; simp
    · obtain ⟨m, hm, rfl⟩ := Option.map_eq_some_iff.1 h
      have := ih hm
      simp; omega
theorem add_pool {l : List CD} (c : CD) (h : l.length ≤ 256) : (P3.addZ l c).1.length ≤ 256 ∧ 0 ≤ (P3.addZ l c).2.1 ∧ (P3.addZ l c).2.1 ≤ 255 := by
  unfold P3.addZ
  split
  · split
    · rename_i k hk
      have := idx_lt hk
      exact ⟨h, by simp only; omega, by simp only; omega⟩
    · split
      · exact ⟨by simp, by simp, by simp⟩
      · exact ⟨by simp; omega, by simp only; omega, by simp only; omega⟩
  · exact ⟨by simp, by simp, by simp⟩
theorem add_right {σ : SG} (c : CD) (h : ∀ x ∈ σ.pool, P3.rightB x = true) : ∀ x ∈ (σ.add c).pool, P3.rightB x = true := by
  show ∀ x ∈ (P3.addZ σ.pool c).1, P3.rightB x = true
  unfold P3.addZ
  split
  · rename_i hc
    split
    · exact h
    · split
      · intro x hx; simp at hx
      · intro x hx
        rcases List.mem_append.1 hx with hx | hx
        · exact h x hx
        · simp at hx; subst hx; exact hc
  · intro x hx; simp at hx
theorem good_add {σ : SG} (c : CD) (h : Good σ) : Good (σ.add c) := ⟨h.ls, h.hs, (add_pool c h.pool).1⟩
theorem heres_put (σ : SG) (op a b : Int) : (σ.put op a b).heres = σ.heres ∧ (σ.put op a b).ins = σ.ins + 1 := by
  simp [SG.put, SG.heres, SG.ins, List.filter_append]
theorem heres_jump (σ : SG) (op l : Int) : (σ.jump op l).heres = σ.heres ∧ (σ.jump op l).ins = σ.ins + 1 := by
  simp [SG.jump, SG.heres, SG.ins, List.filter_append]
theorem heres_here (σ : SG) (l : Int) (h : 0 ≤ l) : (σ.here l).heres = σ.heres + 1 ∧ (σ.here l).ins = σ.ins := by
  simp [SG.here, SG.heres, SG.ins, List.filter_append, h]
theorem rl_put (σ : SG) (op a b : Int) (h0 : kd op ≠ 0) (h6 : kd op ≠ 6) (hf : fitsB ⟨0, op, a, b⟩ = true) : Rl 0 σ (σ.put op a b) := by
  obtain ⟨e1, e2⟩ := heres_put σ op a b
  exact ⟨Nat.le_refl _, by rw [e1]; show _ = (_ : Int) + (σ.labels : Int); omega, by rw [e2, put_left]; omega, fun h => good_put h h0 h6 hf, ⟨_, rfl⟩, id⟩
theorem rl_jump (σ : SG) (op l : Int) (h6 : kd op = 6) (h0 : 0 ≤ l) (hl : l < σ.labels) : Rl 0 σ (σ.jump op l) := by
  obtain ⟨e1, e2⟩ := heres_jump σ op l
  exact ⟨Nat.le_refl _, by rw [e1]; show _ = (_ : Int) + (σ.labels : Int); omega, by rw [e2, jump_left]; omega, fun h => good_jump h h6 h0 hl, ⟨_, rfl⟩, id⟩
theorem rl_here (σ : SG) (l : Int) (h0 : 0 ≤ l) (hl : l < σ.labels) : Rl (-1) σ (σ.here l) := by
  obtain ⟨e1, e2⟩ := heres_here σ l h0
  exact ⟨Nat.le_refl _, by rw [e1]; show _ = (_ : Int) + (σ.labels : Int); omega, by rw [e2, here_left], fun h => good_here h h0 hl, ⟨_, rfl⟩, id⟩
theorem rl_mark (σ : SG) : Rl 1 σ σ.mark :=
  ⟨Nat.le_succ _, by show (σ.heres : Int) + σ.labels + 1 = σ.heres + ((σ.labels + 1 : Nat) : Int); omega, rfl, good_mark, ⟨[], by simp [SG.mark]⟩, id⟩
theorem rl_putC (σ : SG) (op : Int) (c : CD) (hk : kd op = 2 ∨ kd op = 4) : Rl 0 σ (σ.putC op c) := by
  obtain ⟨e1, e2⟩ := heres_put (σ.add c) op (σ.ix c) 0
  refine ⟨Nat.le_refl _, ?_, ?_, fun h => ?_, ⟨_, rfl⟩, add_right c⟩
  · show ((((σ.add c).put op (σ.ix c) 0).heres : Nat) : Int) + σ.labels + 0 = σ.heres + (σ.labels : Int)
    rw [e1]; show (σ.heres : Int) + _ + _ = _; omega
  · show ((((σ.add c).put op (σ.ix c) 0).ins : Nat) : Int) + (σ.left - 1) = σ.ins + σ.left
    rw [e2]; show ((σ.ins + 1 : Nat) : Int) + _ = _; omega
  · have hp := add_pool c h.pool
    refine good_put (good_add c h) (by rcases hk with h | h <;> omega) (by rcases hk with h | h <;> omega) ?_
    have hx : 0 ≤ σ.ix c ∧ σ.ix c ≤ 255 := hp.2
    unfold fitsB
    rcases hk with h | h
    · simp only [h]; simp; omega
    · simp only [h]; simp; omega
end Go.Proofs.Ytlnapfeglbdecaa.M
namespace Go.Proofs.Ytlnapfeglbdecaa.M
open Go.RowKit

theorem Rl.put {k : Int} {σ σ1 : SG} (h : Rl k σ σ1) {op a b : Int} (hf : (kd op ≠ 0 ∧ kd op ≠ 6) ∧ fitsB ⟨0, op, a, b⟩ = true) : Rl k σ (σ1.put op a b) := by
  have := h.trans (rl_put σ1 op a b hf.1.1 hf.1.2 hf.2)
  rwa [Int.add_zero] at this
theorem Rl.putC {k : Int} {σ σ1 : SG} (h : Rl k σ σ1) {op : Int} {c : CD} (hk : kd op = 2 ∨ kd op = 4) : Rl k σ (σ1.putC op c) := by
  have := h.trans (rl_putC σ1 op c hk)
  rwa [Int.add_zero] at this
theorem Rl.tr0 {k : Int} {σ σ1 σ2 : SG} (h : Rl k σ σ1) (g : Rl 0 σ1 σ2) : Rl k σ σ2 := by
  have := h.trans g
  rwa [Int.add_zero] at this
theorem Rl.jump {k : Int} {σ σ1 : SG} (h : Rl k σ σ1) {op l : Int} (h6 : kd op = 6) (h0 : 0 ≤ l) (hl : l < σ1.labels) : Rl k σ (σ1.jump op l) := h.tr0 (rl_jump σ1 op l h6 h0 hl)
theorem Rl.here {k : Int} {σ σ1 : SG} (h : Rl k σ σ1) {l : Int} (h0 : 0 ≤ l) (hl : l < σ1.labels) : Rl (k - 1) σ (σ1.here l) := h.trans (rl_here σ1 l h0 hl)
theorem Rl.mark {k : Int} {σ σ1 : SG} (h : Rl k σ σ1) : Rl (k + 1) σ σ1.mark := h.trans (rl_mark σ1)
theorem Rl.caught {k : Int} {σ σ1 : SG} (h : Rl k σ σ1) (a : Int) : Rl k σ (σ1.caught a) := ⟨h.lab, h.bal, h.ins, fun g => ⟨(h.good g).ls, (h.good g).hs, (h.good g).pool⟩, h.pre, h.rt⟩
theorem Rl.tried {k : Int} {σ σ1 : SG} (h : Rl k σ σ1) {x : TR} (hx : (0 ≤ x.f ∧ x.f < σ1.labels) ∧ (0 ≤ x.t ∧ x.t < σ1.labels) ∧ 0 ≤ x.a ∧ x.a < σ1.labels) : Rl k σ (σ1.tried x) := by
  refine ⟨h.lab, h.bal, h.ins, fun g => ⟨(h.good g).ls, fun y hy => ?_, (h.good g).pool⟩, h.pre, h.rt⟩
  rcases List.mem_append.1 hy with hy | hy
  · exact (h.good g).hs y hy
  · simp at hy; subst hy; exact hx
theorem f1 (op : Int) (h : kd op = 1) : (kd op ≠ 0 ∧ kd op ≠ 6) ∧ fitsB ⟨0, op, 0, 0⟩ = true := by
  refine ⟨by omega, ?_⟩
  unfold fitsB
  simp only [h]
  decide
theorem f2 (op a : Int) (h : kd op = 2) (h0 : 0 ≤ a) (h1 : a ≤ 255) : (kd op ≠ 0 ∧ kd op ≠ 6) ∧ fitsB ⟨0, op, a, 0⟩ = true := by
  refine ⟨by omega, ?_⟩
  unfold fitsB
  simp only [h]
  simp; omega
theorem f3 (a : Int) (h0 : -128 ≤ a) (h1 : a ≤ 127) : (kd 16 ≠ 0 ∧ kd 16 ≠ 6) ∧ fitsB ⟨0, 16, a, 0⟩ = true := by
  have h : kd 16 = 3 := by decide
  refine ⟨by omega, ?_⟩
  unfold fitsB
  simp only [h]
  simp; omega
theorem f5 (a : Int) (h0 : -32768 ≤ a) (h1 : a ≤ 32767) : (kd 17 ≠ 0 ∧ kd 17 ≠ 6) ∧ fitsB ⟨0, 17, a, 0⟩ = true := by
  have h : kd 17 = 5 := by decide
  refine ⟨by omega, ?_⟩
  unfold fitsB
  simp only [h]
  simp; omega
theorem f7 (a b : Int) (h0 : 0 ≤ a) (h1 : a ≤ 255) (h2 : -128 ≤ b) (h3 : b ≤ 127) : (kd 132 ≠ 0 ∧ kd 132 ≠ 6) ∧ fitsB ⟨0, 132, a, b⟩ = true := by
  have h : kd 132 = 7 := by decide
  refine ⟨by omega, ?_⟩
  unfold fitsB
  simp only [h]
  simp; omega
theorem kd_c (k : Nat) (h : k < 6) : kd (3 + (k : Int)) = 1 := by
  match k, h with
  | 0, _ => decide
  | 1, _ => decide
  | 2, _ => decide
  | 3, _ => decide
  | 4, _ => decide
  | 5, _ => decide
theorem kd_bin {op : Int} (h : op ∈ binOps) : kd op = 1 := by
  simp [binOps] at h
  rcases h with rfl | rfl | rfl | rfl | rfl | rfl | rfl | rfl | rfl | rfl | rfl <;> decide
mutual
theorem Num.rl {d : Nat} {pl : Bool} {σ σ' : SG} : Num d pl σ σ' → Rl 0 σ σ'
  | .c0 k h => (Rl.refl σ).put (f1 _ (kd_c k h))
  | .c1 k h => (Rl.refl σ).put (f2 21 _ (by decide) (by omega) (by omega))
  | .c2 k h => (Rl.refl σ).put (f5 _ (by omega) (by omega))
  | .bin _ _ hm h1 h2 => (h1.rl.tr0 h2.rl).put (f1 _ (kd_bin hm))
  | .neg _ h1 => h1.rl.put (f1 116 (by decide))
  | .ldc _ _ _ => (Rl.refl σ).putC (by decide)
  | .getx _ h1 => h1.rl.putC (by decide)
  | .iaload _ h1 => (((Rl.refl σ).put (f2 25 6 (by decide) (by omega) (by omega))).tr0 h1.rl).put (f1 46 (by decide))
  | .calc_ _ h1 h2 => (h1.rl.tr0 h2.rl).putC (by decide)
  | .virt _ h1 h2 => (h1.rl.tr0 h2.rl).putC (by decide)
  | .isa _ _ _ h1 => h1.rl.putC (by decide)
theorem Ref.rl {d : Nat} {pl : Bool} {σ σ' : SG} : Ref d pl σ σ' → Rl 0 σ σ'
  | .r0 k h => (Rl.refl σ).put (f2 25 _ (by decide) (by omega) (by omega))
  | .newA => (Rl.refl σ).putC (by decide)
  | .newB => (Rl.refl σ).putC (by decide)
  | .next _ h1 => h1.rl.putC (by decide)
  | .stat _ => (Rl.refl σ).putC (by decide)
  | .aaload _ h1 => (((Rl.refl σ).put (f2 25 9 (by decide) (by omega) (by omega))).tr0 h1.rl).put (f1 50 (by decide))
  | .cast _ _ _ h1 => h1.rl.putC (by decide)
end
theorem Arr.rl {pl : Bool} {σ σ' : SG} (h : Arr pl σ σ') : Rl 0 σ σ' := by
  cases h with
  | a0 h1 => exact (h1.rl.put (f2 188 10 (by decide) (by omega) (by omega))).put (f2 58 6 (by decide) (by omega) (by omega))
  | a1 k c hk _ => exact (((Rl.refl σ).put (f3 _ (by omega) (by omega))).putC (by decide)).put (f2 58 9 (by decide) (by omega) (by omega))
  | a2 h1 h2 => exact ((((Rl.refl σ).put (f2 25 6 (by decide) (by omega) (by omega))).tr0 h1.rl).tr0 h2.rl).put (f1 79 (by decide))
  | a3 k hk h1 => exact ((((Rl.refl σ).put (f2 25 9 (by decide) (by omega) (by omega))).put (f1 _ (kd_c k (by omega)))).tr0 h1.rl).put (f1 83 (by decide))
theorem Thr.rl {σ σ' : SG} (h : Thr σ σ') : Rl 0 σ σ' := by
  cases h with
  | t0 => exact ((Rl.refl σ).putC (by decide)).put (f2 58 8 (by decide) (by omega) (by omega))
  | t1 => exact ((Rl.refl σ).put (f2 25 8 (by decide) (by omega) (by omega))).putC (by decide)
  | t2 => exact ((Rl.refl σ).put (f2 25 8 (by decide) (by omega) (by omega))).putC (by decide)
  | t3 k hk => exact ((Rl.refl σ).put (f1 _ (kd_c k (by omega)))).putC (by decide)
theorem kd_if (k : Nat) (h : k < 6) : kd (153 + (k : Int)) = 6 ∧ kd (159 + (k : Int)) = 6 := by
  rw [kd_six, kd_six]; omega
theorem Cond.rl {pl : Bool} {no : Int} {σ σ' : SG} (h : Cond pl no σ σ') (h0 : 0 ≤ no) (hl : no < σ.labels) : Rl 0 σ σ' := by
  cases h with
  | null op hm h1 => have := h1.rl.lab; exact h1.rl.jump (by rw [kd_six]; simp at hm; omega) h0 (by omega)
  | same op hm h1 h2 => have a := h1.rl.lab; have b := h2.rl.lab; exact (h1.rl.tr0 h2.rl).jump (by rw [kd_six]; simp at hm; omega) h0 (by omega)
  | one k hk h1 => have := h1.rl.lab; exact h1.rl.jump (kd_if k hk).1 h0 (by omega)
  | two k hk h1 h2 => have a := h1.rl.lab; have b := h2.rl.lab; exact (h1.rl.tr0 h2.rl).jump (kd_if k hk).2 h0 (by omega)
theorem mark_lab (σ : SG) : σ.mark.labels = σ.labels + 1 := rfl
theorem jump_lab (σ : SG) (op l : Int) : (σ.jump op l).labels = σ.labels := rfl
theorem put_lab (σ : SG) (op a b : Int) : (σ.put op a b).labels = σ.labels := rfl
theorem here_lab (σ : SG) (l : Int) : (σ.here l).labels = σ.labels := rfl
theorem putC_lab (σ : SG) (op : Int) (c : CD) : (σ.putC op c).labels = σ.labels := rfl
theorem caught_lab (σ : SG) (a : Int) : (σ.caught a).labels = σ.labels := rfl
theorem tried_lab (σ : SG) (x : TR) : (σ.tried x).labels = σ.labels := rfl
theorem k_goto : kd 167 = 6 := by decide
theorem k_cmp : kd 162 = 6 := by decide
mutual
theorem One.rl {e : Nat} {pl : Bool} {σ σ' : SG} : One e pl σ σ' → Rl 0 σ σ'
  | .set_ k hk h1 => h1.rl.put (f2 54 _ (by decide) (by omega) (by omega))
  | .inc k j hk hj => (Rl.refl σ).put (f7 _ _ (by omega) (by omega) (by omega) (by omega))
  | .chs _ _ h1 => h1.rl
  | .lp _ _ h1 => h1.rl
  | .dup k hk h1 => (((h1.rl.put (f1 89 (by decide))).put (f1 95 (by decide))).put (f1 87 (by decide))).put (f2 54 _ (by decide) (by omega) (by omega))
  | .prt h1 => h1.rl.putC (by decide)
  | .ast k hk h1 => h1.rl.put (f2 58 _ (by decide) (by omega) (by omega))
  | .ptx h1 h2 => (h1.rl.tr0 h2.rl).putC (by decide)
  | .ptn h1 h2 => (h1.rl.tr0 h2.rl).putC (by decide)
  | .pts h1 => h1.rl.putC (by decide)
  | .arr h1 => h1.rl
  | .tr _ _ h1 => h1.rl
  | .lk _ h1 => h1.rl
  | .thr h1 => h1.rl
  | .nwt _ _ => ((Rl.refl σ).putC (by decide)).put (f2 58 7 (by decide) (by omega) (by omega))
theorem Sm.rl {e : Nat} {pl : Bool} {σ σ' : SG} : Sm e pl σ σ' → Rl 0 σ σ'
  | .nil => Rl.refl _
  | .snoc h1 _ h2 => h1.rl.tr0 h2.rl
theorem Chs.rl {e : Nat} {pl : Bool} {σ σ' : SG} : Chs e pl σ σ' → Rl 0 σ σ'
  | .mk hc h1 h2 => by
    have a := hc.rl (by omega) (by simp only [mark_lab]; omega)
    have la := a.lab
    have b := h1.rl
    have lb := b.lab
    have c := h2.rl
    have lc := c.lab
    simp only [mark_lab, here_lab, jump_lab] at la lb lc
    have r1 := (((Rl.refl σ).mark.mark.tr0 a).tr0 b).jump (op := 167) (l := (σ.mark.labels : Int)) k_goto (by omega) (by simp only [mark_lab]; omega)
    have r2 := (r1.here (l := (σ.labels : Int)) (by omega) (by rw [jump_lab]; omega)).tr0 c
    have r3 := (r2.here (l := (σ.mark.labels : Int)) (by omega) (by simp only [mark_lab]; omega)).put (f1 0 (by decide))
    simpa using r3
theorem Lp.rl {e : Nat} {pl : Bool} {σ σ' : SG} : Lp e pl σ σ' → Rl 0 σ σ'
  | .mk v k hv hk h1 => by
    have b := h1.rl
    have lb := b.lab
    simp only [mark_lab, here_lab, jump_lab, put_lab] at lb
    have r1 := (((Rl.refl σ).mark.mark.put (f1 3 (by decide))).put (f2 54 (v : Int) (by decide) (by omega) (by omega))).here (l := (σ.labels : Int)) (by omega) (by simp only [mark_lab, put_lab]; omega)
    have r2 := ((r1.put (f2 21 (v : Int) (by decide) (by omega) (by omega))).put (f1 _ (kd_c k hk))).jump (op := 162) (l := (σ.mark.labels : Int)) k_cmp (by omega) (by simp only [mark_lab, put_lab, here_lab]; omega)
    have r3 := ((r2.tr0 b).put (f7 (v : Int) 1 (by omega) (by omega) (by omega) (by omega))).jump (op := 167) (l := (σ.labels : Int)) k_goto (by omega) (by rw [put_lab]; omega)
    have r4 := (r3.here (l := (σ.mark.labels : Int)) (by omega) (by simp only [mark_lab, jump_lab, put_lab]; omega)).put (f1 0 (by decide))
    simpa using r4
theorem Tr.rl {e : Nat} {pl : Bool} {σ σ' : SG} : Tr e pl σ σ' → Rl 0 σ σ'
  | .t0 h1 h2 => by
    have b := h1.rl
    have c := h2.rl
    have lb := b.lab
    have lc := c.lab
    simp only [mark_lab, here_lab, jump_lab, put_lab, caught_lab, tried_lab] at lb lc
    have r1 := (((Rl.refl σ).mark.mark.mark.mark.here (l := (σ.labels : Int)) (by omega) (by simp only [mark_lab]; omega)).put (f1 0 (by decide))).tr0 b
    have r2 := ((r1.here (l := (σ.mark.labels : Int)) (by omega) (by simp only [mark_lab]; omega)).jump (op := 167) (l := (σ.mark.mark.mark.labels : Int)) k_goto (by omega) (by simp only [mark_lab, here_lab]; omega)).here (l := (σ.mark.mark.labels : Int)) (by omega) (by simp only [mark_lab, here_lab, jump_lab]; omega)
    have r3 := (((r2.caught (σ.mark.mark.labels : Int)).put (f2 58 7 (by decide) (by omega) (by omega))).tried (x := ⟨(σ.labels : Int), (σ.mark.labels : Int), (σ.mark.mark.labels : Int)⟩) (by simp only [mark_lab, here_lab, jump_lab, put_lab, caught_lab]; omega)).tr0 c
    have r4 := (r3.here (l := (σ.mark.mark.mark.labels : Int)) (by omega) (by simp only [mark_lab]; omega)).put (f1 0 (by decide))
    simpa using r4
  | .t1 h1 h2 => by
    have b := h1.rl
    have c := h2.rl
    have lb := b.lab
    have lc := c.lab
    simp only [mark_lab, here_lab, jump_lab, put_lab, caught_lab, tried_lab] at lb lc
    have r1 := (((Rl.refl σ).mark.mark.mark.mark.here (l := (σ.labels : Int)) (by omega) (by simp only [mark_lab]; omega)).put (f1 0 (by decide))).tr0 b
    have r2 := ((r1.here (l := (σ.mark.labels : Int)) (by omega) (by simp only [mark_lab]; omega)).jump (op := 167) (l := (σ.mark.mark.mark.labels : Int)) k_goto (by omega) (by simp only [mark_lab, here_lab]; omega)).here (l := (σ.mark.mark.labels : Int)) (by omega) (by simp only [mark_lab, here_lab, jump_lab]; omega)
    have r3 := (((r2.caught (σ.mark.mark.labels : Int)).put (f2 58 7 (by decide) (by omega) (by omega))).tried (x := ⟨(σ.labels : Int), (σ.mark.labels : Int), (σ.mark.mark.labels : Int)⟩) (by simp only [mark_lab, here_lab, jump_lab, put_lab, caught_lab]; omega)).tr0 c
    have r4 := (((r3.put (f2 25 7 (by decide) (by omega) (by omega))).put (f1 191 (by decide))).here (l := (σ.mark.mark.mark.labels : Int)) (by omega) (by simp only [mark_lab, put_lab]; omega)).put (f1 0 (by decide))
    simpa using r4
theorem Lk.rl {e : Nat} {pl : Bool} {σ σ' : SG} : Lk e pl σ σ' → Rl 0 σ σ'
  | .l0 v hv h1 => (((((Rl.refl σ).put (f2 25 _ (by decide) (by omega) (by omega))).put (f1 194 (by decide))).tr0 h1.rl).put (f2 25 _ (by decide) (by omega) (by omega))).put (f1 195 (by decide))
  | .l1 v _ hv _ h1 => (((((((Rl.refl σ).put (f2 25 _ (by decide) (by omega) (by omega))).put (f1 194 (by decide))).tr0 h1.rl).put (f2 25 _ (by decide) (by omega) (by omega))).putC (by decide)).put (f2 25 _ (by decide) (by omega) (by omega))).put (f1 195 (by decide))
end
end Go.Proofs.Ytlnapfeglbdecaa.M
namespace Go.Proofs.Ytlnapfeglbdecaa.M
open Go.RowKit

mutual
theorem Num.lab {d : Nat} {pl : Bool} {σ σ' : SG} : Num d pl σ σ' → σ'.labels = σ.labels
  | .c0 _ _ => rfl
  | .c1 _ _ => rfl
  | .c2 _ _ => rfl
  | .bin _ _ _ h1 h2 => by rw [put_lab, h2.lab, h1.lab]
  | .neg _ h1 => by rw [put_lab, h1.lab]
  | .ldc _ _ _ => rfl
  | .getx _ h1 => by rw [putC_lab, h1.lab]
  | .iaload _ h1 => by rw [put_lab, h1.lab, put_lab]
  | .calc_ _ h1 h2 => by rw [putC_lab, h2.lab, h1.lab]
  | .virt _ h1 h2 => by rw [putC_lab, h2.lab, h1.lab]
  | .isa _ _ _ h1 => by rw [putC_lab, h1.lab]
theorem Ref.lab {d : Nat} {pl : Bool} {σ σ' : SG} : Ref d pl σ σ' → σ'.labels = σ.labels
  | .r0 _ _ => rfl
  | .newA => rfl
  | .newB => rfl
  | .next _ h1 => by rw [putC_lab, h1.lab]
  | .stat _ => rfl
  | .aaload _ h1 => by rw [put_lab, h1.lab, put_lab]
  | .cast _ _ _ h1 => by rw [putC_lab, h1.lab]
end
theorem Arr.lab {pl : Bool} {σ σ' : SG} (h : Arr pl σ σ') : σ'.labels = σ.labels := by
  cases h with
  | a0 h1 => simp only [put_lab, h1.lab]
  | a1 k c _ _ => rfl
  | a2 h1 h2 => simp only [put_lab, h2.lab, h1.lab]
  | a3 k _ h1 => simp only [put_lab, h1.lab]
theorem Thr.lab {σ σ' : SG} (h : Thr σ σ') : σ'.labels = σ.labels := by cases h <;> rfl
theorem Cond.lab {pl : Bool} {no : Int} {σ σ' : SG} (h : Cond pl no σ σ') : σ'.labels = σ.labels := by
  cases h with
  | null op _ h1 => rw [jump_lab, h1.lab]
  | same op _ h1 h2 => rw [jump_lab, h2.lab, h1.lab]
  | one k _ h1 => rw [jump_lab, h1.lab]
  | two k _ h1 h2 => rw [jump_lab, h2.lab, h1.lab]
mutual
theorem One.l54 {e : Nat} {pl : Bool} {σ σ' : SG} : One e pl σ σ' → σ.labels ≤ 54 → σ'.labels ≤ 54
  | .set_ _ _ h1, h => by rw [put_lab, h1.lab]; exact h
  | .inc _ _ _ _, h => h
  | .chs _ h5 h1, _ => h1.l54 h5
  | .lp _ h5 h1, _ => h1.l54 h5
  | .dup _ _ h1, h => by simp only [put_lab, h1.lab]; exact h
  | .prt h1, h => by rw [putC_lab, h1.lab]; exact h
  | .ast _ _ h1, h => by rw [put_lab, h1.lab]; exact h
  | .ptx h1 h2, h => by rw [putC_lab, h2.lab, h1.lab]; exact h
  | .ptn h1 h2, h => by rw [putC_lab, h2.lab, h1.lab]; exact h
  | .pts h1, h => by rw [putC_lab, h1.lab]; exact h
  | .arr h1, h => by rw [h1.lab]; exact h
  | .tr _ h5 h1, _ => h1.l54 h5
  | .lk _ h1, h => h1.l54 h
  | .thr h1, h => by rw [h1.lab]; exact h
  | .nwt _ _, h => h
theorem Sm.l54 {e : Nat} {pl : Bool} {σ σ' : SG} : Sm e pl σ σ' → σ.labels ≤ 54 → σ'.labels ≤ 54
  | .nil, h => h
  | .snoc h1 _ h2, h => h2.l54 (h1.l54 h)
theorem Chs.l54 {e : Nat} {pl : Bool} {σ σ' : SG} : Chs e pl σ σ' → σ.labels ≤ 50 → σ'.labels ≤ 54
  | .mk hc h1 h2, h => by
    have a := hc.lab
    have b := h1.l54 (by rw [a]; simp only [mark_lab]; omega)
    have c := h2.l54 (by simp only [here_lab, jump_lab]; exact b)
    simp only [put_lab, here_lab]
    exact c
theorem Lp.l54 {e : Nat} {pl : Bool} {σ σ' : SG} : Lp e pl σ σ' → σ.labels ≤ 50 → σ'.labels ≤ 54
  | .mk _ _ _ _ h1, h => by
    have b := h1.l54 (by simp only [jump_lab, put_lab, here_lab, mark_lab]; omega)
    simp only [put_lab, here_lab, jump_lab]
    exact b
theorem Tr.l54 {e : Nat} {pl : Bool} {σ σ' : SG} : Tr e pl σ σ' → σ.labels ≤ 50 → σ'.labels ≤ 54
  | .t0 h1 h2, h => by
    have b := h1.l54 (by simp only [put_lab, here_lab, mark_lab]; omega)
    have c := h2.l54 (by simp only [tried_lab, put_lab, caught_lab, here_lab, jump_lab]; exact b)
    simp only [put_lab, here_lab]
    exact c
  | .t1 h1 h2, h => by
    have b := h1.l54 (by simp only [put_lab, here_lab, mark_lab]; omega)
    have c := h2.l54 (by simp only [tried_lab, put_lab, caught_lab, here_lab, jump_lab]; exact b)
    simp only [put_lab, here_lab]
    exact c
theorem Lk.l54 {e : Nat} {pl : Bool} {σ σ' : SG} : Lk e pl σ σ' → σ.labels ≤ 54 → σ'.labels ≤ 54
  | .l0 _ _ h1, h => by
    have b := h1.l54 (by simp only [put_lab]; exact h)
    simp only [put_lab]
    exact b
  | .l1 _ _ _ _ h1, h => by
    have b := h1.l54 (by simp only [put_lab]; exact h)
    simp only [put_lab, putC_lab]
    exact b
end
end Go.Proofs.Ytlnapfeglbdecaa.M
