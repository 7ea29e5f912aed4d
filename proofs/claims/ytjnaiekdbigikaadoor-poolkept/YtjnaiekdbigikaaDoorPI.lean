/- Index and Same over constants: walked. -/
import Derived.Test.YtjnaiekdbigikaaDoorPV
import Derived.Deep.QuietTactic
import Derived.BigQuiet
namespace Go.Proofs.YtjnaiekdbigikaaDoor
open Go.RowKit

def idxO (c : CD) : List CD → Option Nat
  | [] => none
  | d :: l => if ceq c d = true then some 0 else (idxO c l).map (· + 1)
theorem idxO_some {c : CD} : ∀ {l : List CD} {k : Nat} {d : CD}, l[k]? = some d → ceq c d = true → (∀ x ∈ l.take k, ceq c x = false) → idxO c l = some k := by
  intro l
  induction l with
  | nil => intro k d h; simp at h
  | cons x l ih =>
    intro k d h he hn
    cases k with
    | zero => simp at h; subst h; simp [idxO, he]
    | succ k =>
      have hx := hn x (by simp)
      simp only [idxO, hx, Bool.false_eq_true, if_false]
      rw [ih (k := k) (d := d) (by simpa using h) he (fun y hy => hn y (by simp [hy]))]
      rfl
theorem idxO_none {c : CD} {l : List CD} (hn : ∀ x ∈ l, ceq c x = false) : idxO c l = none := by
  induction l with
  | nil => rfl
  | cons x l ih =>
    simp only [idxO, hn x (by simp), Bool.false_eq_true, if_false]
    rw [ih (fun y hy => hn y (by simp [hy]))]
    rfl
theorem idxO_inv {c : CD} : ∀ {l : List CD} {k : Nat}, idxO c l = some k → l[k]? = some c := by
  intro l
  induction l with
  | nil => intro k h; cases h
  | cons x l ih =>
    intro k h
    unfold idxO at h
    split at h
    · rename_i he
      cases h
      rw [(ceq_iff _ _).1 he]; rfl
    · cases hi : idxO c l with
      | none => rw [hi] at h; cases h
      | some j =>
        rw [hi] at h; simp at h; subst h
        simpa using ih hi
theorem idxO_no {c : CD} {l : List CD} (h : idxO c l = none) : c ∉ l := by
  intro hm
  induction l with
  | nil => simp at hm
  | cons x l ih =>
    unfold idxO at h
    split at h
    · cases h
    · rename_i he
      rcases List.mem_cons.1 hm with e | hm
      · exact he ((ceq_iff _ _).2 e)
      · exact ih (by simpa using h) hm
def idxZ (c : CD) (l : List CD) : Int := match idxO c l with | some k => (k : Int) | none => -1
theorem box_at (w : World) (c : CD) : CAt (w.alloc (.cells #[.int .i64 c.kind, .int .i32 c.n, .string c.cls, .string c.nm, .string c.dsc] 30)) w.heap.size 0 c := by
  have h := heap_alloc_new w (.cells #[.int .i64 c.kind, .int .i32 c.n, .string c.cls, .string c.nm, .string c.dsc] 30)
  constructor
  all_goals rw [cell_of_row _ _ _ _ 30 (0, 0) h]; rfl

theorem below_drewN {B : Nat} {w W : World} (h : Below B w W) (q : Nat) : Below B w (W.drewN q) := ⟨h.os, h.tape, h.output, h.size, h.block⟩

set_option maxRecDepth 8000 in
set_option maxHeartbeats 2000000 in
theorem index_any (v : Value) (l : List CD) (c : CD) (w : World) (hv : CView w v l) :
    Calls Tryd.prog 37 #[v, c.val] w fun e w' => e = .returned (.int .i64 (idxZ c l)) ∧ Below w.heap.size w w' := by
  obtain ⟨ao, cap, rfl, hc, hm, _, hl⟩ := id (hv.below ((Below.refl _ w).alloc (Nat.le_refl _) (.cells #[.int .i64 c.kind, .int .i32 c.n, .string c.cls, .string c.nm, .string c.dsc] 30)))
  unfold maxLen at hm
  have hbx := box_at w c
  have b1 : Below w.heap.size w (w.alloc (.cells #[.int .i64 c.kind, .int .i32 c.n, .string c.cls, .string c.nm, .string c.dsc] 30)) := (Below.refl _ _).alloc (Nat.le_refl _) _
  clear hv
  have HE : Hid (∀ d wx, (binOp .eql 30 c.val d.val).run Tryd.prog wx = .ok (.bool (ceq c d)) wx) := fun d wx => run_ceq wx c d
  unfold CD.val at *
  go_enter Tryd.func37, Tryd.ntmps37
  go_wp2
  generalize hW : w.alloc (.cells #[.int .i64 c.kind, .int .i32 c.n, .string c.cls, .string c.nm, .string c.dsc] 30) = W at *
  go_loopw [8] (fun i wr => ∃ k q : Nat, k ≤ l.length ∧ i = .int .i64 (k : Int) ∧ wr = W.drewN q ∧ ∀ x ∈ l.take k, ceq c x = false) (fun i _ => l.length - (intOf i).toNat)
  case atStart => exact ⟨0, 0, by omega, rfl, rfl, by simp⟩
  case round =>
    obtain ⟨k, q, hk, rfl, rfl, hn⟩ := hrel
    have HN := D.hidIt hn
    clear hn
    by_cases hlt : k < l.length
    · obtain ⟨g, off, rfl, hla⟩ : ∃ g off, ao = some ⟨g, off, none⟩ ∧ CLies W g off l := by
        rcases hl with e | h
        · rw [e] at hlt; simp at hlt
        · exact h
      have HL : Hid (l[k]? = some l[k]) := by show _ = _; simp [hlt]
      have hd := hla k l[k] (by simp [hlt])
      have h1 : (k : Int) < (l.length : Int) := by omega
      have he := HE.out l[k]
      clear hla hl
      generalize l[k] = d at *
      obtain ⟨d0, d1, d2, d3, d4⟩ := hd
      obtain ⟨c0, c1, c2, c3, c4⟩ := hbx
      generalize hcd : ceq c d = b at *
      have HCD := D.hidIt hcd
      clear hcd
      cases b
      · go_wp2
        go_quiet (fail)
        go_wp2
        refine ⟨⟨k + 1, _, by omega, by go_num, rfl, ?_⟩, by simp [intOf]; omega⟩
        intro x hx
        rw [List.take_add_one, HL.out] at hx
        rcases List.mem_append.1 hx with hx | hx
        · exact HN.out x hx
        · simp at hx; subst hx; exact HCD.out
      · go_wp2
        go_quiet (fail)
        go_wp2
        go_ret
        refine ⟨ret_int ?_, below_drewN (below_drewN b1 _) _⟩
        unfold idxZ
        rw [idxO_some HL.out HCD.out HN.out]
    · have h1 : ¬ (k : Int) < (l.length : Int) := by omega
      go_wp2
      go_ret
      refine ⟨ret_int ?_, below_drewN b1 _⟩
      unfold idxZ
      rw [idxO_none (fun x hx => HN.out x (by rw [List.take_of_length_le (by omega)]; exact hx))]

set_option maxRecDepth 8000 in
set_option maxHeartbeats 2000000 in
theorem csame_any (va vb : Value) (l : List CD) (w : World) (ha : CView w va l) (hb : CView w vb l) :
    Calls Tryd.prog 23 #[va, vb] w fun e w' => e = .returned (.bool true) ∧ ∃ q, w' = w.drewN q := by
  obtain ⟨aoa, capa, rfl, hca, hma, _, hla⟩ := ha
  obtain ⟨aob, capb, rfl, hcb, hmb, _, hlb⟩ := hb
  unfold maxLen at hma hmb
  go_enter Tryd.func23, Tryd.ntmps23
  go_wp2
  go_loopw [5] (fun i wr => ∃ k q : Nat, k ≤ l.length ∧ i = .int .i64 (k : Int) ∧ wr = w.drewN q) (fun i _ => l.length - (intOf i).toNat)
  case atStart => exact ⟨0, 0, by omega, rfl, rfl⟩
  case round =>
    obtain ⟨k, q, hk, rfl, rfl⟩ := hrel
    by_cases hlt : k < l.length
    · obtain ⟨g, off, rfl, hla2⟩ : ∃ g off, aoa = some ⟨g, off, none⟩ ∧ CLies w g off l := by
        rcases hla with e | h
        · rw [e] at hlt; simp at hlt
        · exact h
      obtain ⟨g2, off2, rfl, hlb2⟩ : ∃ g off, aob = some ⟨g, off, none⟩ ∧ CLies w g off l := by
        rcases hlb with e | h
        · rw [e] at hlt; simp at hlt
        · exact h
      have ca := hla2 k l[k] (by simp [hlt])
      have cb := hlb2 k l[k] (by simp [hlt])
      clear hla hlb hla2 hlb2
      have h1 : (k : Int) < (l.length : Int) := by omega
      generalize l[k] = x at *
      obtain ⟨c0, c1, c2, c3, c4⟩ := ca
      obtain ⟨d0, d1, d2, d3, d4⟩ := cb
      go_wp2
      go_quiet (fail)
      go_wp2
      exact ⟨⟨k + 1, _, by omega, by go_num, rfl⟩, by simp [intOf]; omega⟩
    · have h1 : ¬ (k : Int) < (l.length : Int) := by omega
      go_wp2
      go_ret
      exact ⟨rfl, q, rfl⟩
end Go.Proofs.YtjnaiekdbigikaaDoor
