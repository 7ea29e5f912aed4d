/- line, an iterator over a member's line. -/
import Derived.Test.YtknppdpcgdncdaaKA
import Derived.Test.YtknppdpcgdncdaaKRF
namespace Go.Proofs.Ytknppdpcgdncdaa.K
open Go.RowKit Go.Shelf Q Q.D
attribute [local go_sem] Oper.semAt_some

def enc (m : Mem) : Value := .pointer (some ⟨m.b, 0, none⟩)
theorem Chain.len {w : World} : ∀ {l l' : List Mem} {p q : Option Mem}, ptr p = ptr q → Chain w p l → Chain w q l' → l.length = l'.length
  | [], [], _, _, _, _, _ => rfl
  | [], _ :: _, p, q, e, h, ⟨h1, _⟩ => by cases h; cases h1; simp [ptr] at e
  | _ :: _, [], p, q, e, ⟨h1, _⟩, h => by cases h; cases h1; simp [ptr] at e
  | m :: l, m' :: l', p, q, e, ⟨h1, ab, h2, h3⟩, ⟨h1', ab', h2', h3'⟩ => by
    subst h1; subst h1'
    simp only [ptr, Value.pointer.injEq, Option.some.injEq, Addr.mk.injEq, and_true] at e
    obtain ⟨_, _, _, _, _, _, h⟩ := h2
    obtain ⟨_, _, _, _, _, _, h'⟩ := h2'
    have e5 := h.e5
    rw [e, h'.e5, Option.some.injEq] at e5
    simp only [List.length_cons]
    rw [Chain.len e5.symm h3 h3']
open Classical in
noncomputable def leftN (w : World) (v : Value) : Nat := if h : ∃ n, ∃ (p : Option Mem) (l : List Mem), v = ptr p ∧ Chain w p l ∧ l.length = n then h.choose else 0
theorem leftN_eq {w : World} {p : Option Mem} {l : List Mem} (h : Chain w p l) : leftN w (ptr p) = l.length := by
  have hx : ∃ n, ∃ (q : Option Mem) (l' : List Mem), ptr p = ptr q ∧ Chain w q l' ∧ l'.length = n := ⟨_, p, l, rfl, h, rfl⟩
  unfold leftN
  rw [dif_pos hx]
  obtain ⟨q, l', e, h', hl⟩ := hx.choose_spec
  rw [← hl]
  exact Chain.len e.symm h' h

set_option maxRecDepth 100000 in
set_option maxHeartbeats 2000000 in
theorem line_any (m : Nat) (w : World) (p : Option Mem) (xs : List Mem) (hc : Chain w p xs) : Visits Try.prog m 45 (ptr p) enc xs (fun W => Below w.heap.size w W) := by
  intro l J Jx W hSt hY h0
  refine callsIn_of_wp Try.func45 rfl trivial ?_ rfl
  simp only [Try.ntmps45, List.size_toArray, List.length_cons, List.length_nil, Nat.reduceAdd, Nat.reduceSub, Array.replicate_succ, Array.replicate_zero, List.push_toArray, List.append_toArray, List.nil_append, List.cons_append]
  obtain ⟨pv, hpv⟩ : ∃ pv, ptr p = pv := ⟨_, rfl⟩
  rw [hpv]
  gi_wp2
  gi_loopw [0] (fun pv wr => ∃ (pre rest : List Mem) (q : Option Mem), pv = ptr q ∧ xs = pre ++ rest ∧ Chain w q rest ∧ J pre wr) (fun pv _ => leftN w pv)
  case atStart =>
    exact ⟨[], xs, p, hpv.symm, rfl, hc, h0⟩
  case round =>
    obtain ⟨pre, rest, q, rfl, hx, hl, hJs⟩ := hrel
    cases rest with
    | nil =>
      obtain rfl : q = none := hl
      unfold ptr
      gi_wp2
      refine ⟨fun _ h => (by cases h), ?_⟩
      gi_wp2
      go_end0
      exact ⟨⟨_, rfl⟩, .inl (by simpa [hx] using hJs)⟩
    | cons x rest =>
      have hl' := hl
      obtain ⟨rfl, ab, hm, hr⟩ := hl
      obtain ⟨fn, tmps, assign, body, hy, hR⟩ := hY pre x rest wr hx hJs
      unfold enc at hy
      unfold ptr
      gi_wp2
      refine ⟨fun h => by simp [Fence.wide] at h, hR.mono ?_⟩
      rintro e W3 (⟨rfl, hJ3⟩ | ⟨rfl, hJx3⟩)
      · obtain ⟨_, _, _, _, _, _, hm⟩ := hm
        have h5 : W3.cell? ⟨x.b, 5, none⟩ = some (ptr ab) := (ext_below (hSt _ _ hJ3)).cell _ _ hm.e5
        gi_wp2
        go_roundw
        case rel => exact ⟨pre ++ [x], rest, ab, rfl, by simp [hx], hr, hJ3⟩
        case measure => rw [leftN_eq hr, show Value.pointer (some ⟨x.b, 0, none⟩) = ptr (some x) from rfl, leftN_eq hl']; simp
      · gi_wp2
        go_end0
        exact ⟨⟨_, rfl⟩, .inr ⟨_, hJx3⟩⟩
end Go.Proofs.Ytknppdpcgdncdaa.K
