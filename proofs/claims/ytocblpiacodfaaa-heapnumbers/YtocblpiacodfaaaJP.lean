/- Lists of truths side by side; a list of such lists. -/
import Derived.Test.YtocblpiacodfaaaJO
namespace Go.Proofs.Ytocblpiacodfaaa.J
open Go.RowKit Go.MapKept Go.ChangeMaps
set_option linter.unusedVariables false

set_option maxRecDepth 8000 in
set_option maxHeartbeats 2000000 in
theorem bsame_any (v u : Value) (l r : List Bool) (w : World) (hv : BView w v l) (hu : BView w u r) :
    Calls Try.prog 35 #[v, u] w fun e w' => e = .returned (.bool (decide (l = r))) ∧ ∃ q, w' = w.drewN q := by
  have HV := hidIt hv
  have HU := hidIt hu
  obtain ⟨ao, cap, rfl, hc, hm, _⟩ := hv
  obtain ⟨ao2, cap2, rfl, hc2, hm2, _⟩ := hu
  unfold maxLen at hm hm2
  by_cases hlen : l.length = r.length
  · have HN : Hid (l.length = r.length) := hlen
    have hlenI : ((l.length : Int) != (r.length : Int)) = false := by simp; omega
    go_enter Try.func35, Try.ntmps35
    go_wp2
    clear hlen hlenI
    go_loopw [5] (fun i wr => ∃ k q : Nat, i = .int .i64 (k : Int) ∧ k ≤ l.length ∧ (∀ j, j < k → l[j]? = r[j]?) ∧ wr = w.drewN q) (fun i _ => l.length - (intOf i).toNat)
    case atStart => exact ⟨0, 0, rfl, Nat.zero_le _, fun j h => absurd h (by omega), rfl⟩
    case round =>
      obtain ⟨k, q, rfl, hk, hj, rfl⟩ := hrel
      have HJ := hidIt hj
      clear hj
      by_cases hlt : k < l.length
      · have hlt' : (k : Int) < (l.length : Int) := by omega
        have hlr' : (k : Int) < (r.length : Int) := by have := HN.out; omega
        have hlr : k < r.length := by have := HN.out; omega
        obtain ⟨x, hx⟩ : ∃ x, l[k]? = some x := ⟨l[k], List.getElem?_eq_getElem hlt⟩
        obtain ⟨y, hy⟩ : ∃ y, r[k]? = some y := ⟨r[k], List.getElem?_eq_getElem hlr⟩
        obtain ⟨g, off, rfl, c0⟩ := HV.out.row hx
        obtain ⟨g', off', rfl, d0⟩ := HU.out.row hy
        by_cases hxy : x = y
        · subst hxy
          have NX : Hid (∀ j, j < k + 1 → l[j]? = r[j]?) := hidIt (fun j hj => by
            by_cases e : j = k
            · subst e; rw [hx, hy]
            · exact HJ.out j (by omega))
          clear hx hy
          have hne : (x != x) = false := by cases x <;> rfl
          go_wp2
          go_quiet (fail)
          go_wp2
          exact ⟨⟨k + 1, _, by go_num, by omega, NX.out, rfl⟩, by simp [intOf]; omega⟩
        · have hne : (x != y) = true := by cases x <;> cases y <;> simp_all
          have hd : decide (l = r) = false := decide_eq_false (fun e => by rw [e, hy] at hx; cases hx; exact hxy rfl)
          have HD := hidIt hd
          clear hx hy hd hxy
          cases x <;> cases y <;> first | (cases hne; done) | (
            clear hne
            go_wp2
            go_quiet (fail)
            go_wp2
            go_ret
            exact ⟨by rw [HD.out]; rfl, q + nq, by rw [World.drewN_drewN]⟩)
      · have hlt' : ¬ (k : Int) < (l.length : Int) := by omega
        have hd : decide (l = r) = true := decide_eq_true (by
          apply List.ext_getElem?
          intro j
          by_cases e : j < k
          · exact HJ.out j e
          · rw [List.getElem?_eq_none (by omega), List.getElem?_eq_none (by have := HN.out; omega)])
        have HD := hidIt hd
        clear hd
        go_wp2
        go_ret
        exact ⟨by rw [HD.out]; rfl, _, rfl⟩
  · have hlenI : ((l.length : Int) != (r.length : Int)) = true := by simp; omega
    have hd : decide (l = r) = false := decide_eq_false (fun e => hlen (by rw [e]))
    rw [hd]
    clear hd hlen
    go_enter Try.func35, Try.ntmps35
    go_wp2
    go_ret
    exact ⟨rfl, 0, rfl⟩
/-- A list of lists of truths. -/
def GV (w : World) (v : Value) (ls : List (List Bool)) : Prop :=
  ∃ ao cap, v = .slice ao ls.length cap ∧ ls.length ≤ cap ∧ cap ≤ maxLen ∧ (ls = [] ∨ ∃ g off, ao = some ⟨g, off, none⟩ ∧ ∀ (j : Nat) (x : List Bool), ls[j]? = some x → ∃ u, w.cell? ⟨g, off + j, none⟩ = some u ∧ BView w u x)
theorem GV.below {w w' : World} {v : Value} {l : List (List Bool)} (h : GV w v l) (hb : Below w.heap.size w w') : GV w' v l := by
  obtain ⟨ao, cap, e, hc, hm, hl⟩ := h
  refine ⟨ao, cap, e, hc, hm, ?_⟩
  rcases hl with h | ⟨g, off, e, hl⟩
  · exact .inl h
  · exact .inr ⟨g, off, e, fun j x hj => by
      obtain ⟨u, h1, h2⟩ := hl j x hj
      exact ⟨u, cell_later hb h1, h2.below hb⟩⟩
theorem GV.row {w : World} {ao : Option Addr} {n cap : Nat} {l : List (List Bool)} (h : GV w (.slice ao n cap) l) {j : Nat} {x : List Bool} (hj : l[j]? = some x) : ∃ g off u, ao = some ⟨g, off, none⟩ ∧ w.cell? ⟨g, off + j, none⟩ = some u ∧ BView w u x := by
  obtain ⟨ao', cap', e, hc, hm, hl⟩ := h
  cases e
  rcases hl with rfl | ⟨g, off, rfl, hl⟩
  · simp at hj
  · obtain ⟨u, h1, h2⟩ := hl j x hj
    exact ⟨g, off, u, rfl, h1, h2⟩
theorem BView.take {w : World} {ao : Option Addr} {n cap : Nat} {l : List Bool} (h : BView w (.slice ao n cap) l) (k : Nat) (hk : k ≤ l.length) : BView w (.slice ao k cap) (l.take k) := by
  obtain ⟨ao', cap', e, hc, hm, hl⟩ := h
  cases e
  refine ⟨ao, cap, by rw [List.length_take, Nat.min_eq_left hk], by rw [List.length_take]; omega, hm, ?_⟩
  rcases hl with rfl | ⟨g, off, rfl, hl⟩
  · left; simp
  · refine .inr ⟨g, off, rfl, fun j x hj => hl j x ?_⟩
    rw [List.getElem?_take] at hj
    split at hj
    · exact hj
    · cases hj
theorem BView.drewN {w : World} {v : Value} {l : List Bool} (h : BView w v l) (q : Nat) : BView (w.drewN q) v l := h.below (below_drewN (Below.refl _ _) q)
end Go.Proofs.Ytocblpiacodfaaa.J
