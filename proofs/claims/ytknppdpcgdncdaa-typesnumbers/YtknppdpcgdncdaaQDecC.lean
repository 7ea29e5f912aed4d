/- Decode gives the text that the bytes are the modified UTF-8 of, or ErrForm. -/
import Derived.Test.YtknppdpcgdncdaaQDecB
namespace Go.Proofs.Ytknppdpcgdncdaa.Q
open Go.RowKit
theorem frune_range (l : List Int) (hb : AllBytes l) : (frune l).2 ≤ l.length ∧ 0 ≤ (frune l).1 ∧ (frune l).1 ≤ 1114111 ∧ (frune l).2 ≤ 6 := by
  have h1 := fcode_range l hb
  have h2 := fcode_range (l.drop 3) (fun x hx => hb x (List.mem_of_mem_drop hx))
  rw [List.length_drop] at h2
  unfold frune
  generalize fcode l = a at *
  generalize fcode (l.drop 3) = b at *
  obtain ⟨a1, a2⟩ := a
  obtain ⟨b1, b2⟩ := b
  simp only at h1 h2 ⊢
  obtain ⟨h10, h11, h12, h13, h14, h15⟩ := h1
  obtain ⟨h20, h21, h22, h23, h24, h25⟩ := h2
  split
  · simp only; omega
  · split
    · simp
    · split
      · simp
      · have := h24 (by omega)
        simp only; omega

def lenOf : Value → Nat
  | .slice _ n _ => n
  | _ => 0

theorem View.below {w wr : World} {v : Value} {l : List Int} (h : View w v l) (hb : Below w.heap.size w wr) : View wr v l := by
  obtain ⟨ao, cap, rfl, hc, hm, hy, hl⟩ := h
  refine ⟨ao, cap, rfl, hc, hm, hy, ?_⟩
  rcases hl with h | ⟨g, off, e, hl⟩
  · exact .inl h
  · exact .inr ⟨g, off, e, fun j x hj => cell_later hb (hl j x hj)⟩

/-- A row that is owned is a view of its bytes. -/
theorem View.of_own {w : World} {B : Nat} {v : Value} {l : List Int} (h : w.ownsRow B 5 1 v l.length (bcells l)) (hb : AllBytes l) : View w v l := by
  rcases h.2 with ⟨rfl, h0⟩ | ⟨g, cap, cur, rfl, _, hg, h1, h2, h3, h4⟩
  · have : l = [] := List.length_eq_zero_iff.1 h0
    subst this
    exact ⟨none, 0, rfl, Nat.le_refl _, by unfold maxLen; omega, hb, .inl rfl⟩
  · refine ⟨some ⟨g, 0, none⟩, cap, rfl, h1, h2, hb, .inr ⟨g, 0, rfl, fun j x hj => ?_⟩⟩
    have hj' : (bcells l)[j]? = some (.int .u8 x) := by simp [bcells, hj]
    have := h.cells (g := g) rfl j _ hj'
    have e : (⟨g, 0, none⟩ : Addr).add j = ⟨g, 0 + j, none⟩ := by unfold Addr.add; split <;> simp_all
    rwa [e] at this

end Go.Proofs.Ytknppdpcgdncdaa.Q
