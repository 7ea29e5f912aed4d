/- Used, All, has of the document's own heap: walked. -/
import Derived.Test.YtbdeflpjplhafaaUD
namespace Go.Proofs.Ytbdeflpjplhafaa.J
open Go.RowKit Go.MapKept Go.ChangeMaps
set_option linter.unusedVariables false

variable {n0 : Nat} {w : World} {R : RB} {most : Nat} {l : List Ob} {ss : List (List Bool)}
/-- What a walk over the objects reads. -/
theorem RV.walk (h : RV n0 w R most l ss) {ao : Option Addr} {cap : Nat} (e : R.lv = .slice ao l.length cap) {i : Nat} {o : Ob} (hi : l[i]? = some o) : ∃ g uo uc, ao = some ⟨g, 0, none⟩ ∧ g < w.heap.size ∧ w.cell? ⟨g, i * 4, none⟩ = some (.int .i64 ((usedN (l.take i) : Int) + 1)) ∧ w.cell? ⟨g, i * 4 + 2, none⟩ = some (.slice uo o.f.length uc) := by
  obtain ⟨g, cap', u, e', hu, hc, -, hc2, -⟩ := h.obj hi
  rw [e] at e'
  cases e'
  obtain ⟨uo, uc, rfl⟩ := own_slice (h.fo i u o hu hi)
  exact ⟨g, uo, uc, rfl, by have := (h.lo_.lt g (by rw [e]; rfl)).2; exact this, hc, hc2⟩
set_option maxRecDepth 8000 in
set_option maxHeartbeats 2000000 in
theorem uused_any (h : RV n0 w R most l ss) : Calls Try.prog 65 #[R.ptr] w fun e w' => e = .returned (.int .i64 (usedN l : Int)) ∧ w' = w := by
  have c1 : w.cell? ⟨R.rb, 1, none⟩ = some R.lv := h.box.cell 1
  obtain ⟨ao, cap, e⟩ := own_slice h.lo_
  rw [e] at c1
  obtain ⟨hcap1, hcap2⟩ := own_cap (by have := h.lo_; rwa [e] at this)
  unfold maxLen at hcap2
  have HC : Hid (∀ i o, l[i]? = some o → ∃ g uo uc, ao = some ⟨g, 0, none⟩ ∧ w.cell? ⟨g, i * 4 + 2, none⟩ = some (.slice uo o.f.length uc) ∧ usedN (l.take (i + 1)) = usedN (l.take i) + (o.f.length + 3) ∧ usedN (l.take (i + 1)) ≤ 16384) := hidIt (fun i o hi => by
    obtain ⟨g, uo, uc, e1, -, -, hc⟩ := h.walk e hi
    obtain ⟨u1, u2⟩ := usedN_take l i o hi
    have := h.few
    have := h.most
    exact ⟨g, uo, uc, e1, hc, u1, by omega⟩)
  unfold RB.ptr
  clear h e
  go_enter Try.func65, Try.ntmps65
  go_wp2
  go_loopw [3, 4] (fun nv iv wr => ∃ k : Nat, iv = .int .i64 (k : Int) ∧ k ≤ l.length ∧ nv = .int .i64 (usedN (l.take k) : Int) ∧ wr = w) (fun _ iv _ => l.length - (intOf iv).toNat)
  case atStart => exact ⟨0, rfl, Nat.zero_le _, rfl, rfl⟩
  case round =>
    obtain ⟨k, rfl, hk, rfl, rfl⟩ := hrel
    by_cases hlt : k < l.length
    · have hlt' : (k : Int) < (l.length : Int) := by omega
      obtain ⟨o, ho⟩ : ∃ o, l[k]? = some o := ⟨l[k], List.getElem?_eq_getElem hlt⟩
      obtain ⟨g, uo, uc, rfl, hc, hu, hu2⟩ := HC.out k o ho
      have NX : Hid (Value.int .i64 ((usedN (l.take k) : Int) + 3 + (o.f.length : Int)) = .int .i64 (usedN (l.take (k + 1)) : Int)) := hidIt (by rw [hu]; go_num)
      have hb : (usedN (l.take k) : Int) + 3 + (o.f.length : Int) ≤ 16384 := by omega
      clear ho hu hu2
      generalize usedN (l.take k) = q at *
      generalize o.f.length = N at *
      go_wp2
      exact ⟨⟨k + 1, by go_num, by omega, NX.out, by trivial⟩, by simp [intOf]; omega⟩
    · have hlt' : ¬ (k : Int) < (l.length : Int) := by omega
      obtain rfl : k = l.length := by omega
      rw [List.take_length]
      go_wp2
      go_ret
      exact ⟨rfl, by trivial⟩
end Go.Proofs.Ytbdeflpjplhafaa.J

