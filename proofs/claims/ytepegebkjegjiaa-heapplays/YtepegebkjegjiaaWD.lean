/- HeapPlays: pick; what is kept. -/
import Derived.Test.YtepegebkjegjiaaWA
namespace Go.Proofs.Ytepegebkjegjiaa.J
open Go.RowKit Go.MapKept Go.ChangeMaps
set_option linter.unusedVariables false
variable {n0 : Nat} {X : Nat → Prop} {w : World} {p q most : Nat} {l : List Ob} {ss : List (List Bool)}

set_option maxRecDepth 8000 in
set_option maxHeartbeats 2000000 in
theorem pick_any {v : Value} {L : List Int} (hv : NView w v L) (hL : L.length ≤ 100000) (n : Int) : Calls Try.prog 17 #[v, .int .i64 n] w fun e w' => ∃ x, e = .returned (.int .i64 x) ∧ w' = w ∧ (x = n ∨ x ∈ L) := by
  have HV := hidIt hv
  obtain ⟨ao, cap, rfl, hc, hm, _⟩ := hv
  cases L with
  | nil =>
    clear HV
    go_enter Try.func17, Try.ntmps17
    go_wp2
    go_ret
    first | exact ⟨n, rfl, rfl, .inl rfl⟩ | exact ⟨rfl, rfl⟩
  | cons y r =>
    obtain ⟨mm, hmm⟩ : ∃ mm, (y :: r).length = mm + 1 := ⟨r.length, rfl⟩
    have hm1 : ((mm + 1 : Nat) : Int) - 1 = (mm : Int) := by omega
    have hw := wiZ_le n mm
    obtain ⟨x, hx⟩ : ∃ x, (y :: r)[wiZ n mm]? = some x := ⟨_, List.getElem?_eq_getElem (by omega)⟩
    obtain ⟨g, off, rfl, c0⟩ := HV.out.row hx
    have hin := List.mem_of_getElem? hx
    have GW := hidIt (within_any n mm (by omega) w)
    rw [hmm]
    rw [hmm] at hL
    clear HV hx
    generalize wiZ n mm = z at *
    generalize (y :: r) = L at *
    have hz : (z : Int) < ((mm + 1 : Nat) : Int) := by omega
    have hmc : ((mm + 1 : Nat) : Int) = (mm : Int) + 1 := by omega
    by_cases h6 : n.tmod 7 = 6
    · have h6' : (n.tmod 7 == 6) = true := by simp [h6]
      go_enter Try.func17, Try.ntmps17
      go_wp2
      go_ret
      first | exact ⟨n, rfl, rfl, .inl rfl⟩ | exact ⟨rfl, rfl⟩
    · have h6' : (n.tmod 7 == 6) = false := by simp [h6]
      go_enter Try.func17, Try.ntmps17
      go_wp2_with (go_at_call 6; refine GW.out.mono ?_; rintro e w' ⟨rfl, hww⟩; cases hww)
      go_ret
      first | exact ⟨x, rfl, rfl, .inr hin⟩ | exact ⟨⟨x, rfl, .inr hin⟩, rfl⟩ | exact .inr hin
/-- What bits keep: those without a bit are kept. -/
def keepK : List (Nat × Ob) → List Bool → List (Nat × Ob)
  | [], _ => []
  | x :: K, [] => x :: keepK K []
  | x :: K, b :: bs => if b then x :: keepK K bs else keepK K bs
theorem keepK_sub : ∀ (K : List (Nat × Ob)) (bs : List Bool), (keepK K bs).Sublist K
  | [], bs => by unfold keepK; exact List.Sublist.refl _
  | x :: K, [] => (keepK_sub K []).cons_cons x
  | x :: K, b :: bs => by
    unfold keepK
    split
    · exact (keepK_sub K bs).cons_cons x
    · exact (keepK_sub K bs).cons x
theorem KOk.sub {K K' : List (Nat × Ob)} (h : KOk l K) (hs : K'.Sublist K) : KOk l K' := ⟨fun x hx => h.at_ x (hs.subset hx), h.rise.sublist hs⟩
theorem pairA_ok (l : List Ob) : KOk l (pairA 0 l) := ⟨fun x hx => by
    have := (pairA_at l 0 x).1 hx
    simpa using this.2, pairA_rise l 0⟩
theorem keepK_step {K : List (Nat × Ob)} {bs : List Bool} {k : Nat} {x : Nat × Ob} (h : K[k]? = some x) : keepK (K.drop k) (bs.drop k) = if (bs[k]?).getD true then x :: keepK (K.drop (k + 1)) (bs.drop (k + 1)) else keepK (K.drop (k + 1)) (bs.drop (k + 1)) := by
  obtain ⟨h1, h2⟩ := List.getElem?_eq_some_iff.1 h
  have hd : K.drop k = x :: K.drop (k + 1) := by rw [← h2]; exact List.drop_eq_getElem_cons h1
  rw [hd]
  by_cases hb : k < bs.length
  · rw [List.drop_eq_getElem_cons hb, List.getElem?_eq_getElem hb]
    simp only [keepK, Option.getD_some]
  · rw [show bs.drop k = [] from List.drop_eq_nil_of_le (by omega), show bs.drop (k + 1) = [] from List.drop_eq_nil_of_le (by omega), List.getElem?_eq_none (by omega)]
    simp [keepK]
end Go.Proofs.Ytepegebkjegjiaa.J
