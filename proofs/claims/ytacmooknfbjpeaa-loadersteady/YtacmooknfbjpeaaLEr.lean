/- slices.Reverse over a list of one's own: walked. -/
import Derived.Test.YtacmooknfbjpeaaGA
namespace Go.Proofs.Ytacmooknfbjpeaa.J
open Go.RowKit Go.MapKept Go.ChangeMaps
set_option linter.unusedVariables false
variable {w : World}

def rvA (l : List Int) (k i : Nat) : Int := if i < k ∨ l.length - 1 - k < i then (l[l.length - 1 - i]?).getD 0 else (l[i]?).getD 0
def revK (l : List Int) (k : Nat) : List Int := (List.range l.length).map (rvA l k)
theorem revK_len (l : List Int) (k : Nat) : (revK l k).length = l.length := by simp [revK]
theorem revK_at (l : List Int) (k : Nat) {i : Nat} (hi : i < l.length) : (revK l k)[i]? = some (rvA l k i) := by
  unfold revK
  rw [List.getElem?_map, List.getElem?_range hi]
  rfl
theorem revK_zero (l : List Int) : revK l 0 = l := by
  apply List.ext_getElem?
  intro i
  by_cases hi : i < l.length
  · rw [revK_at l 0 hi, List.getElem?_eq_getElem hi]
    unfold rvA
    rw [if_neg (by omega), List.getElem?_eq_getElem hi]
    rfl
  · rw [List.getElem?_eq_none (by rw [revK_len]; omega), List.getElem?_eq_none (by omega)]
theorem revK_end (l : List Int) {k : Nat} (hk : ¬ k < l.length - 1 - k) : revK l k = l.reverse := by
  apply List.ext_getElem?
  intro i
  by_cases hi : i < l.length
  · rw [revK_at l k hi, List.getElem?_reverse hi]
    unfold rvA
    by_cases hc : i < k ∨ l.length - 1 - k < i
    · rw [if_pos hc, List.getElem?_eq_getElem (by omega)]
      rfl
    · rw [if_neg hc, show l.length - 1 - i = i by omega, List.getElem?_eq_getElem hi]
      rfl
  · rw [List.getElem?_eq_none (by rw [revK_len]; omega), List.getElem?_eq_none (by simp; omega)]
theorem revK_step (l : List Int) {k : Nat} (hk : k < l.length - 1 - k) : ((revK l k).set k (rvA l k (l.length - 1 - k))).set (l.length - 1 - k) (rvA l k k) = revK l (k + 1) := by
  apply List.ext_getElem?
  intro i
  by_cases hi : i < l.length
  · rw [revK_at l (k + 1) hi, List.getElem?_set, List.getElem?_set]
    by_cases h1 : l.length - 1 - k = i
    · rw [if_pos h1, if_pos (by rw [List.length_set, revK_len]; omega)]
      unfold rvA
      rw [if_neg (by omega), if_pos (by omega), show l.length - 1 - i = k by omega]
    · rw [if_neg h1]
      by_cases h2 : k = i
      · subst h2
        rw [if_pos rfl, if_pos (by rw [revK_len]; omega)]
        unfold rvA
        rw [if_neg (by omega), if_pos (by omega)]
      · rw [if_neg h2, revK_at l k hi]
        unfold rvA
        by_cases h3 : i < k ∨ l.length - 1 - k < i
        · rw [if_pos h3, if_pos (by omega)]
        · rw [if_neg h3, if_neg (by omega)]
  · rw [List.getElem?_eq_none (by simp [revK_len]; omega), List.getElem?_eq_none (by rw [revK_len]; omega)]
theorem NOwn.put {w : World} {B g n cap j : Nat} {l : List Int} (h : NOwn w B (.slice (some ⟨g, 0, none⟩) n cap) l) (hn : n = l.length) (x : Int) : NOwn (w.setCell ⟨g, j, none⟩ (.int .i64 x)) B (.slice (some ⟨g, 0, none⟩) n cap) (l.set j x) := by
  subst hn
  have := own_set (j := j) h (.int .i64 x)
  unfold NOwn
  rw [List.length_set, show icells (l.set j x) = (icells l).set j (.int .i64 x) by simp [icells, List.map_set]]
  exact this
theorem NOwn.cell {w : World} {B : Nat} {ao : Option Addr} {n cap : Nat} {l : List Int} (h : NOwn w B (.slice ao n cap) l) {j : Nat} {x : Int} (hx : l[j]? = some x) : ∃ g, ao = some ⟨g, 0, none⟩ ∧ B ≤ g ∧ n = l.length ∧ w.cell? ⟨g, j, none⟩ = some (.int .i64 x) ∧ w.frozen? ⟨g, j, none⟩ = false := by
  obtain ⟨ao', cap', e⟩ := own_slice h
  cases e
  obtain ⟨g, e, h1, h2, h3, h4⟩ := own_cell h (icells_at hx)
  exact ⟨g, e, h1, rfl, h3, h4⟩
set_option maxRecDepth 8000 in
set_option maxHeartbeats 4000000 in
theorem reverse_any {B : Nat} {v : Value} {l : List Int} (h : NOwn w B v l) (hl : l.length ≤ 100000) : Calls Try.prog 45 #[v] w fun e w' => (∃ u, e = .returned u) ∧ NOwn w' B v l.reverse ∧ Below B w w' := by
  obtain ⟨ao, cap, rfl⟩ := own_slice h
  have H0 : Hid (NOwn w B (.slice ao l.length cap) (revK l 0)) := hidIt (by rw [revK_zero]; exact h)
  clear h
  have hm : (l.length : Int) ≤ 100000 := by omega
  go_enter Try.func45, Try.ntmps45
  go_wp2_with fail
  go_loopw [2, 3] (fun iv jv wr => ∃ k : Nat, k ≤ l.length ∧ iv = .int .i64 (k : Int) ∧ jv = .int .i64 ((l.length : Int) - 1 - k) ∧ NOwn wr B (.slice ao l.length cap) (revK l k) ∧ Below B w wr) (fun iv _ _ => l.length - (intOf iv).toNat)
  case atStart => exact ⟨0, by omega, rfl, by simp, H0.out, Below.refl _ _⟩
  case round =>
    clear H0
    obtain ⟨k, hk, rfl, rfl, ho, hb⟩ := hrel
    by_cases hlt : k < l.length - 1 - k
    · obtain ⟨j, hj⟩ : ∃ j, l.length - 1 - k = j := ⟨_, rfl⟩
      have hj' : (l.length : Int) - 1 - k = (j : Int) := by omega
      have hkl : k < l.length := by omega
      have hjl : j < l.length := by omega
      obtain ⟨g, rfl, hg, -, c1, z1⟩ := ho.cell (revK_at l k hkl)
      obtain ⟨_, e, _, -, c2, z2⟩ := ho.cell (revK_at l k hjl)
      cases e
      have hst := revK_step l hlt
      rw [hj] at hst
      have HO := hidIt ((ho.put (j := k) (revK_len l k).symm (rvA l k j)).put (j := j) (by rw [List.length_set, revK_len]) (rvA l k k))
      rw [hst] at HO
      have HB := hidIt ((hb.setCell (p := ⟨g, k, none⟩) hg (.int .i64 (rvA l k j))).setCell (p := ⟨g, j, none⟩) hg (.int .i64 (rvA l k k)))
      have hnext : (l.length : Int) - 1 - ((k + 1 : Nat) : Int) = (j : Int) - 1 := by omega
      have hkj : (k : Int) < (j : Int) := by omega
      have hkn : k ≠ j := by omega
      rw [hj'] at *
      clear ho hb hst hj
      generalize rvA l k j = x at *
      generalize rvA l k k = y at *
      generalize l.length = n at *
      have h1 : (k : Int) < (n : Int) := by omega
      have h2 : (j : Int) < (n : Int) := by omega
      go_wp2_with fail
      go_region
      go_wp2_with fail
      exact ⟨⟨k + 1, by omega, by go_num, by rw [hnext], HO.out, HB.out.drew⟩, by simp [intOf]; omega⟩
    · have hlt' : ¬ (k : Int) < (l.length : Int) - 1 - k := by omega
      rw [revK_end l hlt] at ho
      have HO := hidIt ho
      clear ho
      go_wp2_with fail
      go_end0
      exact ⟨⟨_, rfl⟩, HO.out, hb⟩
end Go.Proofs.Ytacmooknfbjpeaa.J

