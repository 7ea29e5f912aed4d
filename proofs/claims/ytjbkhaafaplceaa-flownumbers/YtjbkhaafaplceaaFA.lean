/- Find of package flow, and the document's own: walked. -/
import Derived.Test.YtjbkhaafaplceaaR
import Derived.Deep.QuietTactic
import Derived.BigQuiet
namespace Go.Proofs.Ytjbkhaafaplceaa
open Go.RowKit

/-- The number of the first instruction that stands there; -1: none. -/
def findZ (l : List IN) (p : Int) : Int := match l.findIdx? (fun i => i.pl == p) with
  | some k => (k : Int)
  | none => -1
theorem findZ_some {l : List IN} {p : Int} {k : Nat} {x : IN} (hx : l[k]? = some x) (hp : x.pl = p) (hb : ∀ (j : Nat) (y : IN), j < k → l[j]? = some y → y.pl ≠ p) : findZ l p = (k : Int) := by
  have hk : k < l.length := (List.getElem?_eq_some_iff.1 hx).1
  have e : l.findIdx? (fun i => i.pl == p) = some k := by
    rw [List.findIdx?_eq_some_iff_getElem]
    refine ⟨hk, ?_, fun j hj => ?_⟩
    · rw [List.getElem?_eq_getElem hk] at hx
      cases hx
      simpa using hp
    · have := hb j l[j] hj (List.getElem?_eq_getElem (by omega))
      simpa using this
  unfold findZ
  rw [e]
theorem findZ_none {l : List IN} {p : Int} (hb : ∀ (j : Nat) (y : IN), l[j]? = some y → y.pl ≠ p) : findZ l p = -1 := by
  have e : l.findIdx? (fun i => i.pl == p) = none := by
    rw [List.findIdx?_eq_none_iff]
    intro x hx
    obtain ⟨i, hi⟩ := List.getElem?_of_mem hx
    simpa using hb i x hi
  unfold findZ
  rw [e]
theorem findZ_cases (l : List IN) (p : Int) : (findZ l p = -1 ∧ ∀ x ∈ l, x.pl ≠ p) ∨ ∃ k : Nat, ∃ x, findZ l p = (k : Int) ∧ l[k]? = some x ∧ x.pl = p := by
  unfold findZ
  cases h : l.findIdx? (fun i => i.pl == p) with
  | none =>
    rw [List.findIdx?_eq_none_iff] at h
    exact .inl ⟨rfl, fun x hx => by simpa using h x hx⟩
  | some k =>
    rw [List.findIdx?_eq_some_iff_getElem] at h
    obtain ⟨hk, h1, -⟩ := h
    exact .inr ⟨k, l[k], rfl, List.getElem?_eq_getElem hk, by simpa using h1⟩
theorem findZ_lt (l : List IN) (p : Int) : -1 ≤ findZ l p ∧ findZ l p < l.length := by
  rcases findZ_cases l p with ⟨h, -⟩ | ⟨k, x, h, hx, -⟩
  · omega
  · have := (List.getElem?_eq_some_iff.1 hx).1
    omega
/-- The function value of Find. -/
theorem find1_any (i : IN) (b : Nat) (p : Int) (w : World) (hb : w.cell? ⟨b, 0, none⟩ = some (.int .i64 p)) :
    Calls Try.prog 34 #[i.val, .pointer (some ⟨b, 0, none⟩)] w fun e w' => e = .returned (.bool (i.pl == p)) ∧ Below w.heap.size w w' := by
  have hA := below_alloc w (.cells #[.int .i64 i.pl, .int .i64 i.op, .int .i64 i.a, .int .i64 i.b] 23)
  have h2 := cell_later hA hb
  have hbl := cell_lt hb
  have HA := hidIt hA
  clear hA
  unfold IN.val
  go_enter Try.func34, Try.ntmps34
  go_wp2
  go_ret
  exact ⟨rfl, HA.out⟩
set_option maxRecDepth 8000 in
set_option maxHeartbeats 2000000 in
theorem idx_any (v : Value) (l : List IN) (b : Nat) (p : Int) (w : World) (hv : IView w v l) (hb : w.cell? ⟨b, 0, none⟩ = some (.int .i64 p)) :
    Calls Try.prog 33 #[v, .func (.func 34) #[] #[.pointer (some ⟨b, 0, none⟩)]] w fun e w' => e = .returned (.int .i64 (findZ l p)) ∧ Below w.heap.size w w' := by
  have HV := hidIt hv
  have HB := hidIt hb
  obtain ⟨ao, cap, rfl, hc, hm, _⟩ := hv
  unfold maxLen at hm
  clear hb
  go_enter Try.func33, Try.ntmps33
  go_wp2
  go_loopw [5, 8] (fun _ s8 wr => ∃ k : Nat, k ≤ l.length ∧ s8 = .int .i64 (k : Int) ∧ Below w.heap.size w wr ∧ ∀ (j : Nat) (y : IN), j < k → l[j]? = some y → y.pl ≠ p) (fun _ s8 _ => l.length - (intOf s8).toNat)
  case atStart => exact ⟨0, Nat.zero_le _, rfl, Below.refl _ w, fun j y hj => absurd hj (Nat.not_lt_zero _)⟩
  case round =>
    obtain ⟨k, hk, rfl, BW, A⟩ := hrel
    have HBW := hidIt BW
    have HA := hidIt A
    clear BW A
    by_cases hlt : k < l.length
    · have hlt' : (k : Int) < (l.length : Int) := by omega
      obtain ⟨x, hx⟩ : ∃ x, l[k]? = some x := ⟨l[k], List.getElem?_eq_getElem hlt⟩
      obtain ⟨g, off, rfl, c0, c1, c2, c3⟩ := (HV.out.below HBW.out).row hx
      have hcall := find1_any x b p wr (cell_later HBW.out HB.out)
      unfold IN.val at hcall
      have HX := hidIt hx
      clear hx
      cases hq : (x.pl == p) with
      | true =>
        rw [hq] at hcall
        go_wp2_with fail
        refine hcall.mono ?_
        rintro e w' ⟨rfl, hb'⟩
        go_wp2
        go_ret
        exact ⟨ret_int (findZ_some HX.out (by simpa using hq) HA.out).symm, HBW.out.trans (hb'.mono HBW.out.size)⟩
      | false =>
        rw [hq] at hcall
        go_wp2_with fail
        refine hcall.mono ?_
        rintro e w' ⟨rfl, hb'⟩
        go_wp2
        refine ⟨⟨k + 1, by omega, by go_num, HBW.out.trans (hb'.mono HBW.out.size), fun j y hj hy => ?_⟩, by simp [intOf]; omega⟩
        by_cases e : j = k
        · subst e
          rw [HX.out] at hy
          cases hy
          simpa using hq
        · exact HA.out j y (by omega) hy
    · have hlt' : ¬ (k : Int) < (l.length : Int) := by omega
      go_wp2
      go_ret
      refine ⟨ret_int (findZ_none fun j y hy => HA.out j y ?_ hy).symm, HBW.out⟩
      have := (List.getElem?_eq_some_iff.1 hy).1
      omega
set_option maxRecDepth 8000 in
set_option maxHeartbeats 1000000 in
theorem find_any (v : Value) (l : List IN) (p : Int) (w : World) (hv : IView w v l) :
    Calls Try.prog 12 #[v, .int .i64 p] w fun e w' => e = .returned (.int .i64 (findZ l p)) ∧ Below w.heap.size w w' := by
  have hA := below_alloc w (.cells #[.int .i64 p] 3)
  have hI := idx_any v l w.heap.size p (w.alloc (.cells #[.int .i64 p] 3)) (hv.below hA) (cell_row (heap_alloc_new w _) 0 rfl)
  obtain ⟨ao, cap, rfl, hc, hm, _⟩ := hv
  have HA := hidIt hA
  have HI := hidIt hI
  clear hA hI
  go_enter Try.func12, Try.ntmps12
  go_wp2_with fail
  refine HI.out.mono ?_
  rintro e w' ⟨rfl, hb'⟩
  go_wp2
  go_ret
  exact ⟨rfl, HA.out.trans (hb'.mono HA.out.size)⟩
set_option maxRecDepth 8000 in
set_option maxHeartbeats 1000000 in
theorem rfind_any (v : Value) (l : List IN) (p : Int) (w : World) (hv : IView w v l) :
    Calls Try.prog 17 #[v, .int .i64 p] w fun e w' => e = .returned (.int .i64 (findZ l p)) ∧ w' = w := by
  have HV := hidIt hv
  obtain ⟨ao, cap, rfl, hc, hm, _⟩ := hv
  unfold maxLen at hm
  go_enter Try.func17, Try.ntmps17
  go_wp2
  go_loopw [5] (fun i wr => ∃ k : Nat, k ≤ l.length ∧ i = .int .i64 (k : Int) ∧ wr = w ∧ ∀ (j : Nat) (y : IN), j < k → l[j]? = some y → y.pl ≠ p) (fun i _ => l.length - (intOf i).toNat)
  case atStart => exact ⟨0, Nat.zero_le _, rfl, rfl, fun j y hj => absurd hj (Nat.not_lt_zero _)⟩
  case round =>
    obtain ⟨k, hk, rfl, rfl, A⟩ := hrel
    have HA := hidIt A
    clear A
    by_cases hlt : k < l.length
    · have hlt' : (k : Int) < (l.length : Int) := by omega
      obtain ⟨x, hx⟩ : ∃ x, l[k]? = some x := ⟨l[k], List.getElem?_eq_getElem hlt⟩
      obtain ⟨g, off, rfl, c0, c1, c2, c3⟩ := HV.out.row hx
      have HX := hidIt hx
      clear hx
      cases hq : (x.pl == p) with
      | true =>
        go_wp2
        go_ret
        exact ⟨ret_int (findZ_some HX.out (by simpa using hq) HA.out).symm, rfl⟩
      | false =>
        go_wp2
        refine ⟨⟨k + 1, by omega, by go_num, trivial, fun j y hj hy => ?_⟩, by simp [intOf]; omega⟩
        by_cases e : j = k
        · subst e
          rw [HX.out] at hy
          cases hy
          simpa using hq
        · exact HA.out j y (by omega) hy
    · have hlt' : ¬ (k : Int) < (l.length : Int) := by omega
      go_wp2
      go_ret
      refine ⟨ret_int (findZ_none fun j y hy => HA.out j y ?_ hy).symm, rfl⟩
      have := (List.getElem?_eq_some_iff.1 hy).1
      omega
end Go.Proofs.Ytjbkhaafaplceaa
