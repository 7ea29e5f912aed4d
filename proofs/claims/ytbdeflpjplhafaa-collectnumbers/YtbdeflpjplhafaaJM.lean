/- A shape's text: walked. -/
import Derived.Test.YtbdeflpjplhafaaJK
import Derived.Deep.OwnRows
import Derived.Laws.BytesArg
namespace Go.Proofs.Ytbdeflpjplhafaa.J
open Go.RowKit Go.MapKept Go.ChangeMaps
set_option linter.unusedVariables false

def BView (w : World) (v : Value) (l : List Bool) : Prop :=
  ∃ ao cap, v = .slice ao l.length cap ∧ l.length ≤ cap ∧ cap ≤ maxLen ∧ (l = [] ∨ ∃ g off, ao = some ⟨g, off, none⟩ ∧ ∀ (j : Nat) (x : Bool), l[j]? = some x → w.cell? ⟨g, off + j, none⟩ = some (.bool x))
theorem BView.below {w w' : World} {v : Value} {l : List Bool} (h : BView w v l) (hb : Below w.heap.size w w') : BView w' v l := by
  obtain ⟨ao, cap, e, hc, hm, hl⟩ := h
  refine ⟨ao, cap, e, hc, hm, ?_⟩
  rcases hl with h | ⟨g, off, e, hl⟩
  · exact .inl h
  · exact .inr ⟨g, off, e, fun j x hj => cell_later hb (hl j x hj)⟩
theorem BView.row {w : World} {ao : Option Addr} {n cap : Nat} {l : List Bool} (h : BView w (.slice ao n cap) l) {j : Nat} {x : Bool} (hj : l[j]? = some x) : ∃ g off, ao = some ⟨g, off, none⟩ ∧ w.cell? ⟨g, off + j, none⟩ = some (.bool x) := by
  obtain ⟨ao', cap', e, hc, hm, hl⟩ := h
  cases e
  rcases hl with rfl | ⟨g, off, rfl, hl⟩
  · simp at hj
  · exact ⟨g, off, rfl, hl j x hj⟩
theorem BView.nil (w : World) : BView w (.slice none 0 0) [] := ⟨none, 0, rfl, Nat.le_refl _, by unfold maxLen; omega, .inl rfl⟩
theorem Try.infoU : (Try.prog.info? 5).map (fun i => (i.zero, i.size, i.bytes)) = some (some (.int .u8 0), 1, 1) := by kernel_rfl
def letZ (b : Bool) : Int := if b then 114 else 110
theorem txt_nums (l : List Bool) : strOfNums (l.map letZ) = txt l := by
  unfold strOfNums txt
  congr 1
  congr 1
  rw [List.map_map]
  apply List.map_congr_left
  intro b _
  cases b <;> rfl
set_option maxRecDepth 8000 in
set_option maxHeartbeats 2000000 in
theorem shapeText_any (v : Value) (l : List Bool) (w : World) (hv : BView w v l) (hl : l.length ≤ 100000) :
    Calls Try.prog 44 #[v] w fun e w' => e = .returned (.string (txt l)) ∧ Below w.heap.size w w' := by
  have HV := hidIt hv
  obtain ⟨iI, hI, hI0, hI1, hI2⟩ := info_parts Try.infoU
  obtain ⟨ao, cap, rfl, hc, hm, _⟩ := hv
  unfold maxLen at hm
  have m1 : ∀ W : World, (Instr.makeSlice 117 (.int .i64 (l.length : Int)) (.int .i64 (l.length : Int))).run Try.prog W = .ok (.slice (some ⟨W.heap.size, 0, none⟩) l.length l.length) (W.alloc (.cells (madeCells #[.int .u8 0] l.length) 5)) := fun W => run_make_row _ _ iI _ Try.underlying117 hI hI0 hI1 rfl _ _ _ (by rw [hI2]; omega) (by omega) W
  clear hI hI0 hI1 hI2
  go_enter Try.func44, Try.ntmps44
  go_wp2_with fail
  have HM := hidIt m1
  clear m1 HM
  have HX := hidIt (heap_alloc_new w (.cells (madeCells #[.int .u8 0] l.length) 5))
  have HB := hidIt (balloc w (.cells (madeCells #[.int .u8 0] l.length) 5))
  have HZ : Hid ((madeCells #[Value.int .u8 0] l.length).size = l.length) := hidIt (by have := congrArg List.length (toList_madeCells_one (.int .u8 0) l.length); simpa using this)
  generalize madeCells #[Value.int .u8 0] l.length = cur0 at *
  generalize w.alloc (.cells cur0 5) = w1 at *
  go_loopw [11] (fun iv wr => ∃ (k : Nat) (cur : Array Value), k ≤ l.length ∧ iv = .int .i64 (k : Int) ∧ cur.size = l.length ∧ Blk wr w.heap.size cur 5 ∧ (∀ j x, l[j]? = some x → j < k → cur[j]? = some (.int .u8 (letZ x))) ∧ Below w.heap.size w wr) (fun iv _ => l.length - (intOf iv).toNat)
  case atStart => exact ⟨0, cur0, Nat.zero_le _, rfl, HZ.out, HX.out, fun j x _ h => absurd h (by omega), HB.out⟩
  case round =>
    clear HX HB HZ
    obtain ⟨k, cur, hk, rfl, hz, hx, hc, hb⟩ := hrel
    have HX := hidIt hx
    have HC := hidIt hc
    have HB := hidIt hb
    have HZ := hidIt hz
    clear hx hc hb
    by_cases hlt : k < l.length
    · have hlt' : (k : Int) < (l.length : Int) := by omega
      obtain ⟨x, hx⟩ : ∃ x, l[k]? = some x := ⟨l[k], List.getElem?_eq_getElem hlt⟩
      obtain ⟨g, off, rfl, c0⟩ := (HV.out.below HB.out).row hx
      have HL := hidIt hx
      obtain ⟨u0, hu0⟩ : ∃ u0, cur[k]? = some u0 := ⟨cur[k], Array.getElem?_eq_getElem (by omega)⟩
      have c1 : wr.cell? ⟨w.heap.size, k, none⟩ = some u0 := by rw [HX.out.cell k, hu0]
      have f1 := HX.out.frozen k
      clear hu0 hx hz
      have NX : Hid (∀ z : Int, z = letZ x → ∀ cur' : Array Value, cur' = cur.setIfInBounds k (.int .u8 z) → cur'.size = l.length ∧ ∀ j x, l[j]? = some x → j < k + 1 → cur'[j]? = some (.int .u8 (letZ x))) := hidIt (fun z ez cur' ec => by
        subst ec ez
        refine ⟨by rw [Array.size_setIfInBounds]; exact HZ.out, fun j y hy hj => ?_⟩
        rw [Array.getElem?_setIfInBounds]
        by_cases e : k = j
        · subst e
          rw [HL.out] at hy
          cases hy
          rw [if_pos rfl, if_pos (by rw [HZ.out]; exact hlt)]
        · rw [if_neg e]
          exact HC.out j y hy (by omega))
      cases x with
      | false =>
        obtain ⟨N1, N2⟩ := NX.out 110 rfl _ rfl
        have HN := hidIt N2
        clear N2 NX
        go_wp2_with fail
        exact ⟨⟨k + 1, _, by omega, by go_num, N1, HX.out.set k _, HN.out, HB.out.setCell (Nat.le_refl _) _⟩, by simp [intOf]; omega⟩
      | true =>
        obtain ⟨N1, N2⟩ := NX.out 114 rfl _ rfl
        have HN := hidIt N2
        clear N2 NX
        have B2 := hidIt ((HX.out.set k (.int .u8 110)).set k (.int .u8 114))
        have e2 : (cur.setIfInBounds k (.int .u8 110)).setIfInBounds k (.int .u8 114) = cur.setIfInBounds k (.int .u8 114) := by
          apply Array.ext_getElem?; intro j; simp only [Array.getElem?_setIfInBounds, Array.size_setIfInBounds]; split <;> rfl
        rw [e2] at B2
        go_wp2_with fail
        exact ⟨⟨k + 1, _, by omega, by go_num, N1, B2.out, HN.out, (HB.out.setCell (Nat.le_refl _) _).setCell (Nat.le_refl _) _⟩, by simp [intOf]; omega⟩
    · have hlt' : ¬ (k : Int) < (l.length : Int) := by omega
      obtain rfl : k = l.length := by omega
      have hcv : (convert 117 9 (.slice (some ⟨w.heap.size, 0, none⟩) l.length l.length)).run Try.prog wr = .ok (.string (txt l)) wr := by
        rw [← txt_nums]
        refine run_convert_bytes_arg (P := Try.prog) wr 117 5 Try.underlying117 Try.underlying5 w.heap.size 0 l.length l.length (l.map letZ) (by simp) (fun i hi => ?_) 9 Try.underlying9
        rw [Nat.zero_add, HX.out.cell i, HC.out i l[i] (List.getElem?_eq_getElem hi) hi]
        simp [List.getD, hi]
      go_wp2_with fail
      go_ret
      exact ⟨rfl, HB.out⟩
end Go.Proofs.Ytbdeflpjplhafaa.J

