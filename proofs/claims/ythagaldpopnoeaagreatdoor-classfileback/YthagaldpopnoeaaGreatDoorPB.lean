/- How a row of bytes that came in is seen by the walks. -/
import Derived.Test.YthagaldpopnoeaaGreatDoorPO
import Derived.Test.YthagaldpopnoeaaGreatDoorYB
namespace Go.Proofs.YthagaldpopnoeaaGreatDoor
open Go.ChangeShapes Go.WideShapes Go.ChangeAt Go.RowKit
open Go.ChangeMaps (open_string shut_string)

theorem cells5 : Tryz.prog.cellsOf 5 = 1 := by kernel_rfl
theorem bulk_len {H : Type} : ∀ l : List (DataW H), l.length ≤ Rows.uptoBulkAll l
  | [] => by simp [Rows.uptoBulkAll]
  | d :: r => by
    have h1 := bulk_len r
    have h2 : 1 ≤ Rows.uptoBulk d := by
      cases d with
      | lit l => cases l <;> simp [Rows.uptoBulk]
      | _ => simp [Rows.uptoBulk]
    simp only [Rows.uptoBulkAll, List.length_cons]; omega

set_option maxRecDepth 20000 in
theorem open_bytes {H : Type} {enc : TypeId × Value → H} {W : World} {base : Nat} {v : Value} {d : DataW H} {p : List MemPlace} (hval : Value.okWide Tryz.prog W .any base 22 v)
    (h : DataW.Trod enc Tryz.prog W 0 (fun _ => true) true 22 v d p) : ∃ lb, View W v lb ∧ lb.length + 1 ≤ Rows.uptoBulk d := by
  obtain ⟨a, len, cap, rfl⟩ := okWide_slice Tryz.underlying22 hval
  obtain ⟨fuel, hf⟩ := h
  rcases open_ints Tryz.underlying22 Tryz.underlying5 cells5 hf with ⟨hcs, hx⟩ | ⟨x, l, c, zs, hcs, _, hl, hm, hz, hx, hcell, hwz⟩
  · simp [Value.cells] at hcs
    obtain ⟨rfl, rfl, rfl⟩ := hcs
    refine ⟨[], View.empty W, ?_⟩
    have hd : d = .nil := by simpa using congrArg Prod.fst hx
    rw [hd]; simp [Rows.uptoBulk]
  · simp [Value.cells] at hcs
    obtain ⟨rfl, rfl, rfl⟩ := hcs
    have hzl : zs.length = cap := by simpa using hz
    refine ⟨zs.take len, ⟨some x, cap, ?_, ?_, hm, ?_, ?_⟩, ?_⟩
    · rw [List.length_take, Nat.min_eq_left (by omega)]
    · rw [List.length_take]; omega
    · intro y hy
      have := hwz y (List.mem_of_mem_take hy)
      have := bounds_u8 this
      omega
    · by_cases h0 : len = 0
      · left; simp [h0]
      · right
        have h00 := hcell 0 (by omega)
        obtain ⟨b, o, sp⟩ := x
        have hsp : sp = none := by
          have e : (⟨b, o, sp⟩ : Addr).add 0 = ⟨b, o, sp⟩ := by unfold Addr.add; simp
          rw [e] at h00
          exact cell_spot h00
        subst hsp
        refine ⟨b, o, rfl, fun j y hj => ?_⟩
        have hj1 : j < len := by
          have := (List.getElem?_eq_some_iff.1 hj).1
          simp at this; omega
        have hj2 : zs[j]? = some y := by rwa [List.getElem?_take_of_lt hj1] at hj
        have hc := hcell j (by omega)
        have e : (⟨b, o, none⟩ : Addr).add j = ⟨b, o + j, none⟩ := by unfold Addr.add; split <;> simp_all
        rw [e] at hc
        rw [hc]
        simp [List.getD, hj2]
    · have hd : d = .slice (lits .u8 (zs.take len)) (lits .u8 (zs.drop len)) := by
        have := congrArg Prod.fst hx
        simpa using this
      rw [hd]
      have h1 := bulk_len (lits (H := H) .u8 (zs.take len))
      simp only [Rows.uptoBulk]
      simp only [lits, List.length_map] at h1 ⊢
      omega
set_option maxRecDepth 20000 in
/-- What the reach says of bytes. -/
theorem open_bytes_reach {H : Type} {enc : TypeId × Value → H} {W : World} {base : Nat} {v : Value} {d : DataW H} {p : List MemPlace} (hval : Value.okWide Tryz.prog W .any base 22 v)
    (h : DataW.Trod enc Tryz.prog W 0 (fun _ => true) true 22 v d p) (hr : ∀ x ∈ DataW.weights Tryz.prog 22 d, x ≤ reachBytes) : ∃ lb, View W v lb ∧ lb.length ≤ 140737488351232 := by
  obtain ⟨a, len, cap, rfl⟩ := okWide_slice Tryz.underlying22 hval
  obtain ⟨lb, hv, -⟩ := open_bytes hval h
  refine ⟨lb, hv, ?_⟩
  obtain ⟨ao', cap', e, -⟩ := id hv
  simp only [Value.slice.injEq] at e
  obtain ⟨-, rfl, -⟩ := e
  obtain ⟨fuel, hf⟩ := h
  rcases open_ints Tryz.underlying22 Tryz.underlying5 cells5 hf with ⟨hcs, hx⟩ | ⟨x, l, c, zs, hcs, _, hl, hm, hz, hx, hcell, hwz⟩
  · simp [Value.cells] at hcs
    simp [hcs.2.1]
  · simp [Value.cells] at hcs
    obtain ⟨-, rfl, rfl⟩ := hcs
    have hzl : zs.length = cap := by simpa using hz
    have hd : d = .slice (lits .u8 (zs.take lb.length)) (lits .u8 (zs.drop lb.length)) := by
      have := congrArg Prod.fst hx
      simpa using this
    have := hr ((lits (H := H) .u8 (zs.take lb.length)).length * 1 + (lits (H := H) .u8 (zs.drop lb.length)).length * 1) (by
      rw [hd, DataW.weights, Tryz.underlying22]
      simp only [List.mem_cons]
      left
      rw [show Tryz.prog.bytesOf 5 = 1 by kernel_rfl]
      omega)
    simp only [lits, List.length_map, List.length_take, List.length_drop, reachBytes] at this
    omega
end Go.Proofs.YthagaldpopnoeaaGreatDoor
