/- Texts KV KW. -/
import Derived.Test.YtccbgdbipihoaaaBu07
import Derived.Test.YtccbgdbipihoaaaBu04
namespace Go.Proofs.Ytccbgdbipihoaaa.K
open Go.RowKit Go.ChangeMaps Q Q.D


end Go.Proofs.Ytccbgdbipihoaaa.K
namespace Go.Proofs.Ytccbgdbipihoaaa.K
open Go.RowKit Go.ChangeMaps Q Q.D


theorem KinO.below {n0 : Nat} {W W' : World} {pk mb : Nat} {v : Value} {R : List Mem} (h : KinO n0 W pk mb v R) (hb : Below W.heap.size W W') : KinO n0 W' pk mb v R :=
  ⟨h.hpk, h.hmb, h.box.below hb, own_keep h.own hb, h.map.kept (hb.block _ h.map.lt), h.mems.ext (seen_mono hb.size (fun b hb' hx => ⟨hx, hb.block b hb'⟩))⟩
theorem nameCells_flat (R : List Mem) : nameCells R = flatR (fun j => [.string ((R.reverse.map fun m => m.k.nm).getD j ⟨#[]⟩)]) R.length := by
  refine List.ext_getElem? (fun y => ?_)
  have hk : ∀ j, j < R.length → ((fun j => [Value.string ((R.reverse.map fun m => m.k.nm).getD j ⟨#[]⟩)]) j).length = 1 := fun j _ => rfl
  by_cases hy : y < R.length
  · have := flatR_at hk y hy 0 (by omega)
    rw [Nat.mul_one, Nat.add_zero] at this
    rw [this, List.getD_eq_getElem?_getD]
    simp [nameCells, hy]
  · rw [List.getElem?_eq_none (by simp [nameCells]; omega), List.getElem?_eq_none (by rw [flatR_len hk]; omega)]
theorem KinO.view {n0 : Nat} {W : World} {pk mb : Nat} {v : Value} {R : List Mem} (h : KinO n0 W pk mb v R) : ∃ ao c, v = .slice ao R.length c ∧ KinV W pk R mb ao c := by
  have ho := h.own
  rw [nameCells_flat] at ho
  obtain ⟨ao, c, rfl, l1, l2, hr⟩ := own_rows ho (fun _ _ => rfl)
  have hM := h.mems.ext (seen_ext _ _)
  refine ⟨ao, c, rfl, ?_, ?_, h.map, hM, ?_⟩
  · rw [h.box.cell 0]; rfl
  · rw [h.box.cell 1]; rfl
  · have hlen : (R.reverse.map fun m => m.k.nm).length = R.length := by simp
    refine ⟨by rw [hlen]; exact l1, l2, fun j => [.string ((R.reverse.map fun m => m.k.nm).getD j ⟨#[]⟩)], by rw [hlen]; exact RowsAt.ext hr (seen_ext _ _), fun i x hx => ⟨?_, ?_⟩⟩
    · simp only [List.getD_eq_getElem?_getD, hx]; rfl
    · have hx' := List.mem_of_getElem? hx
      simp only [List.mem_map, List.mem_reverse] at hx'
      obtain ⟨m, hm, rfl⟩ := hx'
      obtain ⟨ab, _, _, _, _, _, _, hh⟩ := hM.at m hm
      exact hh.s1



end Go.Proofs.Ytccbgdbipihoaaa.K
