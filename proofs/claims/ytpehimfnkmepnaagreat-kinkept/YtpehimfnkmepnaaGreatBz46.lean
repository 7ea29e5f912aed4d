import Derived.Test.YtpehimfnkmepnaaGreatBz30
import Derived.Test.YtpehimfnkmepnaaGreatRows
import Derived.ProofKit
import Derived.OpenShut
import Derived.SliceStrings
import Derived.Lib.LaidU8
import Derived.ChangeOld
import Derived.Below
set_option maxRecDepth 8000
set_option maxHeartbeats 40000000
namespace Go.Proofs.YtpehimfnkmepnaaGreat.Q
open Go.ChangeShapes Go.WideShapes Go.ChangeAt Go.RowKit
open Go.ChangeMaps (open_string shut_string)
theorem cells3 : Tryz.prog.cellsOf 3 = 1 := by kernel_rfl
theorem cells5 : Tryz.prog.cellsOf 5 = 1 := by kernel_rfl
theorem zDl {W : World} {b o : Nat} {u : Value} (h : W.cell? ⟨b, o, none⟩ = some u) : b < W.heap.size := by
 apply Nat.lt_of_not_le
 intro hle
 have hn : W.heap[b]? = none := Array.getElem?_eq_none (by omega)
 simp [World.cell?, hn] at h
theorem trod_bytes {H : Type} {enc : TypeId × Value → H} {W : World} {fuel : Nat} {cs : List Value} {y : DataW H × List MemPlace}
 (ht : DataW.trod enc Tryz.prog W 0 (fun _ => true) true fuel 35 cs = some y) : ∃ ao cap l, cs = [.slice ao (List.length l) cap] ∧ View W (.slice ao (List.length l) cap) l := by
 rcases open_ints Tryz.underlying35 Tryz.underlying5 cells5 ht with ⟨rfl, _⟩ | ⟨x, len, cap, zs, rfl, _, hl, hm, hz, _, hcell, hwz⟩
 · exact ⟨none, 0, [], rfl, none, 0, rfl, Nat.le_refl _, by unfold maxLen; omega, fun x hx => by simp at hx, .inl rfl⟩
 · have hzl : zs.length = cap := by simpa using hz
   have e0 : (zs.take len).length = len := by rw [List.length_take, Nat.min_eq_left (by omega)]
   refine ⟨some x, cap, zs.take len, by rw [e0], some x, cap, rfl, by rw [e0]; omega, hm, ?_, ?_⟩
   · intro y hy
     have := hwz y (List.mem_of_mem_take hy)
     have := bounds_u8 this
     omega
   · by_cases h0 : len = 0
     · left; simp [h0]
     · right
       have h00 := hcell 0 (by omega)
       obtain ⟨b, o, sp⟩ := x
       have hsp : sp = none := by
        have e : (⟨b, o, sp⟩ : Addr).add 0 = ⟨b, o, sp⟩ := by unfold Addr.add; simp
        rw [e] at h00
        exact cell_spot h00
       subst hsp
       refine ⟨b, o, rfl, fun j y hj => ?_⟩
       have hj1 : j < len := by
        have := (List.getElem?_eq_some_iff.1 hj).1
        simp at this; omega
       have hj2 : zs[j]? = some y := by rwa [List.getElem?_take_of_lt hj1] at hj
       have hc := hcell j (by omega)
       have e : (⟨b, o, none⟩ : Addr).add j = ⟨b, o + j, none⟩ := by unfold Addr.add; split <;> simp_all
       rw [e] at hc
       rw [hc]
       simp [List.getD, hj2]
theorem zO1 {H : Type} {enc : TypeId × Value → H} {W : World} {base : Nat} {v : Value} {d : DataW H} {p : List MemPlace} (hval : Value.okWide Tryz.prog W .any base 22 v)
 (h : DataW.Trod enc Tryz.prog W 0 (fun _ => true) true 22 v d p) : ∃ rl : List Int, ∃ ao cap, v = .slice ao rl.length cap ∧ rl.length ≤ cap ∧ cap ≤ maxLen ∧ (∀ x ∈ rl, -9223372036854775808 ≤ x ∧ x ≤ 9223372036854775807) ∧ (rl = [] ∨ ∃ g off, ao = some ⟨g, off, none⟩ ∧ g < W.heap.size ∧ g < W.heap.size ∧ ∀ (j : Nat) x, rl[j]? = some x → W.cell? ⟨g, off + j, none⟩ = some (.int .i64 x)) := by
 obtain ⟨a, len, cap, rfl⟩ := okWide_slice Tryz.underlying22 hval
 obtain ⟨fuel, hf⟩ := h
 rcases open_ints Tryz.underlying22 Tryz.underlying3 cells3 hf with ⟨hcs, hx⟩ | ⟨x, l, c, zs, hcs, _, hl, hm, hz, hx, hcell, hwz⟩
 · simp [Value.cells] at hcs
   obtain ⟨rfl, rfl, rfl⟩ := hcs
   exact ⟨[], none, 0, rfl, Nat.le_refl _, by unfold maxLen; omega, by simp, .inl rfl⟩
 · simp [Value.cells] at hcs
   obtain ⟨rfl, rfl, rfl⟩ := hcs
   have hzl : zs.length = cap := by simpa using hz
   refine ⟨zs.take len, some x, cap, ?_, ?_, hm, fun y hy => bounds_i64 (hwz y (List.mem_of_mem_take hy)), ?_⟩
   · rw [List.length_take, Nat.min_eq_left (by omega)]
   · rw [List.length_take]; omega
   · by_cases h0 : len = 0
     · left; simp [h0]
     · right
       have h00 := hcell 0 (by omega)
       obtain ⟨b, o, sp⟩ := x
       have hsp : sp = none := by
        have e : (⟨b, o, sp⟩ : Addr).add 0 = ⟨b, o, sp⟩ := by unfold Addr.add; simp
        rw [e] at h00
        exact cell_spot h00
       subst hsp
       have hb : b < W.heap.size := by
        have e : (⟨b, o, none⟩ : Addr).add 0 = ⟨b, o, none⟩ := by unfold Addr.add; simp
        rw [e] at h00
        exact zDl h00
       refine ⟨b, o, rfl, hb, hb, fun j y hj => ?_⟩
       have hj1 : j < len := by
        have := (List.getElem?_eq_some_iff.1 hj).1
        simp at this; omega
       have hj2 : zs[j]? = some y := by rwa [List.getElem?_take_of_lt hj1] at hj
       have hc := hcell j (by omega)
       have e : (⟨b, o, none⟩ : Addr).add j = ⟨b, o + j, none⟩ := by unfold Addr.add; split <;> simp_all
       rw [e] at hc
       rw [hc]
       simp [List.getD, hj2]
end Go.Proofs.YtpehimfnkmepnaaGreat.Q
