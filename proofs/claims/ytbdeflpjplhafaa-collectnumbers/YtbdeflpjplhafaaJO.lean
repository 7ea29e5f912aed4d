/- Shape: walked. -/
import Derived.Test.YtbdeflpjplhafaaJN
namespace Go.Proofs.Ytbdeflpjplhafaa.J
open Go.RowKit Go.MapKept Go.ChangeMaps
set_option linter.unusedVariables false

variable {n0 : Nat} {w : World} {H : HB} {most : Nat} {l : List Ob} {ss : List (List Bool)}
theorem Try.infoN2 : (Try.prog.info? 3).map (fun i => (i.zero, i.size, i.bytes)) = some (some (.int .i64 0), 1, 8) := by kernel_rfl
theorem zero_int (w : World) : (zeroValue 3).run Try.prog w = .ok (.int .i64 0) w := by
  obtain ⟨i0, hi, hz0, hz1, hz2⟩ := info_parts Try.infoN2
  simp [zeroValue, typeInfo, hi, hz0]
theorem HeapV.look (h : HeapV n0 w H most l ss) (r : List Bool) : (Instr.lookup 87 (.map (some H.mb)) (.string (txt r)) true).run Try.prog w = .ok (.tuple #[((idxS ss r).map fun (i : Nat) => Value.int .i64 (i : Int)).getD (.int .i64 0), .bool (idxS ss r).isSome]) w := by
  have := h.map.look2 Try.underlying87 Try.underlying9 (zero_int w) (txt r)
  rw [slook_ents] at this
  simpa using this
def ShQ (n0 : Nat) (w : World) (H : HB) (most : Nat) (l : List Ob) (ss : List (List Bool)) (r : List Bool) (w' : World) : Prop := ∃ H', HeapV n0 w' H' most l (addS ss r) ∧ HStep H H' w w'
set_option maxRecDepth 8000 in
set_option maxHeartbeats 2000000 in
theorem Shape_old (h : HeapV n0 w H most l ss) (v : Value) (r : List Bool) (hv : BView w v r) (hr : r.length ≤ 100000) (i : Nat) (hi : idxS ss r = some i) : Calls Try.prog 20 #[H.ptr, v] w fun e w' => e = .returned (.int .i64 (i : Int)) ∧ Below w.heap.size w w' := by
  have GT := hidIt (shapeText_any v r w hv hr)
  have HH := hidIt h
  unfold HB.ptr
  clear h hv
  go_enter Try.func20, Try.ntmps20
  go_wp2_with (go_at_call 44; refine GT.out.mono ?_; rintro e w' ⟨rfl, hb⟩; have HB1 := hidIt hb; have h2 := HH.out.below hb; have hlk := h2.look r; rw [hi] at hlk; simp only [Option.map_some, Option.getD_some, Option.isSome_some] at hlk; have c4 : w'.cell? ⟨H.hb, 4, none⟩ = some (.map (some H.mb)) := h2.box.cell 4; clear hb h2)
  go_ret
  exact ⟨rfl, HB1.out⟩
set_option maxRecDepth 8000 in
set_option maxHeartbeats 2000000 in
theorem Shape_new (h : HeapV n0 w H most l ss) (v : Value) (r : List Bool) (hv : BView w v r) (hr : r.length ≤ 100000) (hs : ss.length ≤ 100000) (hi : idxS ss r = none) : Calls Try.prog 20 #[H.ptr, v] w fun e w' => e = .returned (.int .i64 (ss.length : Int)) ∧ ShQ n0 w H most l ss r w' := by
  have GT := hidIt (shapeText_any v r w hv hr)
  have HH := hidIt h
  have hlo : n0 ≤ w.heap.size := by have := h.lt (.inl rfl); omega
  have FIN : Hid (∀ w1 H' w', Below w.heap.size w w1 → HeapV n0 w' H' most l (ss ++ [r]) → HStep H H' w1 w' → ShQ n0 w H most l ss r w') := hidIt (fun w1 H' w' a b c => ⟨H', by unfold addS; rw [hi]; exact b, (HStep.of_below a).trans c⟩)
  unfold HB.ptr
  generalize ShQ n0 w H most l ss r = Q at *
  clear h hv
  go_enter Try.func20, Try.ntmps20
  obtain ⟨ao, cap, esv⟩ := own_slice HH.out.so
  have HE := hidIt esv
  go_upto_region 5 with (go_at_call 44; refine GT.out.mono ?_; rintro e w' ⟨rfl, hb⟩; have HB1 := hidIt hb; have h2 := HH.out.below hb; have hlk := h2.look r; rw [hi] at hlk; simp only [Option.map_none, Option.getD_none, Option.isSome_none] at hlk; have c4 : w'.cell? ⟨H.hb, 4, none⟩ = some (.map (some H.mb)) := h2.box.cell 4; have c3 : w'.cell? ⟨H.hb, 3, none⟩ = some (.slice ao ss.length cap) := (by rw [h2.box.cell 3, ← HE.out]; rfl); have HL := hidIt h2; clear hb h2)
  clear hlk c4
  have HA := hidIt (HL.out.below (balloc _ (.cells #[.string (txt r)] 9)))
  have hsv : w'.ownsRow n0 9 1 (.slice ao ss.length cap) ss.length (xcells ss) := by rw [← HE.out]; exact HL.out.so
  have HSV := hidIt hsv
  have hz1 : n0 ≤ w'.heap.size := by have := HL.out.lt (.inl rfl); omega
  have hne : H.sv.ownBlock ≠ some H.hb := own_not HL.out.so HL.out.box (by decide)
  have HNE := hidIt hne
  clear hsv hne esv
  go_upto_region 6 with (at_builtin; refine wpList_xappend rfl _ _ rfl n0 _ _ _ HSV.out rfl rfl (by omega) hz1 ?_; intro ao3 cap3 w3 ho3 st3; have HO3 := hidIt ho3; have HS3 := hidIt st3; have hgb := st3.grown.block H.hb (HA.out.lt (.inl rfl)).2 (fun e => HNE.out (by rw [HE.out]; exact e.symm)); have b1 : w3.cell? ⟨H.hb, 3, none⟩ = some (.slice ao ss.length cap) := (World.cell?_of_block hgb).trans ((HA.out.box.cell 3).trans (by rw [← HE.out]; rfl)); have z1 : w3.frozen? ⟨H.hb, 3, none⟩ = false := (World.frozen?_of_block hgb).trans (HA.out.box.frozen 3); clear ho3 st3 hgb)
  have hgm := HS3.out.grown.block H.mb (HA.out.lt (.inr (.inl rfl))).2 (fun e => own_notM HL.out.so HL.out.map (by rw [HE.out]; exact e.symm))
  have hmb : H.mb ≠ H.hb := fun e => by
    obtain ⟨es, cl, hm, _⟩ := HL.out.map
    have := HL.out.box
    unfold Blk at this
    rw [← e, hm] at this
    cases this
  have HM : SMap (w3.setCell ⟨H.hb, 3, none⟩ (.slice ao3 (ss.length + 1) cap3)) H.mb (ents ss) := HA.out.map.kept ((heap_setCell_other w3 ⟨H.hb, 3, none⟩ H.mb _ hmb).trans hgm)
  obtain ⟨es, clk, hput, HM2⟩ := HM.put Try.underlying87 Try.underlying9 (txt r) (.int .i64 (ss.length : Int)) (by rw [slook_ents, hi]; rfl)
  have hgr : (w'.alloc (.cells #[.string (txt r)] 9)).grownBy w3 H.sv.ownBlock := by rw [HE.out]; exact HS3.out.grown
  obtain ⟨F1, F2⟩ := HA.out.shape (r := r) (v' := .slice ao3 (ss.length + 1) cap3) (w1 := w3) (by simpa using HO3.out) hgr (by have := HS3.out.moved; rw [HE.out]; exact this) HM2
  have FF := hidIt (FIN.out _ _ _ (HB1.out.trans ((balloc _ _).mono HB1.out.size)) F1 F2)
  have c4 : (w3.setCell ⟨H.hb, 3, none⟩ (.slice ao3 (ss.length + 1) cap3)).cell? ⟨H.hb, 4, none⟩ = some (.map (some H.mb)) := by
    have hb3 := HS3.out.grown.block H.hb (HA.out.lt (.inl rfl)).2 (fun e => HNE.out (by rw [HE.out]; exact e.symm))
    exact ((HA.out.box.kept hb3).set 3 (.slice ao3 (ss.length + 1) cap3)).cell 4
  clear F1 F2 HM2 HM hgr hgm HS3 HO3 HA HL HH GT FIN hi
  generalize w3.setCell ⟨H.hb, 3, none⟩ (.slice ao3 (ss.length + 1) cap3) = W4 at *
  generalize setBlock W4 H.mb (.map es clk) = W5 at *
  go_wp2_with fail
  go_ret
  exact ⟨rfl, FF.out⟩
end Go.Proofs.Ytbdeflpjplhafaa.J

