/- Add. -/
import Derived.Test.YtknppdpcgdncdaaKV
namespace Go.Proofs.Ytknppdpcgdncdaa.K
open Go.RowKit Go.ChangeMaps Q Q.D

theorem methsZ_all : ∀ (l a : List MD), methsZ a l = 0 → ∀ m ∈ l, ∃ a', methZ m a' = 0
  | [], _, _, m, hm => by simp at hm
  | x :: l, a, h, m, hm => by
    unfold methsZ at h
    split at h
    · rename_i h0
      rcases List.mem_cons.1 hm with rfl | h'
      · exact ⟨a, h0⟩
      · exact methsZ_all l _ h m h'
    · rename_i h0; exact absurd h h0
theorem small_of_meth {m : MD} {a : List MD} (h : methZ m a = 0) : MSm m := by
  unfold methZ at h
  split at h; · omega
  split at h; · omega
  split at h; · omega
  rename_i h3
  split at h; · omega
  split at h; · omega
  rename_i h5
  unfold marksZ at h
  split at h; · omega
  split at h; · omega
  rename_i h6
  simp only [Bool.not_eq_false, Bool.and_eq_true, decide_eq_true_eq] at h3 h5 h6
  refine ⟨by omega, by omega, by omega, fun r hr => ?_⟩
  have := List.all_eq_true.1 h6 r hr
  simp only [sizeB, Bool.and_eq_true, decide_eq_true_eq] at this
  omega
theorem small_of_right {k : KD} (h : rightZ k = 0) : KSm k := by
  unfold rightZ at h
  split at h; · omega
  split at h; · omega
  rename_i h2
  split at h; · omega
  split at h
  · simp only [Bool.not_eq_false, Bool.and_eq_true, decide_eq_true_eq] at h2
    exact ⟨by omega, by omega, by omega, fun m hm => by obtain ⟨a, ha⟩ := methsZ_all k.ms [] h m hm; exact small_of_meth ha⟩
  · rename_i h4; exact absurd h h4
theorem refZ_zero {R : List Mem} {k : KD} (h : refZ R k = 0) : rightZ k = 0 ∧ mfind R k.nm = none ∧ R.length < 32 ∧ (mfind R k.sup).isSome = true := by
  unfold refZ at h
  by_cases hz : rightZ k = 0
  · rw [if_pos hz] at h
    split at h; · omega
    rename_i h1
    split at h; · omega
    split at h; · omega
    rename_i h2 h3
    exact ⟨hz, by simpa using h1, by omega, by cases hm : mfind R k.sup <;> simp_all⟩
  · rw [if_neg hz] at h; exact absurd h hz

theorem KinO.below {n0 : Nat} {W W' : World} {pk mb : Nat} {v : Value} {R : List Mem} (h : KinO n0 W pk mb v R) (hb : Below W.heap.size W W') : KinO n0 W' pk mb v R :=
  ⟨h.hpk, h.hmb, h.box.below hb, own_keep h.own hb, h.map.kept (hb.block _ h.map.lt), h.mems.ext (seen_mono hb.size (fun b hb' hx => ⟨hx, hb.block b hb'⟩))⟩
theorem nameCells_flat (R : List Mem) : nameCells R = flatR (fun j => [.string ((R.reverse.map fun m => m.k.nm).getD j ⟨#[]⟩)]) R.length := by
  refine List.ext_getElem? (fun y => ?_)
  have hk : ∀ j, j < R.length → ((fun j => [Value.string ((R.reverse.map fun m => m.k.nm).getD j ⟨#[]⟩)]) j).length = 1 := fun j _ => rfl
  by_cases hy : y < R.length
  · have := flatR_at hk y hy 0 (by omega)
    rw [Nat.mul_one, Nat.add_zero] at this
    rw [this, List.getD_eq_getElem?_getD]
    simp [nameCells, hy]
  · rw [List.getElem?_eq_none (by simp [nameCells]; omega), List.getElem?_eq_none (by rw [flatR_len hk]; omega)]
theorem KinO.view {n0 : Nat} {W : World} {pk mb : Nat} {v : Value} {R : List Mem} (h : KinO n0 W pk mb v R) : ∃ ao c, v = .slice ao R.length c ∧ KinV W pk R mb ao c := by
  have ho := h.own
  rw [nameCells_flat] at ho
  obtain ⟨ao, c, rfl, l1, l2, hr⟩ := own_rows ho (fun _ _ => rfl)
  have hM := h.mems.ext (seen_ext _ _)
  refine ⟨ao, c, rfl, ?_, ?_, h.map, hM, ?_⟩
  · rw [h.box.cell 0]; rfl
  · rw [h.box.cell 1]; rfl
  · have hlen : (R.reverse.map fun m => m.k.nm).length = R.length := by simp
    refine ⟨by rw [hlen]; exact l1, l2, fun j => [.string ((R.reverse.map fun m => m.k.nm).getD j ⟨#[]⟩)], by rw [hlen]; exact RowsAt.ext hr (seen_ext _ _), fun i x hx => ⟨?_, ?_⟩⟩
    · simp only [List.getD_eq_getElem?_getD, hx]; rfl
    · have hx' := List.mem_of_getElem? hx
      simp only [List.mem_map, List.mem_reverse] at hx'
      obtain ⟨m, hm, rfl⟩ := hx'
      obtain ⟨ab, _, _, _, _, _, _, hh⟩ := hM.at m hm
      exact hh.s1

/-- What Add does. -/
def AddIs (n0 : Nat) (w : World) (pk mb : Nat) (v : Value) (R : List Mem) (k : KD) (e : Ending) (w' : World) : Prop :=
  e = .returned (.int .i64 (refZ R k)) ∧ (if refZ R k = 0 then ∃ v' b, KinO n0 w' pk mb v' (⟨k, b⟩ :: R) ∧ KStep pk mb v w w' else Below w.heap.size w w')

set_option maxRecDepth 8000 in
set_option maxHeartbeats 4000000 in
theorem add_any (n0 : Nat) (w : World) (pk mb : Nat) (v : Value) (R : List Mem) (h : KinO n0 w pk mb v R) (k : KD) (cv : Value) (hc : ClassV w cv k) :
    Calls Try.prog 13 #[.pointer (some ⟨pk, 0, none⟩), cv] w fun e w' => AddIs n0 w pk mb v R k e w' := by
  have hc' := hc
  obtain ⟨o1, c1, o2, c2, o3, c3, rfl, z1, z2, k1, k2, k3⟩ := hc
  have B1 := balloc w (.cells #[.string k.nm, .string k.sup, .slice o1 k.pool.length c1, .slice o2 k.fs.length c2, .slice o3 k.ms.length c3] 34)
  have C1 := Blk.new w #[.string k.nm, .string k.sup, .slice o1 k.pool.length c1, .slice o2 k.fs.length c2, .slice o3 k.ms.length c3] 34
  have h1 := h.below B1
  obtain ⟨ao, c, hv, hV⟩ := h1.view
  clear hv
  have hRf := D.hidIt (refuse_any _ pk R mb ao c hV k _ (hc'.below B1))
  clear hV
  by_cases hz : refZ R k = 0
  · obtain ⟨r1, r2, r3, -⟩ := refZ_zero hz
    have hs := small_of_right r1
    have FIN : ∀ (w' : World) (v' : Value) (b : Nat), KinO n0 w' pk mb v' (⟨k, b⟩ :: R) → KStep pk mb v w w' → AddIs n0 w pk mb v R k (.returned (.int .i64 0)) w' := fun w' v' b hk hst => by
      unfold AddIs
      rw [if_pos hz, hz]
      exact ⟨rfl, v', b, hk, hst⟩
    have HFIN := D.hidIt FIN
    rw [hz] at hRf
    clear hz FIN
    generalize AddIs n0 w pk mb v R k = AI at *
    go_enter Try.func13, Try.ntmps13
    go_wp2_with fail
    generalize w.alloc (.cells #[.string k.nm, .string k.sup, .slice o1 k.pool.length c1, .slice o2 k.fs.length c2, .slice o3 k.ms.length c3] 34) = W1 at *
    refine hRf.out.mono ?_
    rintro e w2 ⟨rfl, b2⟩
    have C2 := C1.below b2
    have B2 := next B1 b2
    have y0 := C2.cell 0
    have y1 := C2.cell 1
    have y2 := C2.cell 2
    have y3 := C2.cell 3
    have y4 := C2.cell 4
    simp at y0 y1 y2 y3 y4
    have hcp := D.hidIt (copyC k _ w2 (hc'.below B2) hs)
    go_wp2_with fail
    refine hcp.out.mono ?_
    rintro e w3 ⟨b3, v3, rfl, hc3⟩
    have h3 := (h1.below b2).below b3
    have hpk := (h1.below b2).box.lt
    have hmb := (h1.below b2).map.lt
    have hvb := (h1.below b2).own.lt
    have hE : Ext (seen (newB w2.heap.size) w3) (seen (offK pk mb v) w3) := seen_mono (Nat.le_refl _) (fun b _ hb => by
      simp only [newB, decide_eq_true_eq] at hb
      exact ⟨offK_iff.2 ⟨by omega, by omega, fun e => by have := (hvb b e).2; omega⟩, rfl⟩)
    have hP := D.hidIt (put_any n0 w3 pk mb v R h3 k v3 (ClassV.ext hE hc3) r2 (by omega))
    obtain ⟨_, _, _, _, _, _, rfl, _⟩ := hc3
    go_wp2_with fail
    refine hP.out.mono ?_
    rintro e w4 ⟨⟨u, rfl⟩, v4, b4, hK, hst⟩
    go_wp2
    have B3 := next B2 b3
    refine HFIN.out w4 v4 b4 hK ⟨hst.os.trans B3.os, hst.tape.trans B3.tape, hst.output.trans B3.output, Nat.le_trans B3.size hst.size, fun b hb x1 x2 x3 => ?_⟩
    rw [hst.block b (Nat.lt_of_lt_of_le hb B3.size) x1 x2 x3, B3.block b hb]
  · have FIN : ∀ (w' : World), Below w.heap.size w w' → AddIs n0 w pk mb v R k (.returned (.int .i64 (refZ R k))) w' := fun w' hb => by
      unfold AddIs
      rw [if_neg hz]
      exact ⟨rfl, hb⟩
    have HFIN := D.hidIt FIN
    clear FIN
    generalize AddIs n0 w pk mb v R k = AI at *
    generalize refZ R k = rz at *
    have hz' : (rz != 0) = true := by simpa using hz
    go_enter Try.func13, Try.ntmps13
    go_wp2_with fail
    generalize w.alloc (.cells #[.string k.nm, .string k.sup, .slice o1 k.pool.length c1, .slice o2 k.fs.length c2, .slice o3 k.ms.length c3] 34) = W1 at *
    refine hRf.out.mono ?_
    rintro e w2 ⟨rfl, b2⟩
    go_wp2
    exact HFIN.out w2 (next B1 b2)
end Go.Proofs.Ytknppdpcgdncdaa.K
