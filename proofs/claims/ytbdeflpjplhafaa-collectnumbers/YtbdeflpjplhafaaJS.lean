/- plan of Slide: walked. -/
import Derived.Test.YtbdeflpjplhafaaJR
import Derived.Deep.CutRange
import Derived.OwnWalk
namespace Go.Proofs.Ytbdeflpjplhafaa.J
open Go.RowKit Go.MapKept Go.ChangeMaps
set_option linter.unusedVariables false

/-- A slide's box and its list. -/
structure SV (n1 : Nat) (W : World) (sb tb hb : Nat) (cur : List Int) : Prop where
  lo : n1 ≤ sb
  lot : n1 ≤ tb
  box : Blk W sb #[.pointer (some ⟨hb, 0, none⟩), .slice (some ⟨tb, 0, none⟩) cur.length cur.length] 107
  row : Blk W tb (icells cur).toArray 2
variable {n1 : Nat} {W W' : World} {sb tb hb : Nat} {cur : List Int}
theorem SV.c0 (h : SV n1 W sb tb hb cur) : W.cell? ⟨sb, 0, none⟩ = some (.pointer (some ⟨hb, 0, none⟩)) := h.box.cell 0
theorem SV.c1 (h : SV n1 W sb tb hb cur) : W.cell? ⟨sb, 1, none⟩ = some (.slice (some ⟨tb, 0, none⟩) cur.length cur.length) := h.box.cell 1
theorem SV.at_ (h : SV n1 W sb tb hb cur) {j : Nat} {x : Int} (hj : cur[j]? = some x) : W.cell? ⟨tb, j, none⟩ = some (.int .i64 x) ∧ W.frozen? ⟨tb, j, none⟩ = false := by
  refine ⟨?_, h.row.frozen j⟩
  rw [h.row.cell j]
  simpa using icells_at hj
theorem SV.below (h : SV n1 W sb tb hb cur) (hb' : Below W.heap.size W W') : SV n1 W' sb tb hb cur :=
  ⟨h.lo, h.lot, h.box.kept (hb'.block _ h.box.lt), h.row.kept (hb'.block _ h.row.lt)⟩
theorem SV.kept (h : SV n1 W sb tb hb cur) (h1 : W'.heap[sb]? = W.heap[sb]?) (h2 : W'.heap[tb]? = W.heap[tb]?) : SV n1 W' sb tb hb cur :=
  ⟨h.lo, h.lot, h.box.kept h1, h.row.kept h2⟩
theorem SV.grown (h : SV n1 W sb tb hb cur) {B n : Nat} {v : Value} {xs : List Value} (ho : W.ownsRow B 3 1 v n xs) (hg : W.grownBy W' v.ownBlock) : SV n1 W' sb tb hb cur :=
  h.kept (hg.block _ h.box.lt (fun e => own_not ho h.box (by decide) e.symm)) (hg.block _ h.row.lt (fun e => own_not ho h.row (by decide) e.symm))
theorem SV.ne (h : SV n1 W sb tb hb cur) : sb ≠ tb := fun e => by
  have h1 := h.box
  have h2 := h.row
  unfold Blk at h1 h2
  rw [e, h2] at h1
  simp at h1
theorem SV.set (h : SV n1 W sb tb hb cur) (j : Nat) (x : Int) : SV n1 (W.setCell ⟨tb, j, none⟩ (.int .i64 x)) sb tb hb (cur.set j x) := by
  refine ⟨h.lo, h.lot, ?_, ?_⟩
  · rw [List.length_set]
    exact h.box.kept (heap_setCell_other W ⟨tb, j, none⟩ sb _ h.ne)
  · have := h.row.set j (.int .i64 x)
    rwa [show (icells cur).toArray.setIfInBounds j (.int .i64 x) = (icells (cur.set j x)).toArray by simp [icells, List.map_set]] at this
/-- The list of a slide, once those were planned. -/
def toL (T : Nat) (K : List (Nat × Ob)) : List Int := (List.range T).map fun j => toA 0 K j
theorem toL_len (T : Nat) (K : List (Nat × Ob)) : (toL T K).length = T := by simp [toL]
theorem toL_at {T : Nat} (K : List (Nat × Ob)) {j : Nat} (h : j < T) : (toL T K)[j]? = some (toA 0 K j) := by simp [toL, h]
theorem toL_nil (T : Nat) : toL T [] = List.replicate T 0 := by
  unfold toL
  apply List.ext_getElem?
  intro i
  simp [List.getElem?_replicate, toA]
  by_cases h : i < T <;> simp [h]
theorem toL_step {l : List Ob} {K : List (Nat × Ob)} (h : KOk l K) {T i p : Nat} {o : Ob} (hi : K[i]? = some (p, o)) (hp : p + 1 < T) : (toL T (K.take i)).set (p + 1) ((usedN ((obsK K).take i) : Int) + 1) = toL T (K.take (i + 1)) := by
  apply List.ext_getElem?
  intro j
  rw [List.getElem?_set, toL_len]
  by_cases hj : j < T
  · rw [toL_at _ hj, toL_at _ hj, h.step hi]
    by_cases e : p + 1 = j
    · rw [if_pos e, if_pos hp, if_pos e.symm]
    · rw [if_neg e, if_neg (Ne.symm e)]
  · rw [if_neg (by omega), List.getElem?_eq_none (by rw [toL_len]; omega), List.getElem?_eq_none (by rw [toL_len]; omega)]
variable {n0 : Nat} {w : World} {H : HB} {most : Nat} {l : List Ob} {ss : List (List Bool)} {K : List (Nat × Ob)}
theorem KOk.obj (h : KOk l K) {i p : Nat} {o : Ob} (hi : K[i]? = some (p, o)) : objZ l ((p : Int) + 1) = some o := by
  unfold objZ
  rw [if_pos (by omega), show ((p : Int) + 1 - 1).toNat = p by omega]
  exact h.here hi
set_option maxRecDepth 8000 in
set_option maxHeartbeats 4000000 in
theorem plan_any (h : HeapV n0 w H most l ss) (hK : KOk l K) (vk : Value) (hv : NView w vk (keysK K)) (hbl : Below w.heap.size w W) (sv : SV w.heap.size W sb tb H.hb (toL (usedN l + 1) [])) :
    Calls Try.prog 54 #[.pointer (some ⟨sb, 0, none⟩), vk] W fun e w' => ∃ v', e = .returned (.tuple #[v', .int .i64 (usedN (obsK K) : Int), .bool true]) ∧ NOwn w' w.heap.size v' (begs 0 (obsK K)) ∧ SV w.heap.size w' sb tb H.hb (toL (usedN l + 1) K) ∧ Below w.heap.size w w' := by
  have HH := hidIt h
  have HV := hidIt hv
  obtain ⟨ao, cap, rfl, hc, hm, _⟩ := hv
  unfold maxLen at hm
  have hm2 : usedN l ≤ 16384 := Nat.le_trans h.few h.most
  have hkl : (keysK K).length = K.length := keysK_len K
  have GI : Hid (∀ (i p : Nat) o, K[i]? = some (p, o) → ∀ W, Below w.heap.size w W → Calls Try.prog 40 #[.pointer (some ⟨H.hb, 0, none⟩), .int .i64 ((p : Int) + 1)] W fun e w' => e = .returned (.bool true) ∧ w' = W) := hidIt (fun i p o hi W hb => by
    have := is_any (h.below hb) ((p : Int) + 1)
    rw [hK.obj hi] at this
    exact this)
  have GL : Hid (∀ (i p : Nat) o, K[i]? = some (p, o) → ∀ W, Below w.heap.size w W → Calls Try.prog 35 #[.pointer (some ⟨H.hb, 0, none⟩), .int .i64 ((p : Int) + 1)] W fun e w' => e = .returned (.int .i64 (o.f.length : Int)) ∧ w' = W) := hidIt (fun i p o hi W hb => by
    have := Len_any (h.below hb) ((p : Int) + 1)
    unfold lenZ at this
    rw [hK.obj hi] at this
    exact this)
  have SVv := hidIt sv
  have HB := hidIt hbl
  have HK := hidIt hK
  have hw : w.heap.size ≤ W.heap.size := hbl.size
  clear h hK sv hbl
  rw [hkl] at hc
  rw [hkl]
  go_enter Try.func54, Try.ntmps54
  go_wp2_with fail
  go_loopw [4, 5, 7, 12] (fun now used last iv wr => ∃ (k : Nat) (la : Int), k ≤ K.length ∧ iv = .int .i64 (k : Int) ∧ NOwn wr w.heap.size now (begs 0 ((obsK K).take k)) ∧ used = .int .i64 (usedN ((obsK K).take k) : Int) ∧ last = .int .i64 la ∧ (∀ x, (keysK K)[k]? = some x → la < x) ∧ SV w.heap.size wr sb tb H.hb (toL (usedN l + 1) (K.take k)) ∧ Below w.heap.size w wr) (fun _ _ _ iv _ => K.length - (intOf iv).toNat)
  case atStart =>
    refine ⟨0, 0, Nat.zero_le _, rfl, NOwn.nil _ _, rfl, rfl, fun x hx => ?_, by simpa using SVv.out, HB.out⟩
    simp only [keysK, List.getElem?_map, Option.map_eq_some_iff] at hx
    obtain ⟨y, _, rfl⟩ := hx
    omega
  case round =>
    clear SVv HB
    obtain ⟨k, la, hk, rfl, ho, rfl, rfl, hla, sv, hbl⟩ := hrel
    have HO := hidIt ho
    have SVv := hidIt sv
    have HB := hidIt hbl
    obtain ⟨ao2, cap2, rfl⟩ := own_slice ho
    have hz : w.heap.size ≤ wr.heap.size := hbl.size
    have x0 := sv.c0
    clear ho sv hbl
    by_cases hlt : k < K.length
    · have hlt' : (k : Int) < (K.length : Int) := by omega
      obtain ⟨⟨p, o⟩, hx⟩ : ∃ x, K[k]? = some x := ⟨K[k], List.getElem?_eq_getElem hlt⟩
      obtain ⟨g, off, rfl, c0⟩ := (HV.out.below HB.out).row (keysK_at hx)
      have hla' := hla _ (keysK_at hx)
      have hlaN : ¬ (p : Int) + 1 ≤ la := by omega
      obtain ⟨u1, u2⟩ := usedN_take (obsK K) k o (obsK_at hx)
      have u3 := HK.out.within
      have hpT := atN_lt l p o (HK.out.here hx)
      have NX : Hid (∀ W v, NOwn W w.heap.size v (begs 0 ((obsK K).take k) ++ [(usedN ((obsK K).take k) : Int) + 1]) → SV w.heap.size W sb tb H.hb ((toL (usedN l + 1) (K.take k)).set (p + 1) ((usedN ((obsK K).take k) : Int) + 1)) → Below w.heap.size w W → ∃ (k' : Nat) (la : Int), k' ≤ K.length ∧ Value.int .i64 ((k : Int) + 1) = .int .i64 (k' : Int) ∧ NOwn W w.heap.size v (begs 0 ((obsK K).take k')) ∧ Value.int .i64 ((usedN ((obsK K).take k) : Int) + (3 + (o.f.length : Int))) = .int .i64 (usedN ((obsK K).take k') : Int) ∧ Value.int .i64 ((p : Int) + 1) = .int .i64 la ∧ (∀ x, (keysK K)[k']? = some x → la < x) ∧ SV w.heap.size W sb tb H.hb (toL (usedN l + 1) (K.take k')) ∧ Below w.heap.size w W) := hidIt (fun W v a b c => ⟨k + 1, (p : Int) + 1, by omega, by go_num, by rw [begs_take_snoc (obsK_at hx)]; exact a, by rw [u1]; go_num, rfl, fun x hx2 => by
        simp only [keysK, List.getElem?_map, Option.map_eq_some_iff] at hx2
        obtain ⟨⟨p2, o2⟩, hy, rfl⟩ := hx2
        have := HK.out.lt hx hy (Nat.lt_succ_self k)
        simp only; omega, by rw [← toL_step HK.out hx (by omega)]; exact b, c⟩)
      have GI2 := hidIt (GI.out k p o hx)
      have GL2 := hidIt (GL.out k p o hx)
      have hln : (begs 0 ((obsK K).take k)).length ≤ 100000 := by rw [begs_len, List.length_take]; have := usedN_ge (obsK K); rw [obsK_len] at *; omega
      have hTl := hidIt (toL_at (T := usedN l + 1) (K.take k) (j := p + 1) (by omega))
      have hTn := hidIt (toL_len (usedN l + 1) (K.take k))
      generalize begs 0 ((obsK K).take k) = acc at *
      have e1 : usedN ((obsK K).take k) + (o.f.length + 3) ≤ 16384 := by omega
      have hpU : p + 1 < usedN l + 1 := by omega
      have hpU' : (p : Int) + 1 < ((usedN l + 1 : Nat) : Int) := by omega
      clear u1 u2 u3 hx hla hla' hpT
      generalize usedN ((obsK K).take k) = q at *
      generalize o.f.length = n at *
      have e2 : (q : Int) + (3 + (n : Int)) ≤ 16384 := by omega
      generalize toA 0 (K.take k) (p + 1) = y at *
      generalize toL (usedN l + 1) (K.take k) = cur at *
      generalize usedN l + 1 = T at *
      go_upto_region 10 with (first
        | (go_at_call 40; refine (GI2.out _ HB.out).mono ?_; rintro e w' ⟨rfl, hww⟩; cases hww)
        | (at_builtin; refine wpList_nappend rfl _ _ rfl w.heap.size _ _ _ HO.out rfl rfl (by omega) hz ?_; intro ao3 cap3 w2 ho2 st2; have HO2 := hidIt ho2; have SV2 := hidIt ((SVv.out.below (balloc _ _)).grown (own_below HO.out (balloc _ _)) st2.grown); have HB2 := hidIt ((HB.out.trans ((balloc _ _).mono hz)).trans (st2.below (Nat.le_trans hz (balloc _ _).size) (fun k hk => (HO.out.lt k hk).1))); have y0 := SV2.out.c0; have y1 := SV2.out.c1; rw [hTn.out] at y1; obtain ⟨z1, z2⟩ := SV2.out.at_ hTl.out; clear ho2 st2))
      have SV3 := hidIt (SV2.out.set (p + 1) ((q : Int) + 1))
      have HB3 := hidIt (HB2.out.setCell (p := ⟨tb, p + 1, none⟩) SV2.out.lot (.int .i64 ((q : Int) + 1)))
      have HO3 : Hid (NOwn (w2.setCell ⟨tb, p + 1, none⟩ (.int .i64 ((q : Int) + 1))) w.heap.size (.slice ao3 (acc.length + 1) cap3) (acc ++ [(q : Int) + 1])) := hidIt (own_kept HO2.out (fun g eg => heap_setCell_other w2 ⟨tb, p + 1, none⟩ g _ (fun e => own_not HO2.out SV2.out.row (by decide) (by rw [eg]; exact congrArg some e))))
      clear y0 y1 z1 z2
      generalize w2.setCell ⟨tb, p + 1, none⟩ (.int .i64 ((q : Int) + 1)) = w3 at *
      have y0 := SV3.out.c0
      have NN := hidIt (NX.out w3 _ HO3.out SV3.out HB3.out)
      have GL3 := hidIt (GL2.out w3 HB3.out)
      clear NX GL GI
      go_wp2_with (go_at_call 35; refine GL3.out.mono ?_; rintro e w' ⟨rfl, hww⟩; cases hww)
      exact ⟨NN.out, by simp [intOf]; omega⟩
    · have hlt' : ¬ (k : Int) < (K.length : Int) := by omega
      obtain rfl : k = K.length := by omega
      have e1 : (obsK K).take K.length = obsK K := by rw [← obsK_len, List.take_length]
      rw [e1] at HO
      rw [List.take_length] at SVv
      rw [e1]
      clear GI GL
      go_wp2_with fail
      go_ret3
      exact ⟨_, rfl, HO.out, SVv.out, HB.out⟩
end Go.Proofs.Ytbdeflpjplhafaa.J

