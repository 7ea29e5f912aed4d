/- root, has, Loaded, loaded: walked. -/
import Derived.Test.YtacmooknfbjpeaaLA
namespace Go.Proofs.Ytacmooknfbjpeaa.J
open Go.RowKit Go.MapKept Go.ChangeMaps
set_option linter.unusedVariables false
variable {n0 : Nat} {w : World} {H : LB} {S : Ls} {L R : List Nat}

theorem ncell {w : World} {b : Nat} {L : List Nat} {T : TypeId} (h : Blk w b (ncells L).toArray T) {j x : Nat} (hx : L[j]? = some x) : w.cell? ⟨b, j, none⟩ = some (.int .i64 (x : Int)) := by
  rw [h.cell j]
  simpa using ncells_at hx
theorem ncells_set (L : List Nat) (j x : Nat) : (ncells L).toArray.setIfInBounds j (.int .i64 (x : Int)) = (ncells (L.set j x)).toArray := by
  simp [ncells, List.map_set]
/-- A list of parents turned, and nothing else. -/
structure OnlyB (b : Nat) (w w' : World) : Prop where
  os : w'.os = w.os
  tape : w'.tape = w.tape
  output : w'.output = w.output
  size : w'.heap.size = w.heap.size
  block : ∀ k, k ≠ b → w'.heap[k]? = w.heap[k]?
theorem OnlyB.refl (b : Nat) (w : World) : OnlyB b w w := ⟨rfl, rfl, rfl, rfl, fun _ _ => rfl⟩
theorem OnlyB.set {b : Nat} {w w' : World} (h : OnlyB b w w') (i : Nat) (v : Value) : OnlyB b w (w'.setCell ⟨b, i, none⟩ v) :=
  ⟨h.os, h.tape, h.output, by simp [h.size], fun k hk => (heap_setCell_other w' ⟨b, i, none⟩ k _ hk).trans (h.block k hk)⟩
theorem OnlyB.trans {b : Nat} {u w w' : World} (h : OnlyB b u w) (k : OnlyB b w w') : OnlyB b u w' :=
  ⟨k.os.trans h.os, k.tape.trans h.tape, k.output.trans h.output, k.size.trans h.size, fun j hj => (k.block j hj).trans (h.block j hj)⟩

theorem eql_nilN (w : World) (a : Option Addr) (l c : Nat) : (binOp .eql 80 (.slice a l c) (.slice none 0 0)).run Try.prog w = .ok (.bool a.isNone) w := by
  simp [binOp, run_equal_slice_nil w 80 3 a l c Try.underlying80]
theorem root_nil (n : Int) (w : World) : Calls Try.prog 38 #[.slice none 0 0, .int .i64 n] w fun e w' => e = .returned (.int .i64 n) ∧ w' = w := by
  have hq := eql_nilN w none 0 0
  go_enter Try.func38, Try.ntmps38
  go_wp2
  go_ret
  exact ⟨rfl, rfl⟩
theorem halve_rk {rk : Nat → Nat} {n j k : Nat} (hr : ∀ (i : Nat) j, L[i]? = some j → j ≠ i → rk j < rk i) (hn : L[n]? = some j) (hj : L[j]? = some k) (hne : j ≠ n) : (∀ (i : Nat) x, (L.set n k)[i]? = some x → x ≠ i → rk x < rk i) ∧ rk k < rk n ∧ k ≠ n := by
  have hjn := hr n j hn hne
  have hkj : rk k ≤ rk j := by
    by_cases e : k = j
    · rw [e]; exact Nat.le_refl _
    · exact Nat.le_of_lt (hr j k hj e)
  refine ⟨fun i x e hx => ?_, by omega, fun e => by rw [e] at hkj; omega⟩
  rw [List.getElem?_set] at e
  split at e
  · rename_i hi
    subst hi
    split at e
    · cases e; omega
    · cases e
  · exact hr i x e hx
/-- Where a way is: a list with the same roots. -/
def RtI (w : World) (b : Nat) (R : List Nat) (rk : Nat → Nat) (n : Nat) (iv : Value) (W : World) : Prop := ∃ (L : List Nat) (i : Nat), iv = .int .i64 (i : Int) ∧ i < 16 ∧ rtN R i = rtN R n ∧ UF L R ∧ (∀ (i : Nat) j, L[i]? = some j → j ≠ i → rk j < rk i) ∧ Blk W b (ncells L).toArray 3 ∧ OnlyB b w W
set_option maxRecDepth 8000 in
set_option maxHeartbeats 2000000 in
theorem root_any {b : Nat} (u : UF L R) (hb : Blk w b (ncells L).toArray 3) {n : Nat} (hn : n < 16) : Calls Try.prog 38 #[.slice (some ⟨b, 0, none⟩) 16 16, .int .i64 (n : Int)] w fun e w' => e = .returned (.int .i64 (rtN R n : Int)) ∧ ∃ L', UF L' R ∧ Blk w' b (ncells L').toArray 3 ∧ OnlyB b w w' := by
  obtain ⟨rk, hr⟩ := u.rank
  have R0 : Hid (RtI w b R rk n (.int .i64 (n : Int)) w) := hidIt ⟨L, n, rfl, hn, rfl, u, hr, hb, OnlyB.refl _ _⟩
  have hq := eql_nilN w (some ⟨b, 0, none⟩) 16 16
  clear u hr hb
  go_enter Try.func38, Try.ntmps38
  go_wp2_with fail
  clear hq
  go_loopw [1] (fun iv wr => RtI w b R rk n iv wr) (fun iv _ => rk (intOf iv).toNat)
  case atStart => exact R0.out
  case round =>
    clear R0
    obtain ⟨L, i, rfl, hi, hri, u, hr, hb, ho⟩ := hrel
    obtain ⟨j, hj, hj16⟩ := u.at hi
    obtain ⟨k, hk, hk16⟩ := u.at hj16
    have c1 := ncell hb hj
    have c2 := ncell hb hk
    have z1 := hb.frozen i
    have hi' : (i : Int) < 16 := by omega
    have hj' : (j : Int) < 16 := by omega
    by_cases e : j = i
    · subst e
      have hroot := u.root _ hj
      have U := hidIt u
      have HB := hidIt hb
      have HO := hidIt ho
      clear hr u hb ho hk c2
      go_wp2_with fail
      go_ret
      exact ⟨by rw [← hri, hroot]; rfl, L, U.out, HB.out, HO.out⟩
    · have U := hidIt (u.halve hj hk e)
      obtain ⟨a1, a2, a3⟩ := halve_rk hr hj hk e
      have hs : rtN R k = rtN R n := ((u.same j k hk).trans (u.same i j hj)).trans hri
      have A := hidIt a1
      have B := hidIt a2
      have HB := hidIt (hb.set i (.int .i64 (k : Int)))
      rw [ncells_set] at HB
      have HO := hidIt (ho.set i (.int .i64 (k : Int)))
      have hne : ((j : Int) != (i : Int)) = true := by simp; omega
      clear hr u hb ho hj hk a1 a2
      go_wp2_with fail
      exact ⟨⟨_, k, rfl, hk16, hs, U.out, A.out, HB.out, HO.out⟩, by simpa [intOf] using B.out⟩
theorem set_self {α : Type} {x : α} : ∀ {l : List α} {i : Nat}, l[i]? = some x → l = l.set i x
  | [], i, h => by simp at h
  | y :: l, 0, h => by simp only [List.getElem?_cons_zero, Option.some.injEq] at h; subst h; rfl
  | y :: l, i + 1, h => by simp only [List.set_cons_succ]; rw [← set_self (l := l) (by simpa using h)]
theorem LoV.root (h : LoV n0 w H S) (nm : ByteArray) {n : Nat} (hn : n < 16) : Calls Try.prog 38 #[pvL H S nm, .int .i64 (n : Int)] w fun e w' => e = .returned (.int .i64 (S.rt nm n : Int)) ∧ LoV n0 w' H S ∧ LStep H H w w' := by
  rcases pvL_at h nm with ⟨e1, e2⟩ | ⟨i, nm', R, L, e1, e2, e3, u, hb⟩
  · rw [e2]
    refine (root_nil (n : Int) w).mono fun e w' ⟨a, b⟩ => ?_
    cases b
    unfold Ls.rt
    rw [e1]
    exact ⟨a, h, LStep.refl _ _⟩
  · rw [e3]
    refine (root_any u hb hn).mono fun e w' ⟨a, L', u', hb', o⟩ => ?_
    unfold Ls.rt
    rw [e1]
    exact ⟨a, h.setP (R' := R) e2 u' hb' o.block (set_self e2) rfl, h.stepP e2 o.size o.os o.tape o.output o.block⟩

theorem lhas_any (h : LoV n0 w H S) (n : Int) : Calls Try.prog 24 #[H.ptr, .int .i64 n] w fun e w' => e = .returned (.bool (S.hasB n)) ∧ w' = w := by
  have c0 := h.c0
  have hf := h.few
  obtain ⟨ao, cap, e⟩ := h.slice
  rw [e] at c0
  clear h
  unfold LB.ptr Ls.hasB
  generalize S.each.length = m at *
  by_cases h0 : 0 ≤ n
  · by_cases h1 : n < (m : Int)
    · rw [decide_eq_true ⟨h0, h1⟩]
      go_enter Try.func24, Try.ntmps24
      go_wp2
      go_ret
      exact ⟨by simp, rfl⟩
    · rw [decide_eq_false (fun e => h1 e.2)]
      go_enter Try.func24, Try.ntmps24
      go_wp2
      go_ret
      exact ⟨by simp, rfl⟩
  · rw [decide_eq_false (fun e => h0 e.1)]
    go_enter Try.func24, Try.ntmps24
    go_wp2
    go_ret
    exact ⟨rfl, rfl⟩
theorem has_lt {n : Int} (h : S.hasB n = true) : ∃ (i : Nat) (x : Ln), n = (i : Int) ∧ i < S.each.length ∧ S.each[i]? = some x := by
  unfold Ls.hasB at h
  have := of_decide_eq_true h
  exact ⟨n.toNat, _, by omega, by omega, List.getElem?_eq_getElem (by omega)⟩
theorem ldd_no {n : Int} (h : S.hasB n = false) (nm : ByteArray) : S.ldd n nm = none := by
  unfold Ls.hasB at h
  have := of_decide_eq_false h
  unfold Ls.ldd Ls.ldN
  split
  · rw [List.getElem?_eq_none (by omega)]
  · rfl
theorem ldd_nat (S : Ls) (i : Nat) (nm : ByteArray) : S.ldd (i : Int) nm = S.ldN i nm := by
  unfold Ls.ldd
  rw [if_pos (by omega)]
  rfl
def ldA (o : Option (Int × Int)) : Value := .tuple #[.int .i64 (o.getD (0, 0)).1, .bool o.isSome]
theorem zero_cls (w : World) : (zeroValue 78).run Try.prog w = .ok (.agg #[.int .i64 0, .int .i64 0]) w := by
  exact Try.zeroValue78 w
set_option maxRecDepth 8000 in
set_option maxHeartbeats 2000000 in
theorem Loaded_any (h : LoV n0 w H S) (n : Int) (nm : ByteArray) : Calls Try.prog 13 #[H.ptr, .int .i64 n, .string nm] w fun e w' => e = .returned (ldA (S.ldd n nm)) ∧ Below w.heap.size w w' := by
  have G := hidIt (lhas_any h n)
  cases hh : S.hasB n with
  | false =>
    rw [hh] at G
    rw [ldd_no hh]
    clear h
    unfold LB.ptr ldA at *
    go_enter Try.func13, Try.ntmps13
    go_wp2_with (go_at_call 24; refine G.out.mono ?_; rintro e w' ⟨rfl, hww⟩; cases hww)
    go_ret2
    exact ⟨rfl, Below.refl _ _⟩
  | true =>
    rw [hh] at G
    obtain ⟨i, x, rfl, hi, hx⟩ := has_lt hh
    rw [ldd_nat]
    unfold Ls.ldN
    rw [hx]
    obtain ⟨g, cap, ev, hc, hg, k0, k1, k2, m1, m2⟩ := h.row hx
    have c0 := h.c0
    rw [ev] at c0
    have hf := h.few
    have hlk := m2.look2 Try.underlying62 Try.underlying9 (zero_cls w) nm
    rw [slook_map] at hlk
    have hv : ((alook x.ld nm).map clsV).getD (.agg #[.int .i64 0, .int .i64 0]) = .agg #[.int .i64 ((alook x.ld nm).getD (0, 0)).1, .int .i64 ((alook x.ld nm).getD (0, 0)).2] := by
      cases alook x.ld nm <;> rfl
    rw [hv, Option.isSome_map] at hlk
    clear h m1 m2 hh
    unfold LB.ptr ldA at *
    generalize S.each.length = m at *
    generalize (alook x.ld nm).isSome = ok at *
    generalize (alook x.ld nm).getD (0, 0) = c at *
    have hi' : (i : Int) < (m : Int) := by omega
    go_enter Try.func13, Try.ntmps13
    go_wp2_with (go_at_call 24; refine G.out.mono ?_; rintro e w' ⟨rfl, hww⟩; cases hww)
    go_ret2
    exact ⟨rfl, balloc _ _⟩
theorem loaded_any (h : LoV n0 w H S) (n : Int) (nm : ByteArray) : Calls Try.prog 40 #[H.ptr, .int .i64 n, .string nm] w fun e w' => e = .returned (.bool (S.ldd n nm).isSome) ∧ Below w.heap.size w w' := by
  have G := hidIt (Loaded_any h n nm)
  clear h
  unfold LB.ptr ldA at *
  generalize (S.ldd n nm).isSome = ok at *
  generalize ((S.ldd n nm).getD (0, 0)).1 = c at *
  go_enter Try.func40, Try.ntmps40
  go_wp2_with (go_at_call 13; refine G.out.mono ?_; rintro e w' ⟨rfl, hb⟩; have HB := hidIt hb; clear hb)
  go_ret
  exact ⟨rfl, HB.out⟩
/-- The id as which one of those has loaded a name who agree with root r, among the first k. -/
def toldK (S : Ls) (nm : ByteArray) (r : Nat) : Nat → Option Int
  | 0 => none
  | k + 1 => match toldK S nm r k with
    | some x => some x
    | none => if S.rt nm k = r then (S.ldN k nm).map (·.1) else none
def Ls.told (S : Ls) (i : Nat) (nm : ByteArray) : Option Int := toldK S nm (S.rt nm i) S.each.length
def toA_ (o : Option Int) : Value := .tuple #[.int .i64 (o.getD 0), .bool o.isSome]
theorem toldK_some {S : Ls} {nm : ByteArray} {r : Nat} {x : Int} : ∀ (m k : Nat), k ≤ m → toldK S nm r k = some x → toldK S nm r m = some x
  | 0, k, hk, e => by obtain rfl : k = 0 := by omega
                      exact e
  | m + 1, k, hk, e => by
    by_cases h : k = m + 1
    · subst h; exact e
    · have := toldK_some m k (by omega) e
      unfold toldK
      rw [this]
theorem SMap.look {P : Program} {w : World} {b : Nat} {l : List (ByteArray × Value)} {t k e : TypeId} (h : SMap w b l) (ht : P.underlying t = some (.map k e)) (hk : P.underlying k = some .string)
    {z : Value} (hz : (zeroValue e).run P w = .ok z w) (s : ByteArray) : (Instr.lookup t (.map (some b)) (.string s) false).run P w = .ok ((slook l s).getD z) w := by
  obtain ⟨es, clock, hb, he⟩ := h
  obtain ⟨f1, f2⟩ := findNow_str s es.toList l 0 he
  cases hs : slook l s with
  | none => simp [Instr.lookup, run_underlying ht, MapKept.run_getObj_map hb, check_str hk _ 9999, run_underlying hk, Instr.findKey, f1 hs, hz, Result.andThen]
  | some v =>
    obtain ⟨j, f3⟩ := f2 v hs
    simp [Instr.lookup, run_underlying ht, MapKept.run_getObj_map hb, check_str hk _ 9999, run_underlying hk, Instr.findKey, f3, Result.andThen]
set_option maxRecDepth 8000 in
set_option maxHeartbeats 2000000 in
theorem told_any (h : LoV n0 w H S) {i : Nat} (hi : i < S.each.length) (nm : ByteArray) : Calls Try.prog 25 #[H.ptr, .int .i64 (i : Int), .string nm] w fun e w' => e = .returned (toA_ (S.told i nm)) ∧ LoV n0 w' H S ∧ LStep H H w w' := by
  have hf := h.few
  have c0 := h.c0
  have c1 := h.c1
  obtain ⟨ao, cap, ev⟩ := h.slice
  rw [ev] at c0
  have hlk : (Instr.lookup 53 (.map (some (H.mb 0))) (.string nm) false).run Try.prog w = .ok (pvL H S nm) w := h.pmap.look Try.underlying53 Try.underlying9 (Try.zeroValue80 w) nm
  have HV := hidIt h
  have GL : Hid (∀ (W : World) (k : Nat), LoV n0 W H S → Calls Try.prog 13 #[.pointer (some ⟨H.hb, 0, none⟩), .int .i64 (k : Int), .string nm] W fun e w' => e = .returned (.tuple #[.int .i64 ((S.ldN k nm).getD (0, 0)).1, .bool (S.ldN k nm).isSome]) ∧ LoV n0 w' H S ∧ LStep H H W w') := hidIt fun W k hW => (Loaded_any hW (k : Int) nm).mono fun e w' ⟨a, b⟩ => ⟨by rw [a, ldd_nat]; rfl, hW.below b, LStep.of_below b⟩
  have GR : Hid (∀ (W : World) (k : Nat), k < 16 → LoV n0 W H S → Calls Try.prog 38 #[pvL H S nm, .int .i64 (k : Int)] W fun e w' => e = .returned (.int .i64 (S.rt nm k : Int)) ∧ LoV n0 w' H S ∧ LStep H H W w') := hidIt fun W k hk hW => hW.root nm hk
  have hT0 : Hid (toldK S nm (S.rt nm i) 0 = none) := hidIt rfl
  have hi16 : i < 16 := by omega
  clear h
  unfold Ls.told toA_ LB.ptr at *
  generalize hm : S.each.length = m at *
  generalize hpv : pvL H S nm = pv at *
  have HM := hidIt hm
  clear hm hpv
  have LS0 := hidIt (LStep.refl H w)
  go_enter Try.func25, Try.ntmps25
  go_wp2_with fail
  clear hlk c0 c1
  go_loopw [23] (fun jv wr => ∃ k : Nat, k ≤ m ∧ jv = .int .i64 (k : Int) ∧ toldK S nm (S.rt nm i) k = none ∧ LoV n0 wr H S ∧ LStep H H w wr) (fun jv _ => m - (intOf jv).toNat)
  case atStart => exact ⟨0, Nat.zero_le _, rfl, hT0.out, HV.out, LS0.out⟩
  case round =>
    clear HV LS0 hT0
    obtain ⟨k, hk, rfl, hT, hv, hs⟩ := hrel
    have HT := hidIt hT
    have HV := hidIt hv
    have HS := hidIt hs
    clear hT hv hs
    by_cases hlt : k < m
    · have hlt' : (k : Int) < (m : Int) := by omega
      have hk16 : k < 16 := by omega
      have g1 := hidIt (GL.out wr k HV.out)
      have HK : Hid (∀ o, (if S.rt nm k = S.rt nm i then (S.ldN k nm).map (·.1) else none) = o → toldK S nm (S.rt nm i) (k + 1) = o) := hidIt fun o e => by
        show (match toldK S nm (S.rt nm i) k with | some x => some x | none => _) = o
        rw [HT.out]; exact e
      have HKs : Hid (∀ x, toldK S nm (S.rt nm i) (k + 1) = some x → toldK S nm (S.rt nm i) m = some x) := hidIt fun x e => toldK_some m (k + 1) (by omega) e
      cases hl : S.ldN k nm with
      | none =>
        rw [hl] at g1
        have HN := hidIt (HK.out none (by rw [hl]; split <;> rfl))
        clear HK HKs hl
        simp only [Option.getD_none, Option.isSome_none] at g1
        go_wp2_with (go_at_call 13; refine g1.out.mono ?_; rintro e w1 ⟨rfl, hv1, hs1⟩; have HV1 := hidIt hv1; have HS1 := hidIt (HS.out.trans hs1); clear hv1 hs1)
        exact ⟨⟨k + 1, by omega, by go_num, HN.out, HV1.out, HS1.out⟩, by simp [intOf]; omega⟩
      | some c =>
        rw [hl] at g1
        simp only [Option.getD_some, Option.isSome_some] at g1
        have GR1 : Hid (∀ (W : World), LoV n0 W H S → Calls Try.prog 38 #[pv, .int .i64 (k : Int)] W fun e w' => e = .returned (.int .i64 (S.rt nm k : Int)) ∧ LoV n0 w' H S ∧ LStep H H W w') := hidIt fun W => GR.out W k hk16
        have GR2 : Hid (∀ (W : World), LoV n0 W H S → Calls Try.prog 38 #[pv, .int .i64 (i : Int)] W fun e w' => e = .returned (.int .i64 (S.rt nm i : Int)) ∧ LoV n0 w' H S ∧ LStep H H W w') := hidIt fun W => GR.out W i hi16
        have HK2 := hidIt (HK.out)
        by_cases he : S.rt nm k = S.rt nm i
        · have HN := hidIt (HK.out (some c.1) (by rw [hl, if_pos he]; rfl))
          have HN2 := hidIt (HKs.out _ HN.out)
          have he' : ((S.rt nm k : Int) == (S.rt nm i : Int)) = true := by simp [he]
          clear HK HKs HK2 hl HN
          go_wp2_with (first
            | (go_at_call 13; refine g1.out.mono ?_; rintro e w1 ⟨rfl, hv1, hs1⟩; have HV1 := hidIt hv1; have HS1 := hidIt (HS.out.trans hs1); clear hv1 hs1)
            | (go_at_call 38; refine (GR1.out _ HV1.out).mono ?_; rintro e w2 ⟨rfl, hv2, hs2⟩; have HV2 := hidIt hv2; have HS2 := hidIt (HS1.out.trans hs2); clear hv2 hs2 GR1 HV1)
            | (go_at_call 38; refine (GR2.out _ HV2.out).mono ?_; rintro e w3 ⟨rfl, hv3, hs3⟩; have HV3 := hidIt hv3; have HS3 := hidIt (HS2.out.trans hs3); clear hv3 hs3))
          go_ret2
          exact ⟨by rw [HN2.out]; rfl, HV3.out, HS3.out⟩
        · have HN := hidIt (HK.out none (by rw [if_neg he]))
          have he' : ((S.rt nm k : Int) == (S.rt nm i : Int)) = false := by simp; omega
          clear HK HKs HK2 hl
          go_wp2_with (first
            | (go_at_call 13; refine g1.out.mono ?_; rintro e w1 ⟨rfl, hv1, hs1⟩; have HV1 := hidIt hv1; have HS1 := hidIt (HS.out.trans hs1); clear hv1 hs1)
            | (go_at_call 38; refine (GR1.out _ HV1.out).mono ?_; rintro e w2 ⟨rfl, hv2, hs2⟩; have HV2 := hidIt hv2; have HS2 := hidIt (HS1.out.trans hs2); clear hv2 hs2 GR1 HV1)
            | (go_at_call 38; refine (GR2.out _ HV2.out).mono ?_; rintro e w3 ⟨rfl, hv3, hs3⟩; have HV3 := hidIt hv3; have HS3 := hidIt (HS2.out.trans hs3); clear hv3 hs3))
          exact ⟨⟨k + 1, by omega, by go_num, HN.out, HV3.out, HS3.out⟩, by simp [intOf]; omega⟩
    · have hlt' : ¬ (k : Int) < (m : Int) := by omega
      obtain rfl : k = m := by omega
      go_wp2_with fail
      go_ret2
      exact ⟨by rw [HT.out]; rfl, HV.out, HS.out⟩
end Go.Proofs.Ytacmooknfbjpeaa.J

