/- Like of package collect: walked. -/
import Derived.Test.YtbdeflpjplhafaaXC
namespace Go.Proofs.Ytbdeflpjplhafaa.J
open Go.RowKit Go.MapKept Go.ChangeMaps
set_option linter.unusedVariables false

theorem IMapS.new (w : World) : IMapS (w.alloc (.map #[] 0)) w.heap.size [] := ⟨#[], 0, heap_alloc_new w _, rfl, fun e h => by simp at h⟩
theorem IMapS.put {P : Program} {w : World} {b : Nat} {l : List (Int × Int)} {t k e : TypeId} (h : IMapS w b l) (ht : P.underlying t = some (.map k e)) (hk : P.underlying k = some (.int .i64))
    (s v : Int) (hs : ilook l s = none) : ∃ es clock, (Instr.mapUpdate t (.map (some b)) (.int .i64 s) (.int .i64 v)).run P w = .ok () (setBlock w b (.map es clock)) ∧ IMapS (setBlock w b (.map es clock)) b (l ++ [(s, v)]) := by
  obtain ⟨es, clock, hb, he, hst⟩ := h
  obtain ⟨f1, f2⟩ := findNow_int s es.toList l 0 he
  refine ⟨es.push ⟨.int .i64 s, .int .i64 v, clock⟩, clock + 1, ?_, ?_⟩
  · simp [Instr.mapUpdate, run_underlying ht, MapKept.run_getObj_map hb, check_int hk _ 9999, run_underlying hk, Instr.findKey, f1 hs, MapKept.run_setObj_map _ hb, Result.andThen, setBlock]
  · refine ⟨_, _, setBlock_at hb, by simp [he], fun e' he' => ?_⟩
    simp only [Array.toList_push, List.mem_append, List.mem_singleton] at he'
    rcases he' with h1 | rfl
    · have := hst e' h1; omega
    · exact Nat.lt_succ_self _
variable {n1 n2 : Nat} {w W : World} {H1 H2 : HB} {t1 t2 : Nat} {l1 l2 : List Ob} {s1 s2 : List (List Bool)} {ra rb : List Int} {pb m1 m2 k : Nat} {M left : List (Int × Int)} {x y : Int} {ha hb : Nat} {F : Nat → Prop}
theorem LkS.pop (h : LkS w pb m1 m2 ha hb (fun _ => False) M (left ++ [(x, y)]) W) (hm : M.length ≤ 100000) : Calls Try.prog 39 #[.pointer (some ⟨pb, 4, none⟩)] W fun e w' => e = .returned (.agg #[.int .i64 x, .int .i64 y]) ∧ LkS w pb m1 m2 ha hb (fun _ => False) M left w' := by
  obtain ⟨lv, a, b, c, d⟩ := h
  rw [List.length_append] at c
  simp only [List.length_cons, List.length_nil] at c
  exact (ppop_any a (by omega)).mono fun e w' ⟨e1, lv', e2, e3⟩ => ⟨e1, lv', e2, b.trans e3, by omega, fun _ h => h.elim⟩
def lkL (pb : Nat) (w : World) : Nat := match w.cell? ⟨pb, 4, none⟩ with
  | some (.slice _ n _) => n
  | _ => 0
def lkK (pb : Nat) (w : World) : Nat := match w.cell? ⟨pb, 2, none⟩ with
  | some (.map (some b)) => (match w.heap[b]? with
    | some (.map es _) => es.size
    | _ => 0)
  | _ => 0
theorem LkS.meas (h : LkS w pb m1 m2 ha hb F M left W) : lkL pb W = left.length ∧ lkK pb W = M.length := by
  obtain ⟨lv, a, -⟩ := h
  obtain ⟨ao, cap, rfl⟩ := own_slice a.own
  obtain ⟨es, clock, h1, h2, _⟩ := a.i1
  refine ⟨by unfold lkL; rw [a.c4], ?_⟩
  unfold lkK
  rw [a.c2]
  simp only [h1]
  have := congrArg List.length h2
  simpa using this
/-- What Like answers. -/
def LikeQ (s1 : List (List Bool)) (l1 : List Ob) (s2 : List (List Bool)) (l2 : List Ob) (ra rb : List Int) (w : World) (e : Ending) (w' : World) : Prop :=
  ∃ b, e = .returned (.bool b) ∧ (b = true ↔ ∃ R, VR s1 l1 s2 l2 ra rb R) ∧ Below w.heap.size w w'
theorem LikeQ.no {w' : World} (hv : ∀ R, ¬ VR s1 l1 s2 l2 ra rb R) (hb : Below w.heap.size w w') : LikeQ s1 l1 s2 l2 ra rb w (.returned (.bool false)) w' := ⟨false, rfl, ⟨fun h => (by cases h), fun ⟨R, hR⟩ => absurd hR (hv R)⟩, hb⟩
theorem LikeQ.yes {w' : World} {R : Int → Int → Prop} (hv : VR s1 l1 s2 l2 ra rb R) (hb : Below w.heap.size w w') : LikeQ s1 l1 s2 l2 ra rb w (.returned (.bool true)) w' := ⟨true, rfl, ⟨fun _ => ⟨R, hv⟩, fun _ => rfl⟩, hb⟩
theorem LkS.begin (h : LkS w pb m1 m2 ha hb F M left W) : Below w.heap.size w W := h.choose_spec.2.1
set_option maxRecDepth 8000 in
set_option maxHeartbeats 40000000 in
theorem like_any (h1 : HeapV n1 w H1 t1 l1 s1) (h2 : HeapV n2 w H2 t2 l2 s2) (r1 : RefsOk s1 l1) (r2 : RefsOk s2 l2) (va vb : Value) (hva : NView w va ra) (hvb : NView w vb rb) (hlen : ra.length = rb.length) (hla : ra.length ≤ 1000000000000000) (ga : ra.all (rootB l1) = true) (gb : rb.all (rootB l2) = true) :
    Calls Try.prog 9 #[H1.ptr, va, H2.ptr, vb] w fun e w' => LikeQ s1 l1 s2 l2 ra rb w e w' := by
  have hu1 : usedN l1 ≤ 16384 := Nat.le_trans h1.few h1.most
  have hg1 := usedN_ge l1
  have HVA := hidIt hva
  have HVB := hidIt hvb
  obtain ⟨aa, ca, rfl, hca, hma, _⟩ := hva
  obtain ⟨ab, cb, rfl, hcb, hmb, _⟩ := hvb
  unfold maxLen at hma hmb
  rw [← hlen] at hcb HVB ⊢
  have hlen1 : ra.length ≤ rb.length := by omega
  clear hlen
  -- the pairing
  obtain ⟨es1, k1, p1, i1⟩ := (IMapS.new w).put Try.underlying74 Try.underlying3 0 0 rfl
  have B1 : Below w.heap.size w (setBlock (w.alloc (.map #[] 0)) w.heap.size (.map es1 k1)) := below_setBlock (balloc w _) (Nat.le_refl _) _
  have z1 : (setBlock (w.alloc (.map #[] 0)) w.heap.size (.map es1 k1)).heap.size = w.heap.size + 1 := by simp [setBlock]
  generalize setBlock (w.alloc (.map #[] 0)) w.heap.size (.map es1 k1) = W1 at *
  obtain ⟨es2, k2, p2, i2⟩ := (IMapS.new W1).put Try.underlying74 Try.underlying3 0 0 rfl
  have B2 : Below W1.heap.size W1 (setBlock (W1.alloc (.map #[] 0)) W1.heap.size (.map es2 k2)) := below_setBlock (balloc W1 _) (Nat.le_refl _) _
  have z2 : (setBlock (W1.alloc (.map #[] 0)) W1.heap.size (.map es2 k2)).heap.size = W1.heap.size + 1 := by simp [setBlock]
  generalize setBlock (W1.alloc (.map #[] 0)) W1.heap.size (.map es2 k2) = W2 at *
  have i1' := i1.kept (B2.block _ (by omega))
  have B3 := balloc W2 (.cells #[.pointer (some ⟨H1.hb, 0, none⟩), .pointer (some ⟨H2.hb, 0, none⟩), .map (some w.heap.size), .map (some W1.heap.size), .slice none 0 0] 78)
  have N3 := Blk.new W2 #[.pointer (some ⟨H1.hb, 0, none⟩), .pointer (some ⟨H2.hb, 0, none⟩), .map (some w.heap.size), .map (some W1.heap.size), .slice none 0 0] 78
  have ST : Hid (LkS w W2.heap.size w.heap.size W1.heap.size H1.hb H2.hb (fun _ => False) [(0, 0)] [] (W2.alloc (.cells #[.pointer (some ⟨H1.hb, 0, none⟩), .pointer (some ⟨H2.hb, 0, none⟩), .map (some w.heap.size), .map (some W1.heap.size), .slice none 0 0] 78))) := hidIt ⟨.slice none 0 0, ⟨by omega, Nat.le_refl _, by omega, by omega, N3, i1'.kept (B3.block _ (by omega)), i2.kept (B3.block _ (by omega)), World.ownsRow_nil _ _ _ _⟩, (B1.trans (B2.mono (by omega))).trans (B3.mono (by omega)), by simp, fun _ h => h.elim⟩
  have GM1 : Hid (∀ X, Below w.heap.size w X → ∀ x, Calls Try.prog 36 #[.pointer (some ⟨H1.hb, 0, none⟩), .int .i64 x] X fun e w' => e = .returned (.bool (rootB l1 x)) ∧ w' = X) := hidIt (fun X hX x => mayBe_any (h1.below hX) x)
  have GM2 : Hid (∀ X, Below w.heap.size w X → ∀ x, Calls Try.prog 36 #[.pointer (some ⟨H2.hb, 0, none⟩), .int .i64 x] X fun e w' => e = .returned (.bool (rootB l2 x)) ∧ w' = X) := hidIt (fun X hX x => mayBe_any (h2.below hX) x)
  have GA : Hid (∀ X pb m1 m2 M left x y, LkS w pb m1 m2 H1.hb H2.hb (fun _ => False) M left X → Pz s1 l1 s2 l2 ra rb ra.length (x, y) M left → (x, y) ∈ M → (objZ l1 x).isSome = true → (objZ l2 y).isSome = true → Calls Try.prog 38 #[.pointer (some ⟨pb, 0, none⟩), .agg #[.int .i64 x, .int .i64 y]] X fun e w' => AlkQ s1 l1 s2 l2 ra rb ra.length w pb m1 m2 H1.hb H2.hb M left e w') := hidIt (fun X pb m1 m2 M left x y a b c d e => alike_any h1 h2 r1 r2 a b c d e)
  have GRa : Hid (∀ (i : Nat) x, ra[i]? = some x → rootB l1 x = true) := hidIt (fun i x h => List.all_eq_true.1 ga x (List.mem_of_getElem? h))
  have GRb : Hid (∀ (i : Nat) x, rb[i]? = some x → rootB l2 x = true) := hidIt (fun i x h => List.all_eq_true.1 gb x (List.mem_of_getElem? h))
  clear h1 h2 r1 r2 ga gb N3 i1 i2 i1' B1 B2 B3
  unfold HB.ptr
  have hmm := @run_makeMap Try.prog
  rw [z1] at z2 p2 ST
  rw [z2] at ST
  generalize hW3 : W2.alloc (.cells #[.pointer (some ⟨H1.hb, 0, none⟩), .pointer (some ⟨H2.hb, 0, none⟩), .map (some w.heap.size), .map (some (w.heap.size + 1)), .slice none 0 0] 78) = W3 at *
  go_enter Try.func9, Try.ntmps9
  go_wp2_with fail
  clear hmm p1 p2 hW3
  generalize w.heap.size + 1 + 1 = pb at *
  generalize w.heap.size + 1 = m2 at *
  clear z1 z2
  go_loopw [35] (fun jv wr => ∃ (k : Nat) (M left : List (Int × Int)), k ≤ ra.length ∧ jv = .int .i64 (k : Int) ∧ LkS w pb w.heap.size m2 H1.hb H2.hb (fun _ => False) M left wr ∧ Pz s1 l1 s2 l2 ra rb k (0, 0) M left) (fun jv _ => ra.length - (intOf jv).toNat)
  case atStart => exact ⟨0, [(0, 0)], [], Nat.zero_le _, rfl, ST.out, Pz.start⟩
  case round =>
    clear ST
    obtain ⟨k, M, left, hk, rfl, hs, hz⟩ := hrel
    have hbw := hs.begin
    have HF := hz.few
    by_cases hlt : k < ra.length
    · have hlt' : (k : Int) < (ra.length : Int) := by omega
      obtain ⟨x, hx⟩ : ∃ x, ra[k]? = some x := ⟨ra[k], List.getElem?_eq_getElem hlt⟩
      obtain ⟨y, hy⟩ : ∃ y, rb[k]? = some y := ⟨rb[k], List.getElem?_eq_getElem (by omega)⟩
      obtain ⟨ga, offa, rfl, c0⟩ := (HVA.out.below hbw).row hx
      obtain ⟨gb, offb, rfl, c1⟩ := (HVB.out.below hbw).row hy
      have rx := GRa.out k x hx
      have ry := GRb.out k y hy
      have G1 := hidIt (GM1.out wr hbw x)
      have G2 := hidIt (GM2.out wr hbw y)
      rw [rx] at G1
      rw [ry] at G2
      have GP := hidIt (hs.put (by omega) x y)
      cases hb : putB M x y with
      | true =>
        rw [hb] at GP
        have NX : Hid ((x, y) ∈ M ++ putN M x y ∧ Pz s1 l1 s2 l2 ra rb (k + 1) (0, 0) (M ++ putN M x y) (left ++ putN M x y)) := hidIt (by
          obtain ⟨a, b⟩ := hz.put_ok (rootB_iff.1 rx) (rootB_iff.1 ry) (fun hR => hR.ro hx hy) hb
          exact ⟨a, b.root hx hy a⟩)
        clear hb hz hs hx hy GRa GRb GM1 GM2 GA rx ry hbw
        go_wp2_with (first
          | (go_at_call 36; refine G1.out.mono ?_; rintro e w' ⟨rfl, hww⟩; cases hww; clear G1)
          | (go_at_call 36; refine G2.out.mono ?_; rintro e w' ⟨rfl, hww⟩; cases hww; clear G2)
          | (go_at_call 37; refine GP.out.mono ?_; rintro e w9 ⟨rfl, hq, -⟩; have HQ := hidIt hq; clear hq GP))
        exact ⟨⟨k + 1, M ++ putN M x y, left ++ putN M x y, by omega, by go_num, HQ.out, NX.out.2⟩, by simp [intOf]; omega⟩
      | false =>
        rw [hb] at GP
        have NV : Hid (∀ R, ¬ VR s1 l1 s2 l2 ra rb R) := hidIt (fun R hR => hz.put_no hb hR (hR.ro hx hy))
        clear hb hz hs hx hy GRa GRb GM1 GM2 GA rx ry hbw
        go_wp2_with (first
          | (go_at_call 36; refine G1.out.mono ?_; rintro e w' ⟨rfl, hww⟩; cases hww; clear G1)
          | (go_at_call 36; refine G2.out.mono ?_; rintro e w' ⟨rfl, hww⟩; cases hww; clear G2)
          | (go_at_call 37; refine GP.out.mono ?_; rintro e w9 ⟨rfl, hq, -⟩; have HQ := hidIt hq.begin; clear hq GP))
        go_ret
        exact LikeQ.no NV.out HQ.out
    · have hlt' : ¬ (k : Int) < (ra.length : Int) := by omega
      obtain rfl : k = ra.length := by omega
      have S0 : Hid (∃ M left, LkS w pb w.heap.size m2 H1.hb H2.hb (fun _ => False) M left wr ∧ Pz s1 l1 s2 l2 ra rb ra.length (0, 0) M left) := hidIt ⟨M, left, hs, hz⟩
      clear hs hz hbw HVA HVB GM1 GM2 GRa GRb HF
      go_wp2_with fail
      go_loopw [] (fun wr => ∃ M left, LkS w pb w.heap.size m2 H1.hb H2.hb (fun _ => False) M left wr ∧ Pz s1 l1 s2 l2 ra rb ra.length (0, 0) M left) (fun wr => 2 * (l1.length + 1 - lkK pb wr) + lkL pb wr)
      case atStart => exact S0.out
      case round =>
        clear S0
        obtain ⟨M, left, hs, hz⟩ := hrel
        have HF := hz.few
        obtain ⟨e1, e2⟩ := hs.meas
        rw [e1, e2]
        have hs2 := hs
        obtain ⟨lv, pv, hbw, hll, -⟩ := hs2
        have x4 := pv.c4
        obtain ⟨ao, cap, rfl⟩ := own_slice pv.own
        have hlm : (left.length : Int) ≤ 100000 := by omega
        by_cases h0 : left = []
        · subst h0
          have FIN : Hid (LikeQ s1 l1 s2 l2 ra rb w (.returned (.bool true)) wr) := hidIt (LikeQ.yes (hz.fin (Nat.le_refl _)) hbw)
          clear hs hz pv hbw GA
          go_wp2_with fail
          go_ret
          exact FIN.out
        · obtain ⟨left', ⟨x, y⟩, rfl⟩ : ∃ left' o, left = left' ++ [o] := ⟨left.dropLast, left.getLast h0, (List.dropLast_concat_getLast h0).symm⟩
          obtain ⟨p1, p2, p3, p4⟩ := hz.pop
          have GP := hidIt (hs.pop (by omega))
          have GA2 : Hid (∀ X, LkS w pb w.heap.size m2 H1.hb H2.hb (fun _ => False) M left' X → Calls Try.prog 38 #[.pointer (some ⟨pb, 0, none⟩), .agg #[.int .i64 x, .int .i64 y]] X fun e w' => AlkQ s1 l1 s2 l2 ra rb ra.length w pb w.heap.size m2 H1.hb H2.hb M left' e w') := hidIt (fun X hX => GA.out X pb w.heap.size m2 M left' x y hX p1 p2 p3 p4)
          have hl1 : (left' ++ [(x, y)]).length = left'.length + 1 := by simp
          rw [hl1] at x4 hlm ⊢
          clear hs hz pv hbw GA p1 p2 p3 p4 h0 e1 e2 hl1 hll
          have hpos : (0 : Int) < ((left'.length + 1 : Nat) : Int) := by omega
          go_wp2_with (first
            | (go_at_call 39; refine GP.out.mono ?_; rintro e w8 ⟨rfl, hq⟩; have GA3 := hidIt (GA2.out w8 hq); clear hq GP)
            | (go_at_call 38; refine GA3.out.mono ?_; rintro e w9 ⟨b, N, rfl, a1, a2, a3⟩; have A1 := hidIt a1; have A2 := hidIt a2; have A3 := hidIt a3; clear a1 a2 a3 GA3; cases b))
          · have NV := A3.out trivial
            have BB := A1.out.begin
            go_ret
            exact LikeQ.no NV BB
          · have NX := A2.out trivial
            obtain ⟨e1, e2⟩ := A1.out.meas
            have hF2 := NX.few
            rw [e1, e2]
            simp only [List.length_append] at hF2 ⊢
            exact ⟨⟨_, _, A1.out, NX⟩, by omega⟩
end Go.Proofs.Ytbdeflpjplhafaa.J
