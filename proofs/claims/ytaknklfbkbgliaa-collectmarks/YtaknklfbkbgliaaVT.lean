/- CollectMarks: walked. -/
import Derived.Test.YtaknklfbkbgliaaVN
import Derived.Test.YtaknklfbkbgliaaVO
import Derived.Test.YtaknklfbkbgliaaUR
namespace Go.Proofs.Ytaknklfbkbgliaa.J
open Go.RowKit Go.MapKept Go.ChangeMaps
set_option linter.unusedVariables false

theorem kept_eq {l : List Ob} {K K' : List (Nat × Ob)} (h : KOk l K) (h' : KOk l K') (e : keysK K = keysK K') : K = K' := by
  apply List.ext_getElem?
  intro i
  have hl : K.length = K'.length := by rw [← keysK_len K, e, keysK_len]
  by_cases hi : i < K.length
  · obtain ⟨⟨p, o⟩, h1⟩ : ∃ x, K[i]? = some x := ⟨K[i], List.getElem?_eq_getElem hi⟩
    obtain ⟨⟨p', o'⟩, h2⟩ : ∃ x, K'[i]? = some x := ⟨K'[i]'(by omega), List.getElem?_eq_getElem (by omega)⟩
    have e1 := keysK_at h1
    have e2 := keysK_at h2
    rw [e, e2] at e1
    have hp : p = p' := by have := Option.some.inj e1; omega
    subst hp
    have a1 := h.here h1
    have a2 := h'.here h2
    rw [a1] at a2
    cases a2
    rw [h1, h2]
  · rw [List.getElem?_eq_none (by omega), List.getElem?_eq_none (by omega)]
theorem rch_eq {ss : List (List Bool)} {l : List Ob} {roots : List Int} {K K' : List (Nat × Ob)} (h : RchK ss l roots K) (h' : RchK ss l roots K') : K = K' :=
  kept_eq h.ok h'.ok (rise_ext _ _ h.ok.keys h'.ok.keys fun x => (h.iff x).trans (h'.iff x).symm)
theorem TwoV.both {n0 : Nat} {X : Nat → Prop} {w : World} {p q most : Nat} {l m : List Ob} {ss tt : List (List Bool)} (h : TwoV n0 X w p q most l ss m tt) : ∃ (H : HB) (R : RB), H.hb = p ∧ R.rb = q ∧ HeapV n0 w H most l ss ∧ RV n0 w R most m tt := by
  obtain ⟨H, R, e1, e2, hh, hr, _⟩ := h
  exact ⟨H, R, e1, e2, hh, hr⟩
theorem usedN_skel : ∀ (a b : List Ob), skel a = skel b → usedN a = usedN b
  | [], [], _ => rfl
  | [], _ :: _, h => by simp [skel] at h
  | _ :: _, [], h => by simp [skel] at h
  | x :: a, y :: b, h => by
    simp only [skel, List.map_cons, List.cons.injEq, Prod.mk.injEq] at h
    obtain ⟨⟨h1, h2, h3⟩, h4⟩ := h
    simp only [usedN, h3]
    rw [usedN_skel a b h4]
theorem mark_yes {P : Program} {f : FuncId} {args : Array Value} {w : World} {b : Bool} {N : Ending → World → Prop} {Q : Ending → World → Prop} (h : Calls P f args w fun e w' => (b = false ∧ N e w') ∨ (b = true ∧ Q e w')) (hb : b = true) : Calls P f args w Q :=
  h.mono fun e w' he => by
    rcases he with ⟨a, _⟩ | ⟨_, c⟩
    · rw [hb] at a; cases a
    · exact c
theorem mark_no {P : Program} {f : FuncId} {args : Array Value} {w : World} {b : Bool} {N : Ending → World → Prop} {Q : Ending → World → Prop} (h : Calls P f args w fun e w' => (b = false ∧ N e w') ∨ (b = true ∧ Q e w')) (hb : b = false) : Calls P f args w N :=
  h.mono fun e w' he => by
    rcases he with ⟨_, c⟩ | ⟨a, _⟩
    · exact c
    · rw [hb] at a; cases a
theorem umark_as {f : FuncId} {args : Array Value} {w : World} {ss : List (List Bool)} {l : List Ob} {roots : List Int} {N : Ending → World → Prop} {K : List (Nat × Ob)} (h : Calls Try.prog f args w fun e w' => (roots.all (rootB l) = false ∧ N e w') ∨ (roots.all (rootB l) = true ∧ ∃ v, e = .returned (.tuple #[v, .bool true]) ∧ UMQ w ss l roots v w')) (hb : roots.all (rootB l) = true) (hK : RchK ss l roots K) :
    Calls Try.prog f args w fun e w' => ∃ a c, e = .returned (.tuple #[.slice a K.length c, .bool true]) ∧ NView w' (.slice a K.length c) (keysK K) ∧ Below w.heap.size w w' :=
  (mark_yes h hb).mono fun e w' ⟨v, e1, K', hK', hn, hb⟩ => by
    have := rch_eq hK' hK
    subst this
    obtain ⟨a, c, rfl⟩ := hn.shape (keysK_len _)
    exact ⟨a, c, e1, NOwn.view hn, hb⟩
theorem size_as {f : FuncId} {args : Array Value} {w : World} {ss : List (List Bool)} {l : List Ob} {roots : List Int} {K : List (Nat × Ob)} (h : Calls Try.prog f args w fun e w' => ∃ K, RchK ss l roots K ∧ e = .returned (.tuple #[.int .i64 (usedN (obsK K) : Int), .int .i64 0]) ∧ Below w.heap.size w w') (hK : RchK ss l roots K) :
    Calls Try.prog f args w fun e w' => e = .returned (.tuple #[.int .i64 (usedN (obsK K) : Int), .int .i64 0]) ∧ Below w.heap.size w w' :=
  h.mono fun e w' ⟨K', hK', e1, hb⟩ => by
    have := rch_eq hK' hK
    subst this
    exact ⟨e1, hb⟩
variable {w : World} {xs : List Nd} {r raw : List Int}
set_option maxRecDepth 8000 in
set_option maxHeartbeats 8000000 in
theorem collectMarks_any (vl vr vw : Value) (hl : NdV w vl xs) (hr : NView w vr r) (hw : NView w vw raw) (hwl : raw.length ≤ 17592186043904) : Calls Try.prog 5 #[vl, vr, vw] w fun e w' => e = .returned (.bool true) ∧ Below w.heap.size w w' := by
  have GB := hidIt (build_any (most := 400) (xs := xs) (by omega) (by decide) (by decide) vl hl)
  have HR := hidIt hr
  have HW := hidIt hw
  have hGl : (graphL xs).length ≤ 30 := by rw [graphL_len]; omega
  have hGu : usedN (graphL xs) ≤ 400 := by
    have h1 := nodeL_used xs (min xs.length 30) (by omega)
    have h2 := atN_skel (graphL xs) (nodeL xs (min xs.length 30)) 0 (graphL_skel xs)
    have h3 : usedN (graphL xs) = usedN (nodeL xs (min xs.length 30)) := usedN_skel _ _ (graphL_skel xs)
    omega
  have HXo : Hid ((rootsL r (begs 0 (graphL xs))).all (rootB (graphL xs)) = true) := hidIt (rootsL_ok r (graphL xs))
  have hXl : (rootsL r (begs 0 (graphL xs))).length ≤ 12 := rootsL_len _ _
  unfold BuildQ at GB
  clear hl hr hw
  generalize graphL xs = G at *
  have GX : Hid (∀ w1 v, Below w.heap.size w w1 → NOwn w1 w.heap.size v (begs 0 G) → Calls Try.prog 38 #[vr, v] w1 fun e w' => ∃ a c, e = .returned (.slice a (rootsL r (begs 0 G)).length c) ∧ NOwn w' w1.heap.size (.slice a (rootsL r (begs 0 G)).length c) (rootsL r (begs 0 G)) ∧ Below w1.heap.size w1 w') := hidIt (fun w1 v hb hn => (roots_any vr v (HR.out.below hb) (NOwn.view hn) (by rw [begs_len]; omega)).mono (fun e w' ⟨v, e1, e2, e3⟩ => by
    obtain ⟨a, c, rfl⟩ := own_slice e2
    exact ⟨a, c, e1, e2, e3⟩))
  generalize rootsL r (begs 0 G) = X at *
  go_enter Try.func5, Try.ntmps5
  go_wp2_with (first
    | (go_at_call 31; refine GB.out.mono ?_; rintro e w1 ⟨p, q, rv, rfl, ht, hn, hrf, hb⟩; obtain ⟨ar, cr, rfl⟩ := hn.shape (begs_len G 0); have HRF := hidIt hrf; have HB1 := hidIt hb; obtain ⟨H, R, rfl, rfl, hh, hv⟩ := ht.both; have HH := hidIt hh; have HV := hidIt hv; have GX2 := hidIt (GX.out w1 _ hb hn); clear hn hrf hb ht hh hv GX GB)
    | (go_at_call 38; refine GX2.out.mono ?_; rintro e w2 ⟨ax, cx, rfl, hn, hb⟩; have HX := hidIt hn; have HH2 := hidIt (HH.out.below hb); have HV2 := hidIt (HV.out.below hb); have HB2 := hidIt (HB1.out.trans (hb.mono HB1.out.size)); have GM1 := hidIt (mark_yes (gMark_any (HH.out.below hb) HRF.out _ (NOwn.view hn) (by omega)) HXo.out); clear hn hb GX2 HH HV)
    | (go_at_call 32; refine GM1.out.mono ?_; rintro e w3 ⟨va, rfl, K, hK, hn, hb⟩; obtain ⟨aa, ca, rfl⟩ := hn.shape (keysK_len K); have HK := hidIt hK; have HA := hidIt (NOwn.view hn); have HH3 := hidIt (HH2.out.below hb); have HV3 := hidIt (HV2.out.below hb); have HX3 := hidIt (own_below HX.out hb); have HB3 := hidIt (HB2.out.trans (hb.mono HB2.out.size)); have GU1 := hidIt (umark_as (umark_any (HV2.out.below hb) HRF.out _ (NOwn.view (own_below HX.out hb)) (by omega)) HXo.out hK); clear hK hn hb GM1 HH2 HV2 HX)
    | (go_at_call 25; refine GU1.out.mono ?_; rintro e w4 ⟨ab, cb, rfl, hn, hb⟩; have HBB := hidIt hn; have HA4 := hidIt (HA.out.below hb); have HH4 := hidIt (HH3.out.below hb); have HV4 := hidIt (HV3.out.below hb); have HB4 := hidIt (HB3.out.trans (hb.mono HB3.out.size)); have GS1 := hidIt (size_as (gSize_any (HH3.out.below hb) HRF.out _ (NOwn.view (own_below HX3.out hb)) (by omega) HXo.out) HK.out); clear hn hb GU1 HA HH3 HV3 HX3)
    | (go_at_call 34; refine GS1.out.mono ?_; rintro e w5 ⟨rfl, hb⟩; have HA5 := hidIt (HA4.out.below hb); have HBB5 := hidIt (HBB.out.below hb); have HH5 := hidIt (HH4.out.below hb); have HV5 := hidIt (HV4.out.below hb); have HB5 := hidIt (HB4.out.trans (hb.mono HB4.out.size)); clear hb GS1 HA4 HBB HH4 HV4))
  have hwi := HK.out.ok.within
  have hKc : K.length ≤ 16384 := by have := usedN_ge (obsK K); rw [obsK_len] at this; omega
  have GL : Hid (∀ x, Calls Try.prog 39 #[.pointer (some ⟨R.rb, 0, none⟩), .int .i64 x] w5 fun e w' => e = .returned (.int .i64 (lenZ G x)) ∧ w' = w5) := hidIt (fun x => ulen_any HV5.out x)
  have HKk := hidIt (fun (i p : Nat) (o : Ob) (hi : K[i]? = some (p, o)) => HK.out.ok.obj hi)
  go_loopw [17, 18] (fun s jv wr => ∃ k : Nat, k ≤ K.length ∧ jv = .int .i64 (k : Int) ∧ s = .int .i64 (usedN ((obsK K).take k) : Int) ∧ wr = w5) (fun _ jv _ => K.length - (intOf jv).toNat)
  case atStart => exact ⟨0, Nat.zero_le _, rfl, rfl, rfl⟩
  case round =>
    obtain ⟨k, hk, rfl, rfl, hwr⟩ := hrel
    by_cases hlt : k < K.length
    · subst hwr
      have hlt' : (k : Int) < (K.length : Int) := by omega
      obtain ⟨⟨p, o⟩, hx⟩ : ∃ x, K[k]? = some x := ⟨K[k], List.getElem?_eq_getElem hlt⟩
      obtain ⟨u1, u2⟩ := usedN_take (obsK K) k o (obsK_at hx)
      obtain ⟨g, off, rfl, c0⟩ := HBB5.out.row (keysK_at hx)
      have GL2 := hidIt (GL.out ((p : Int) + 1))
      have eL : lenZ G ((p : Int) + 1) = o.f.length := by unfold lenZ; rw [HKk.out k p o hx]
      rw [eL] at GL2
      have NX : Hid (Value.int .i64 ((usedN ((obsK K).take k) : Int) + 3 + (o.f.length : Int)) = .int .i64 (usedN ((obsK K).take (k + 1)) : Int)) := hidIt (by rw [u1]; go_num)
      have u3 : usedN ((obsK K).take k) + (o.f.length + 3) ≤ 16384 := by omega
      clear hx GL u1 u2
      generalize usedN ((obsK K).take k) = q at *
      generalize o.f.length = n at *
      have e2 : (q : Int) + 3 + (n : Int) ≤ 16384 := by omega
      go_wp2_with (go_at_call 39; refine GL2.out.mono ?_; rintro e w' ⟨rfl, hww⟩; cases hww)
      exact ⟨⟨k + 1, by omega, by go_num, NX.out, by trivial⟩, by simp [intOf]; omega⟩
    · subst hwr
      have hlt' : ¬ (k : Int) < (K.length : Int) := by omega
      obtain rfl : k = K.length := by omega
      have e1 : (obsK K).take K.length = obsK K := by rw [← obsK_len, List.take_length]
      rw [e1]
      clear e1 GL HKk
      have HW5 := hidIt (HW.out.below HB5.out)
      have GSab := fun (w9 : World) (hb : Below wr.heap.size wr w9) => nsame_any _ _ (keysK K) w9 (HA5.out.below hb) (HBB5.out.below hb)
      have HSab := hidIt GSab
      clear GSab
      generalize (usedN (obsK K) : Int) = UU at *
      cases hraw : raw.all (rootB G) with
      | false =>
        have GM2 := hidIt (mark_no (gMark_any HH5.out HRF.out _ HW5.out (by omega)) hraw)
        have GU2 : Hid (∀ w9, Below wr.heap.size wr w9 → Calls Try.prog 25 #[.pointer (some ⟨R.rb, 0, none⟩), vw] w9 fun e w' => e = .returned (.tuple #[.slice none 0 0, .bool false]) ∧ Below wr.heap.size wr w') := hidIt (fun w9 hb => (mark_no (umark_any (HV5.out.below hb) HRF.out _ (HW5.out.below hb) (by omega)) hraw).mono fun e w' ⟨a, b⟩ => ⟨a, hb.trans (b.mono hb.size)⟩)
        unfold HB.ptr at GM2
        have HN := hidIt (fun (w9 : World) => nsame_any (.slice none 0 0) (.slice none 0 0) [] w9 ⟨none, 0, rfl, Nat.le_refl _, by unfold maxLen; omega, .inl rfl⟩ ⟨none, 0, rfl, Nat.le_refl _, by unfold maxLen; omega, .inl rfl⟩)
        clear HH5 HV5 HW5 hraw HA5 HBB5
        go_wp2_with (first
          | (go_at_call 32; refine GM2.out.mono ?_; rintro e w6 ⟨rfl, hb⟩; have GU3 := hidIt (GU2.out w6 hb); clear hb GM2 GU2)
          | (go_at_call 25; refine GU3.out.mono ?_; rintro e w7 ⟨rfl, hb⟩; have HB7 := hidIt hb; have GS1 := hidIt (HSab.out w7 hb); clear hb GU3 HSab)
          | (go_at_call 28; refine GS1.out.mono ?_; rintro e w8 ⟨rfl, hb⟩; have HB8 := hidIt (HB7.out.trans (hb.mono HB7.out.size)); have GS2 := hidIt (HN.out w8); clear hb GS1 HN)
          | (go_at_call 28; refine GS2.out.mono ?_; rintro e w9 ⟨rfl, hb⟩; have HB9 := hidIt (HB8.out.trans (hb.mono HB8.out.size)); have GK := hidIt (gknown_any w9); clear hb GS2)
          | (go_at_call 37; refine GK.out.mono ?_; rintro e wz ⟨rfl, hbz⟩; have HBz := hidIt (HB5.out.trans ((HB9.out.trans (hbz.mono HB9.out.size)).mono HB5.out.size)); clear hbz GK))
        go_ret
        exact ⟨rfl, HBz.out⟩
      | true =>
        have GM2 := hidIt (mark_yes (gMark_any HH5.out HRF.out _ HW5.out (by omega)) hraw)
        have GU2 : Hid (∀ w9 K2, RchK shp4 G raw K2 → Below wr.heap.size wr w9 → Calls Try.prog 25 #[.pointer (some ⟨R.rb, 0, none⟩), vw] w9 fun e w' => ∃ a c, e = .returned (.tuple #[.slice a K2.length c, .bool true]) ∧ NView w' (.slice a K2.length c) (keysK K2) ∧ Below w9.heap.size w9 w' ∧ Below wr.heap.size wr w') := hidIt (fun w9 K2 hK2 hb => (umark_as (umark_any (HV5.out.below hb) HRF.out _ (HW5.out.below hb) (by omega)) hraw hK2).mono fun e w' ⟨a, c, e1, e2, e3⟩ => ⟨a, c, e1, e2, e3, hb.trans (e3.mono hb.size)⟩)
        unfold HB.ptr at GM2
        clear HH5 HV5 HW5 hraw HA5 HBB5
        go_wp2_with (first
          | (go_at_call 32; refine GM2.out.mono ?_; rintro e w6 ⟨vc, rfl, K2, hK2, hn, hb⟩; obtain ⟨ac, cc, rfl⟩ := hn.shape (keysK_len K2); have HC := hidIt (NOwn.view hn); have GU3 := hidIt (GU2.out w6 K2 hK2 hb); clear hK2 hn hb GM2 GU2)
          | (go_at_call 25; refine GU3.out.mono ?_; rintro e w7 ⟨ad, cd, rfl, hd, hb0, hb⟩; have HB7 := hidIt hb; have GS1 := hidIt (HSab.out w7 hb); have HN := hidIt (fun (w9 : World) (h9 : Below w7.heap.size w7 w9) => nsame_any _ _ (keysK K2) w9 ((HC.out.below hb0).below h9) (hd.below h9)); clear hb hb0 hd HC GU3 HSab)
          | (go_at_call 28; refine GS1.out.mono ?_; rintro e w8 ⟨rfl, hb⟩; have HB8 := hidIt (HB7.out.trans (hb.mono HB7.out.size)); have GS2 := hidIt (HN.out w8 hb); clear hb GS1 HN)
          | (go_at_call 28; refine GS2.out.mono ?_; rintro e w9 ⟨rfl, hb⟩; have HB9 := hidIt (HB8.out.trans (hb.mono HB8.out.size)); have GK := hidIt (gknown_any w9); clear hb GS2)
          | (go_at_call 37; refine GK.out.mono ?_; rintro e wz ⟨rfl, hbz⟩; have HBz := hidIt (HB5.out.trans ((HB9.out.trans (hbz.mono HB9.out.size)).mono HB5.out.size)); clear hbz GK))
        go_ret
        exact ⟨rfl, HBz.out⟩
theorem collectMarks_w (v : Value) (xs : List Nd) (u : Value) (r : List Int) (t : Value) (raw : List Int) (W : World) (h1 : NdV W v xs) (h2 : NView W u r) (h3 : NView W t raw) (h4 : raw.length ≤ 17592186043904) : Calls Try.prog 5 #[v, u, t] W fun e w' => e = .returned (.bool true) ∧ Below W.heap.size W w' := collectMarks_any v u t h1 h2 h3 h4
end Go.Proofs.Ytaknklfbkbgliaa.J
namespace Go.Proofs.Ytaknklfbkbgliaa.J
open Go.ChangeShapes Go.WideShapes Go.ChangeAt Go.RowKit Go.Deep
set_option maxRecDepth 20000 in
/-- What the reach says of numbers. -/
theorem open_nums_reach {H : Type} {enc : TypeId × Value → H} {W : World} {base : Nat} {v : Value} {d : DataW H} {p : List MemPlace} (hval : Value.okWide Try.prog W .any base 34 v)
    (h : DataW.Trod enc Try.prog W 0 (fun _ => true) true 34 v d p) (hr : ∀ x ∈ DataW.weights Try.prog 34 d, x ≤ reachBytes) : ∃ l, NView W v l ∧ l.length ≤ 17592186043904 := by
  obtain ⟨l, hv⟩ := open_numsV hval h
  refine ⟨l, hv, ?_⟩
  obtain ⟨ao, cap, rfl, hc, hm, -⟩ := hv
  obtain ⟨fuel, hf⟩ := h
  rcases open_ints Try.underlying34 Try.underlying3 cells3 hf with ⟨hcs, hx⟩ | ⟨x, len, c, zs, hcs, _, hl, hm', hz, hx, hcell, hwz⟩
  · simp [Value.cells] at hcs
    simp [hcs.2.1]
  · simp [Value.cells] at hcs
    obtain ⟨-, rfl, rfl⟩ := hcs
    have hzl : zs.length = cap := by simpa using hz
    have hd : d = .slice (lits .i64 (zs.take l.length)) (lits .i64 (zs.drop l.length)) := by
      have := congrArg Prod.fst hx
      simpa using this
    have := hr (((lits (H := H) .i64 (zs.take l.length)).length + (lits (H := H) .i64 (zs.drop l.length)).length) * 8) (by
      rw [hd, DataW.weights, Try.underlying34]
      simp only [List.mem_cons]
      left
      rw [show Try.prog.bytesOf 3 = 8 by kernel_rfl])
    simp only [lits, List.length_map, List.length_take, List.length_drop, reachBytes] at this
    omega
end Go.Proofs.Ytaknklfbkbgliaa.J
