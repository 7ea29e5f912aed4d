/- CollectMarks: walked. -/
import Derived.Test.YtaknklfbkbgliaaVN
import Derived.Test.YtaknklfbkbgliaaUR
import Derived.Test.YtaknklfbkbgliaaUO
namespace Go.Proofs.Ytaknklfbkbgliaa.J
open Go.RowKit Go.MapKept Go.ChangeMaps
set_option linter.unusedVariables false

theorem kept_eq {l : List Ob} {K K' : List (Nat × Ob)} (h : KOk l K) (h' : KOk l K') (e : keysK K = keysK K') : K = K' := by
  apply List.ext_getElem?
  intro i
  have hl : K.length = K'.length := by rw [← keysK_len K, e, keysK_len]
  by_cases hi : i < K.length
  · obtain ⟨⟨p, o⟩, h1⟩ : ∃ x, K[i]? = some x := ⟨K[i], List.getElem?_eq_getElem hi⟩
    obtain ⟨⟨p', o'⟩, h2⟩ : ∃ x, K'[i]? = some x := ⟨K'[i]'(by omega), List.getElem?_eq_getElem (by omega)⟩
    have e1 := keysK_at h1
    have e2 := keysK_at h2
    rw [e, e2] at e1
    have hp : p = p' := by have := Option.some.inj e1; omega
    subst hp
    have a1 := h.here h1
    have a2 := h'.here h2
    rw [a1] at a2
    cases a2
    rw [h1, h2]
  · rw [List.getElem?_eq_none (by omega), List.getElem?_eq_none (by omega)]
theorem rch_eq {ss : List (List Bool)} {l : List Ob} {roots : List Int} {K K' : List (Nat × Ob)} (h : RchK ss l roots K) (h' : RchK ss l roots K') : K = K' :=
  kept_eq h.ok h'.ok (rise_ext _ _ h.ok.keys h'.ok.keys fun x => (h.iff x).trans (h'.iff x).symm)
theorem TwoV.both {n0 : Nat} {X : Nat → Prop} {w : World} {p q most : Nat} {l m : List Ob} {ss tt : List (List Bool)} (h : TwoV n0 X w p q most l ss m tt) : ∃ (H : HB) (R : RB), H.hb = p ∧ R.rb = q ∧ HeapV n0 w H most l ss ∧ RV n0 w R most m tt := by
  obtain ⟨H, R, e1, e2, hh, hr, _⟩ := h
  exact ⟨H, R, e1, e2, hh, hr⟩
theorem usedN_skel : ∀ (a b : List Ob), skel a = skel b → usedN a = usedN b
  | [], [], _ => rfl
  | [], _ :: _, h => by simp [skel] at h
  | _ :: _, [], h => by simp [skel] at h
  | x :: a, y :: b, h => by
    simp only [skel, List.map_cons, List.cons.injEq, Prod.mk.injEq] at h
    obtain ⟨⟨h1, h2, h3⟩, h4⟩ := h
    simp only [usedN, h3]
    rw [usedN_skel a b h4]
theorem mark_yes {P : Program} {f : FuncId} {args : Array Value} {w : World} {b : Bool} {N : Ending → World → Prop} {Q : Ending → World → Prop} (h : Calls P f args w fun e w' => (b = false ∧ N e w') ∨ (b = true ∧ Q e w')) (hb : b = true) : Calls P f args w Q :=
  h.mono fun e w' he => by
    rcases he with ⟨a, _⟩ | ⟨_, c⟩
    · rw [hb] at a; cases a
    · exact c
theorem mark_no {P : Program} {f : FuncId} {args : Array Value} {w : World} {b : Bool} {N : Ending → World → Prop} {Q : Ending → World → Prop} (h : Calls P f args w fun e w' => (b = false ∧ N e w') ∨ (b = true ∧ Q e w')) (hb : b = false) : Calls P f args w N :=
  h.mono fun e w' he => by
    rcases he with ⟨_, c⟩ | ⟨a, _⟩
    · exact c
    · rw [hb] at a; cases a
theorem umark_as {f : FuncId} {args : Array Value} {w : World} {ss : List (List Bool)} {l : List Ob} {roots : List Int} {N : Ending → World → Prop} {K : List (Nat × Ob)} (h : Calls Try.prog f args w fun e w' => (roots.all (rootB l) = false ∧ N e w') ∨ (roots.all (rootB l) = true ∧ ∃ v, e = .returned (.tuple #[v, .bool true]) ∧ UMQ w ss l roots v w')) (hb : roots.all (rootB l) = true) (hK : RchK ss l roots K) :
    Calls Try.prog f args w fun e w' => ∃ a c, e = .returned (.tuple #[.slice a K.length c, .bool true]) ∧ NView w' (.slice a K.length c) (keysK K) ∧ Below w.heap.size w w' :=
  (mark_yes h hb).mono fun e w' ⟨v, e1, K', hK', hn, hb⟩ => by
    have := rch_eq hK' hK
    subst this
    obtain ⟨a, c, rfl⟩ := hn.shape (keysK_len _)
    exact ⟨a, c, e1, NOwn.view hn, hb⟩
theorem size_as {f : FuncId} {args : Array Value} {w : World} {ss : List (List Bool)} {l : List Ob} {roots : List Int} {K : List (Nat × Ob)} (h : Calls Try.prog f args w fun e w' => ∃ K, RchK ss l roots K ∧ e = .returned (.tuple #[.int .i64 (usedN (obsK K) : Int), .int .i64 0]) ∧ Below w.heap.size w w') (hK : RchK ss l roots K) :
    Calls Try.prog f args w fun e w' => e = .returned (.tuple #[.int .i64 (usedN (obsK K) : Int), .int .i64 0]) ∧ Below w.heap.size w w' :=
  h.mono fun e w' ⟨K', hK', e1, hb⟩ => by
    have := rch_eq hK' hK
    subst this
    exact ⟨e1, hb⟩
variable {w : World} {xs : List Nd} {r raw : List Int}
set_option maxRecDepth 8000 in
set_option maxHeartbeats 8000000 in
theorem collectMarks_any (vl vr vw : Value) (hl : NdV w vl xs) (hr : NView w vr r) (hw : NView w vw raw) (hwl : raw.length ≤ 17592186043904) : Calls Try.prog 5 #[vl, vr, vw] w fun e w' => e = .returned (.bool true) ∧ Below w.heap.size w w' := by
  have GB := hidIt (build_any (most := 400) (xs := xs) (by omega) (by decide) (by decide) vl hl)
  have HR := hidIt hr
  have HW := hidIt hw
  have hGl : (graphL xs).length ≤ 30 := by rw [graphL_len]; omega
  have hGu : usedN (graphL xs) ≤ 400 := by
    have h1 := nodeL_used xs (min xs.length 30) (by omega)
    have h2 := atN_skel (graphL xs) (nodeL xs (min xs.length 30)) 0 (graphL_skel xs)
    have h3 : usedN (graphL xs) = usedN (nodeL xs (min xs.length 30)) := usedN_skel _ _ (graphL_skel xs)
    omega
  have HXo : Hid ((rootsL r (begs 0 (graphL xs))).all (rootB (graphL xs)) = true) := hidIt (rootsL_ok r (graphL xs))
  have hXl : (rootsL r (begs 0 (graphL xs))).length ≤ 12 := rootsL_len _ _
  unfold BuildQ at GB
  clear hl hr hw
  generalize graphL xs = G at *
  have GX : Hid (∀ w1 v, Below w.heap.size w w1 → NOwn w1 w.heap.size v (begs 0 G) → Calls Try.prog 38 #[vr, v] w1 fun e w' => ∃ a c, e = .returned (.slice a (rootsL r (begs 0 G)).length c) ∧ NOwn w' w1.heap.size (.slice a (rootsL r (begs 0 G)).length c) (rootsL r (begs 0 G)) ∧ Below w1.heap.size w1 w') := hidIt (fun w1 v hb hn => (roots_any vr v (HR.out.below hb) (NOwn.view hn) (by rw [begs_len]; omega)).mono (fun e w' ⟨v, e1, e2, e3⟩ => by
    obtain ⟨a, c, rfl⟩ := own_slice e2
    exact ⟨a, c, e1, e2, e3⟩))
  generalize rootsL r (begs 0 G) = X at *
  go_enter Try.func5, Try.ntmps5
  go_wp2_with (first
    | (go_at_call 31; refine GB.out.mono ?_; rintro e w1 ⟨p, q, rv, rfl, ht, hn, hrf, hb⟩; obtain ⟨ar, cr, rfl⟩ := hn.shape (begs_len G 0); have HRF := hidIt hrf; have HB1 := hidIt hb; obtain ⟨H, R, rfl, rfl, hh, hv⟩ := ht.both; have HH := hidIt hh; have HV := hidIt hv; have GX2 := hidIt (GX.out w1 _ hb hn); clear hn hrf hb ht hh hv GX GB)
    | (go_at_call 38; refine GX2.out.mono ?_; rintro e w2 ⟨ax, cx, rfl, hn, hb⟩; have HX := hidIt hn; have HH2 := hidIt (HH.out.below hb); have HV2 := hidIt (HV.out.below hb); have HB2 := hidIt (HB1.out.trans (hb.mono HB1.out.size)); have GM1 := hidIt (mark_yes (gMark_any (HH.out.below hb) HRF.out _ (NOwn.view hn) (by omega)) HXo.out); clear hn hb GX2 HH HV)
    | (go_at_call 32; refine GM1.out.mono ?_; rintro e w3 ⟨va, rfl, K, hK, hn, hb⟩; obtain ⟨aa, ca, rfl⟩ := hn.shape (keysK_len K); have HK := hidIt hK; have HA := hidIt (NOwn.view hn); have HH3 := hidIt (HH2.out.below hb); have HV3 := hidIt (HV2.out.below hb); have HX3 := hidIt (own_below HX.out hb); have HB3 := hidIt (HB2.out.trans (hb.mono HB2.out.size)); have GU1 := hidIt (umark_as (umark_any (HV2.out.below hb) HRF.out _ (NOwn.view (own_below HX.out hb)) (by omega)) HXo.out hK); clear hK hn hb GM1 HH2 HV2 HX)
    | (go_at_call 25; refine GU1.out.mono ?_; rintro e w4 ⟨ab, cb, rfl, hn, hb⟩; have HBB := hidIt hn; have HA4 := hidIt (HA.out.below hb); have HH4 := hidIt (HH3.out.below hb); have HV4 := hidIt (HV3.out.below hb); have HB4 := hidIt (HB3.out.trans (hb.mono HB3.out.size)); have GS1 := hidIt (size_as (gSize_any (HH3.out.below hb) HRF.out _ (NOwn.view (own_below HX3.out hb)) (by omega) HXo.out) HK.out); clear hn hb GU1 HA HH3 HV3 HX3)
    | (go_at_call 34; refine GS1.out.mono ?_; rintro e w5 ⟨rfl, hb⟩; have HA5 := hidIt (HA4.out.below hb); have HBB5 := hidIt (HBB.out.below hb); have HH5 := hidIt (HH4.out.below hb); have HV5 := hidIt (HV4.out.below hb); have HB5 := hidIt (HB4.out.trans (hb.mono HB4.out.size)); clear hb GS1 HA4 HBB HH4 HV4))
  have hwi := HK.out.ok.within
  have hKc : K.length ≤ 16384 := by have := usedN_ge (obsK K); rw [obsK_len] at this; omega
  have GL : Hid (∀ x, Calls Try.prog 39 #[.pointer (some ⟨R.rb, 0, none⟩), .int .i64 x] w5 fun e w' => e = .returned (.int .i64 (lenZ G x)) ∧ w' = w5) := hidIt (fun x => ulen_any HV5.out x)
  have HKk := hidIt (fun (i p : Nat) (o : Ob) (hi : K[i]? = some (p, o)) => HK.out.ok.obj hi)
  go_loopw [17, 18] (fun s jv wr => ∃ k : Nat, k ≤ K.length ∧ jv = .int .i64 (k : Int) ∧ s = .int .i64 (usedN ((obsK K).take k) : Int) ∧ wr = w5) (fun _ jv _ => K.length - (intOf jv).toNat)
  case atStart => exact ⟨0, Nat.zero_le _, rfl, rfl, rfl⟩
  case round =>
    obtain ⟨k, hk, rfl, rfl, hwr⟩ := hrel
    by_cases hlt : k < K.length
    · subst hwr
      have hlt' : (k : Int) < (K.length : Int) := by omega
      obtain ⟨⟨p, o⟩, hx⟩ : ∃ x, K[k]? = some x := ⟨K[k], List.getElem?_eq_getElem hlt⟩
      obtain ⟨u1, u2⟩ := usedN_take (obsK K) k o (obsK_at hx)
      obtain ⟨g, off, rfl, c0⟩ := HBB5.out.row (keysK_at hx)
      have GL2 := hidIt (GL.out ((p : Int) + 1))
      have eL : lenZ G ((p : Int) + 1) = o.f.length := by unfold lenZ; rw [HKk.out k p o hx]
      rw [eL] at GL2
      have NX : Hid (Value.int .i64 ((usedN ((obsK K).take k) : Int) + 3 + (o.f.length : Int)) = .int .i64 (usedN ((obsK K).take (k + 1)) : Int)) := hidIt (by rw [u1]; go_num)
      have u3 : usedN ((obsK K).take k) + (o.f.length + 3) ≤ 16384 := by omega
      clear hx GL u1 u2
      generalize usedN ((obsK K).take k) = q at *
      generalize o.f.length = n at *
      have e2 : (q : Int) + 3 + (n : Int) ≤ 16384 := by omega
      go_wp2_with (go_at_call 39; refine GL2.out.mono ?_; rintro e w' ⟨rfl, hww⟩; cases hww)
      exact ⟨⟨k + 1, by omega, by go_num, NX.out, by trivial⟩, by simp [intOf]; omega⟩
    · subst hwr
      have hlt' : ¬ (k : Int) < (K.length : Int) := by omega
      obtain rfl : k = K.length := by omega
      have e1 : (obsK K).take K.length = obsK K := by rw [← obsK_len, List.take_length]
      rw [e1]
      clear e1 GL HKk
      have HW5 := hidIt (HW.out.below HB5.out)
      have GSab := fun (w9 : World) (hb : Below wr.heap.size wr w9) => nsame_any _ _ (keysK K) w9 (HA5.out.below hb) (HBB5.out.below hb)
      have HSab := hidIt GSab
      clear GSab
      generalize (usedN (obsK K) : Int) = UU at *
      cases hraw : raw.all (rootB G) with
      | false =>
        have GM2 := hidIt (mark_no (gMark_any HH5.out HRF.out _ HW5.out (by omega)) hraw)
        have GU2 : Hid (∀ w9, Below wr.heap.size wr w9 → Calls Try.prog 25 #[.pointer (some ⟨R.rb, 0, none⟩), vw] w9 fun e w' => e = .returned (.tuple #[.slice none 0 0, .bool false]) ∧ Below wr.heap.size wr w') := hidIt (fun w9 hb => (mark_no (umark_any (HV5.out.below hb) HRF.out _ (HW5.out.below hb) (by omega)) hraw).mono fun e w' ⟨a, b⟩ => ⟨a, hb.trans (b.mono hb.size)⟩)
        unfold HB.ptr at GM2
        have HN := hidIt (fun (w9 : World) => nsame_any (.slice none 0 0) (.slice none 0 0) [] w9 ⟨none, 0, rfl, Nat.le_refl _, by unfold maxLen; omega, .inl rfl⟩ ⟨none, 0, rfl, Nat.le_refl _, by unfold maxLen; omega, .inl rfl⟩)
        clear HH5 HV5 HW5 hraw HA5 HBB5
        go_wp2_with (first
          | (go_at_call 32; refine GM2.out.mono ?_; rintro e w6 ⟨rfl, hb⟩; have GU3 := hidIt (GU2.out w6 hb); clear hb GM2 GU2)
          | (go_at_call 25; refine GU3.out.mono ?_; rintro e w7 ⟨rfl, hb⟩; have HB7 := hidIt hb; have GS1 := hidIt (HSab.out w7 hb); clear hb GU3 HSab)
          | (go_at_call 28; refine GS1.out.mono ?_; rintro e w8 ⟨rfl, hb⟩; have HB8 := hidIt (HB7.out.trans (hb.mono HB7.out.size)); have GS2 := hidIt (HN.out w8); clear hb GS1 HN)
          | (go_at_call 28; refine GS2.out.mono ?_; rintro e w9 ⟨rfl, hb⟩; have HB9 := hidIt (HB8.out.trans (hb.mono HB8.out.size)); have GK := hidIt (gknown_any w9); clear hb GS2)
          | (go_at_call 37; refine GK.out.mono ?_; rintro e wz ⟨rfl, hbz⟩; have HBz := hidIt (HB5.out.trans ((HB9.out.trans (hbz.mono HB9.out.size)).mono HB5.out.size)); clear hbz GK))
        go_ret
        exact ⟨rfl, HBz.out⟩
      | true =>
        have GM2 := hidIt (mark_yes (gMark_any HH5.out HRF.out _ HW5.out (by omega)) hraw)
        have GU2 : Hid (∀ w9 K2, RchK shp4 G raw K2 → Below wr.heap.size wr w9 → Calls Try.prog 25 #[.pointer (some ⟨R.rb, 0, none⟩), vw] w9 fun e w' => ∃ a c, e = .returned (.tuple #[.slice a K2.length c, .bool true]) ∧ NView w' (.slice a K2.length c) (keysK K2) ∧ Below w9.heap.size w9 w' ∧ Below wr.heap.size wr w') := hidIt (fun w9 K2 hK2 hb => (umark_as (umark_any (HV5.out.below hb) HRF.out _ (HW5.out.below hb) (by omega)) hraw hK2).mono fun e w' ⟨a, c, e1, e2, e3⟩ => ⟨a, c, e1, e2, e3, hb.trans (e3.mono hb.size)⟩)
        unfold HB.ptr at GM2
        clear HH5 HV5 HW5 hraw HA5 HBB5
        go_wp2_with (first
          | (go_at_call 32; refine GM2.out.mono ?_; rintro e w6 ⟨vc, rfl, K2, hK2, hn, hb⟩; obtain ⟨ac, cc, rfl⟩ := hn.shape (keysK_len K2); have HC := hidIt (NOwn.view hn); have GU3 := hidIt (GU2.out w6 K2 hK2 hb); clear hK2 hn hb GM2 GU2)
          | (go_at_call 25; refine GU3.out.mono ?_; rintro e w7 ⟨ad, cd, rfl, hd, hb0, hb⟩; have HB7 := hidIt hb; have GS1 := hidIt (HSab.out w7 hb); have HN := hidIt (fun (w9 : World) (h9 : Below w7.heap.size w7 w9) => nsame_any _ _ (keysK K2) w9 ((HC.out.below hb0).below h9) (hd.below h9)); clear hb hb0 hd HC GU3 HSab)
          | (go_at_call 28; refine GS1.out.mono ?_; rintro e w8 ⟨rfl, hb⟩; have HB8 := hidIt (HB7.out.trans (hb.mono HB7.out.size)); have GS2 := hidIt (HN.out w8 hb); clear hb GS1 HN)
          | (go_at_call 28; refine GS2.out.mono ?_; rintro e w9 ⟨rfl, hb⟩; have HB9 := hidIt (HB8.out.trans (hb.mono HB8.out.size)); have GK := hidIt (gknown_any w9); clear hb GS2)
          | (go_at_call 37; refine GK.out.mono ?_; rintro e wz ⟨rfl, hbz⟩; have HBz := hidIt (HB5.out.trans ((HB9.out.trans (hbz.mono HB9.out.size)).mono HB5.out.size)); clear hbz GK))
        go_ret
        exact ⟨rfl, HBz.out⟩
theorem collectMarks_w (v : Value) (xs : List Nd) (u : Value) (r : List Int) (t : Value) (raw : List Int) (W : World) (h1 : NdV W v xs) (h2 : NView W u r) (h3 : NView W t raw) (h4 : raw.length ≤ 17592186043904) : Calls Try.prog 5 #[v, u, t] W fun e w' => e = .returned (.bool true) ∧ Below W.heap.size W w' := collectMarks_any v u t h1 h2 h3 h4
end Go.Proofs.Ytaknklfbkbgliaa.J
namespace Go.Proofs.Ytaknklfbkbgliaa.J
open Go.ChangeShapes Go.WideShapes Go.ChangeAt Go.RowKit Go.Deep
set_option maxRecDepth 20000 in
/-- What the reach says of numbers. -/
theorem open_nums_reach {H : Type} {enc : TypeId × Value → H} {W : World} {base : Nat} {v : Value} {d : DataW H} {p : List MemPlace} (hval : Value.okWide Try.prog W .any base 34 v)
    (h : DataW.Trod enc Try.prog W 0 (fun _ => true) true 34 v d p) (hr : ∀ x ∈ DataW.weights Try.prog 34 d, x ≤ reachBytes) : ∃ l, NView W v l ∧ l.length ≤ 17592186043904 := by
  obtain ⟨l, hv⟩ := open_numsV hval h
  refine ⟨l, hv, ?_⟩
  obtain ⟨ao, cap, rfl, hc, hm, -⟩ := hv
  obtain ⟨fuel, hf⟩ := h
  rcases open_ints Try.underlying34 Try.underlying3 cells3 hf with ⟨hcs, hx⟩ | ⟨x, len, c, zs, hcs, _, hl, hm', hz, hx, hcell, hwz⟩
  · simp [Value.cells] at hcs
    simp [hcs.2.1]
  · simp [Value.cells] at hcs
    obtain ⟨-, rfl, rfl⟩ := hcs
    have hzl : zs.length = cap := by simpa using hz
    have hd : d = .slice (lits .i64 (zs.take l.length)) (lits .i64 (zs.drop l.length)) := by
      have := congrArg Prod.fst hx
      simpa using this
    have := hr (((lits (H := H) .i64 (zs.take l.length)).length + (lits (H := H) .i64 (zs.drop l.length)).length) * 8) (by
      rw [hd, DataW.weights, Try.underlying34]
      simp only [List.mem_cons]
      left
      rw [show Try.prog.bytesOf 3 = 8 by kernel_rfl])
    simp only [lits, List.length_map, List.length_take, List.length_drop, reachBytes] at this
    omega
end Go.Proofs.Ytaknklfbkbgliaa.J
namespace Go.Proofs.Ytaknklfbkbgliaa.J
open Go.RowKit Go.MapKept Go.ChangeMaps
set_option linter.unusedVariables false

variable {n0 : Nat} {X : Nat → Prop} {w w' : World} {p q most : Nat} {l m : List Ob} {ss tt : List (List Bool)} {roots : List Int} {K : List (Nat × Ob)}
theorem two_usedR (h : TwoV n0 X w p q most l ss m tt) : Calls Try.prog 40 #[.pointer (some ⟨q, 0, none⟩)] w fun e w' => e = .returned (.int .i64 (usedN m : Int)) ∧ w' = w := by
  obtain ⟨H, R, rfl, rfl, hh, hr, hd, hx⟩ := h
  exact uused_any hr
theorem two_allR (h : TwoV n0 X w p q most l ss m tt) {n : Nat} (hn : m.length = n) : Calls Try.prog 13 #[.pointer (some ⟨q, 0, none⟩)] w fun e w' => ∃ a c, e = .returned (.slice a n c) ∧ NOwn w' w.heap.size (.slice a n c) (begs 0 m) ∧ Below w.heap.size w w' := by
  obtain ⟨H, R, rfl, rfl, hh, hr, hd, hx⟩ := h
  exact (uall_any hr).mono fun e w' ⟨v, e1, e2, e3⟩ => by
    obtain ⟨a, c, rfl⟩ := e2.shape (by rw [begs_len, hn])
    exact ⟨a, c, e1, e2, e3⟩
theorem two_usedH (h : TwoV n0 X w p q most l ss m tt) : Calls Try.prog 36 #[.pointer (some ⟨p, 0, none⟩)] w fun e w' => e = .returned (.int .i64 (usedN l : Int)) ∧ w' = w := by
  obtain ⟨H, R, rfl, rfl, hh, hr, hd, hx⟩ := h
  exact used_any hh
theorem two_allH (h : TwoV n0 X w p q most l ss m tt) {n : Nat} (hn : l.length = n) : Calls Try.prog 41 #[.pointer (some ⟨p, 0, none⟩)] w fun e w' => ∃ a c, e = .returned (.slice a n c) ∧ NOwn w' w.heap.size (.slice a n c) (begs 0 l) ∧ Below w.heap.size w w' := by
  obtain ⟨H, R, rfl, rfl, hh, hr, hd, hx⟩ := h
  exact (All_any hh).mono fun e w' ⟨v, e1, e2, e3⟩ => by
    obtain ⟨a, c, rfl⟩ := e2.shape (by rw [begs_len, hn])
    exact ⟨a, c, e1, e2, e3⟩
theorem two_gtagH (h : TwoV n0 X w p q most l ss m tt) (v : Int) : Calls Try.prog 42 #[.pointer (some ⟨p, 0, none⟩), .int .i64 v] w fun e w' => e = .returned (.int .i64 (tagZ l v)) ∧ w' = w := by
  obtain ⟨H, R, rfl, rfl, hh, hr, hd, hx⟩ := h
  exact Tag_any hh v
theorem two_gtagR (h : TwoV n0 X w p q most l ss m tt) (v : Int) : Calls Try.prog 43 #[.pointer (some ⟨q, 0, none⟩), .int .i64 v] w fun e w' => e = .returned (.int .i64 (tagZ m v)) ∧ w' = w := by
  obtain ⟨H, R, rfl, rfl, hh, hr, hd, hx⟩ := h
  exact utag_any hr v
theorem two_shpH (h : TwoV n0 X w p q most l ss m tt) (v : Int) : Calls Try.prog 44 #[.pointer (some ⟨p, 0, none⟩), .int .i64 v] w fun e w' => e = .returned (.int .i64 (shpZ l v)) ∧ w' = w := by
  obtain ⟨H, R, rfl, rfl, hh, hr, hd, hx⟩ := h
  exact ShapeOf_any hh v
theorem two_shpR (h : TwoV n0 X w p q most l ss m tt) (v : Int) : Calls Try.prog 45 #[.pointer (some ⟨q, 0, none⟩), .int .i64 v] w fun e w' => e = .returned (.int .i64 (shpZ m v)) ∧ w' = w := by
  obtain ⟨H, R, rfl, rfl, hh, hr, hd, hx⟩ := h
  exact ushp_any hr v
theorem two_getH (h : TwoV n0 X w p q most l ss m tt) (v n : Int) (hn : hasZ l v n = true) : Calls Try.prog 46 #[.pointer (some ⟨p, 0, none⟩), .int .i64 v, .int .i64 n] w fun e w' => e = .returned (.tuple #[.int .i64 (getZ l v n), .int .i64 0]) ∧ Below w.heap.size w w' := by
  obtain ⟨H, R, rfl, rfl, hh, hr, hd, hx⟩ := h
  exact get_yes hh v n hn
theorem two_getR (h : TwoV n0 X w p q most l ss m tt) (v n : Int) (hn : hasZ m v n = true) : Calls Try.prog 47 #[.pointer (some ⟨q, 0, none⟩), .int .i64 v, .int .i64 n] w fun e w' => e = .returned (.tuple #[.int .i64 (getZ m v n), .int .i64 0]) ∧ w' = w := by
  obtain ⟨H, R, rfl, rfl, hh, hr, hd, hx⟩ := h
  exact uget_yes hr v n hn
theorem two_markR (h : TwoV n0 X w p q most l ss m tt) (hr : RefsOk tt m) (vr : Value) (hv : NView w vr roots) (hrl : roots.length ≤ 1000000) (ha : roots.all (rootB m) = true) : Calls Try.prog 25 #[.pointer (some ⟨q, 0, none⟩), vr] w fun e w' => ∃ K a c, RchK tt m roots K ∧ e = .returned (.tuple #[.slice a K.length c, .bool true]) ∧ NOwn w' w.heap.size (.slice a K.length c) (keysK K) ∧ Below w.heap.size w w' := by
  obtain ⟨H, R, rfl, rfl, hh, hr2, hd, hx⟩ := h
  have hm2 : usedN m ≤ 16384 := Nat.le_trans hr2.few hr2.most
  exact (mark_yes (umark_any hr2 hr vr hv (by omega)) ha).mono fun e w' ⟨v, e1, K, hK, hn, hb⟩ => by
    obtain ⟨a, c, rfl⟩ := hn.shape (keysK_len K)
    exact ⟨K, a, c, hK, e1, hn, hb⟩
theorem two_slideR (h : TwoV n0 X w p q most l ss m tt) (hr : RefsOk tt m) (hK : RchK tt m roots K) (vk : Value) (hv : NView w vk (keysK K)) : Calls Try.prog 27 #[.pointer (some ⟨q, 0, none⟩), vk] w fun e w' => ∃ a c, e = .returned (.tuple #[.slice a K.length c, .int .i64 0]) ∧ NOwn w' w.heap.size (.slice a K.length c) (begs 0 (obsK K)) ∧ TwoV n0 X w' p q most l ss (obsM tt K) tt ∧ TwoS n0 X w w' := by
  obtain ⟨H, R, rfl, rfl, hh, hr2, hd, hx⟩ := h
  refine (uslide_any hr2 hr hK.ok vk hv).mono fun e w' he => ?_
  rcases he with ⟨a, _⟩ | ⟨_, v, e1, R', hn, h1, h2⟩
  · rw [hK.lead] at a; cases a
  · obtain ⟨a, c, rfl⟩ := hn.shape (begs_obs_len K)
    exact ⟨a, c, e1, hn, two_rstep hh hr2 hd hx h1 h2⟩
theorem movedL_len' (K : List (Nat × Ob)) (X : List Int) : (movedL K X).length = X.length := by simp [movedL]
theorem two_run (h : TwoV n0 X w p q most l ss m tt) (hr : RefsOk ss l) (hK : RchK ss l roots K) {B : Nat} (vk : Value) (hv : NOwn w B vk roots) (hrl : roots.length ≤ 1000000) (ha : roots.all (rootB l) = true) : Calls Try.prog 33 #[.pointer (some ⟨p, 0, none⟩), vk] w fun e w' => ∃ a c st, e = .returned (.tuple #[.slice a roots.length c, .agg #[.int .i64 (K.length : Int), .int .i64 ((l.length : Int) - (K.length : Int)), .int .i64 (usedN (obsK K) : Int), .int .i64 ((st : Nat) : Int)], .int .i64 0]) ∧ st ≤ 2 * roots.length + usedN l + l.length + usedN (obsK K) ∧ NOwn w' w.heap.size (.slice a roots.length c) (movedL K roots) ∧ TwoV n0 X w' p q most (obsM ss K) ss m tt ∧ TwoS n0 X w w' := by
  obtain ⟨H, R, rfl, rfl, hh, hr2, hd, hx⟩ := h
  exact (gRun_any hh hr vk hv (by omega) ha).mono fun e w' ⟨K', v, st, H', hK', e1, e2, e3, e4, e5⟩ => by
    have := rch_eq hK' hK
    subst this
    obtain ⟨a, c, rfl⟩ := e3.shape (movedL_len' _ _)
    exact ⟨a, c, st, e1, e2, e3, two_hstep hh hr2 hd hx e4 e5⟩
end Go.Proofs.Ytaknklfbkbgliaa.J
namespace Go.Proofs.Ytaknklfbkbgliaa.J
open Go.RowKit Go.MapKept Go.ChangeMaps
set_option linter.unusedVariables false

theorem movedL_snoc {K : List (Nat × Ob)} {X : List Int} {k : Nat} {x : Int} (hx : X[k]? = some x) : movedL K (X.take (k + 1)) = movedL K (X.take k) ++ [toA 0 K x.toNat] := by
  unfold movedL
  rw [take_snoc hx, List.map_append]
  rfl
def wantT (K : List (Nat × Ob)) (X : List Int) (k : Nat) : List Int := movedL K (X.take k)
theorem wantT_snoc {K : List (Nat × Ob)} {X : List Int} {k : Nat} {x : Int} (hx : X[k]? = some x) : wantT K X (k + 1) = wantT K X k ++ [toA 0 K x.toNat] := movedL_snoc hx
theorem wantT_len (K : List (Nat × Ob)) (X : List Int) {k : Nat} (hk : k ≤ X.length) : (wantT K X k).length = k := by simp [wantT, movedL]; omega
theorem wantT_all (K : List (Nat × Ob)) (X : List Int) : wantT K X X.length = movedL K X := by simp [wantT]
variable {w : World} {xs : List Nd} {r : List Int}
set_option maxRecDepth 8000 in
set_option maxHeartbeats 8000000 in
theorem collectRuns_any (vl vr : Value) (hl : NdV w vl xs) (hr : NView w vr r) : Calls Try.prog 6 #[vl, vr] w fun e w' => e = .returned (.bool true) ∧ Below w.heap.size w w' := by
  have GB := hidIt (build_any (most := 400) (xs := xs) (by omega) (by decide) (by decide) vl hl)
  have HR := hidIt hr
  have hGl : (graphL xs).length ≤ 30 := by rw [graphL_len]; omega
  have hGu : usedN (graphL xs) ≤ 400 := by
    have h1 := nodeL_used xs (min xs.length 30) (by omega)
    have h3 : usedN (graphL xs) = usedN (nodeL xs (min xs.length 30)) := usedN_skel _ _ (graphL_skel xs)
    omega
  have HXo : Hid ((rootsL r (begs 0 (graphL xs))).all (rootB (graphL xs)) = true) := hidIt (rootsL_ok r (graphL xs))
  have hXl : (rootsL r (begs 0 (graphL xs))).length ≤ 12 := rootsL_len _ _
  unfold BuildQ at GB
  clear hl hr
  generalize graphL xs = G at *
  have GX : Hid (∀ w1 v, Below w.heap.size w w1 → NOwn w1 w.heap.size v (begs 0 G) → Calls Try.prog 38 #[vr, v] w1 fun e w' => ∃ a c, e = .returned (.slice a (rootsL r (begs 0 G)).length c) ∧ NOwn w' w1.heap.size (.slice a (rootsL r (begs 0 G)).length c) (rootsL r (begs 0 G)) ∧ Below w1.heap.size w1 w') := hidIt (fun w1 v hb hn => (roots_any vr v (HR.out.below hb) (NOwn.view hn) (by rw [begs_len]; omega)).mono (fun e w' ⟨v, e1, e2, e3⟩ => by
    obtain ⟨a, c, rfl⟩ := own_slice e2
    exact ⟨a, c, e1, e2, e3⟩))
  generalize rootsL r (begs 0 G) = X at *
  go_enter Try.func6, Try.ntmps6
  go_wp2_with (first
    | (go_at_call 31; refine GB.out.mono ?_; rintro e w1 ⟨p, q, rv, rfl, ht, hn, hrf, hb⟩; obtain ⟨ar, cr, rfl⟩ := hn.shape (begs_len G 0); have HRF := hidIt hrf; have HB1 := hidIt hb; have HT := hidIt ht; have GX2 := hidIt (GX.out w1 _ hb hn); clear hn hrf hb ht GX GB)
    | (go_at_call 38; refine GX2.out.mono ?_; rintro e w2 ⟨ax, cx, rfl, hn, hb⟩; have HX := hidIt hn; have HT2 := hidIt (HT.out.below hb).1; have HB2 := hidIt (HB1.out.trans (hb.mono HB1.out.size)); have GUs := hidIt (two_usedR HT2.out); have GAl := hidIt (two_allR HT2.out rfl); clear hn hb GX2 HT)
    | (go_at_call 40; refine GUs.out.mono ?_; rintro e w' ⟨rfl, hww⟩; cases hww)
    | (go_at_call 13; refine GAl.out.mono ?_; rintro e w3 ⟨aa, ca, rfl, hn, hb⟩; have HT3 := hidIt (HT2.out.below hb).1; have HX3 := hidIt (own_below HX.out hb); have HB3 := hidIt (HB2.out.trans (hb.mono HB2.out.size)); have GMk := hidIt (two_markR HT3.out HRF.out _ (NOwn.view HX3.out) (by omega) HXo.out); clear hn hb GAl HT2 HX GUs)
    | (go_at_call 25; refine GMk.out.mono ?_; rintro e w4 ⟨K, ak, ck, hK, rfl, hn, hb⟩; have HK := hidIt hK; have HN4 := hidIt hn; have HT4 := hidIt (HT3.out.below hb).1; have HX4 := hidIt (own_below HX3.out hb); have HB4 := hidIt (HB3.out.trans (hb.mono HB3.out.size)); have GSl := hidIt (two_slideR HT4.out HRF.out hK _ (NOwn.view hn)); clear hK hn hb GMk HT3 HX3)
    | (go_at_call 27; refine GSl.out.mono ?_; rintro e w5 ⟨at_, ct, rfl, hn, ht, hs⟩; have HT5 := hidIt ht; have HN5 := hidIt hn; have HK5 := hidIt (hs.nown HN4.out); have HX5 := hidIt (hs.nown HX4.out); have HB5 := hidIt (HB4.out.trans (hs.below _ (Nat.le_refl _))); clear ht hn hs GSl HT4 HN4 HX4))
  have hwi := HK.out.ok.within
  have hKc : K.length ≤ 16384 := by have := usedN_ge (obsK K); rw [obsK_len] at this; omega
  go_loopw [15, 16] (fun wv iv wr => ∃ (i : Nat) (aw : Option Addr) (cw : Nat), i ≤ X.length ∧ iv = .int .i64 (i : Int) ∧ wv = .slice aw i cw ∧ wr.ownsRow w5.heap.size 3 1 (.slice aw i cw) i (icells (wantT K X i)) ∧ Below w5.heap.size w5 wr) (fun _ iv _ => X.length - (intOf iv).toNat)
  case atStart => exact ⟨0, none, 0, Nat.zero_le _, rfl, rfl, World.ownsRow_nil _ _ _ _, Below.refl _ _⟩
  case round =>
    obtain ⟨i, aw, cw, hi, rfl, rfl, ho, hb⟩ := hrel
    by_cases hlt : i < X.length
    · have hlt' : (i : Int) < (X.length : Int) := by omega
      obtain ⟨x, hx⟩ : ∃ x, X[i]? = some x := ⟨X[i], List.getElem?_eq_getElem hlt⟩
      have hx0 : 0 ≤ x := by
        have h1 := List.all_eq_true.1 HXo.out x (List.mem_of_getElem? hx)
        rcases rootB_iff.1 h1 with h1 | h1
        · omega
        · obtain ⟨o, ho⟩ := Option.isSome_iff_exists.1 h1
          have := objZ_in ho; omega
      have HX5x : Hid (∀ W, Below w5.heap.size w5 W → ∃ gx, ax = some ⟨gx, 0, none⟩ ∧ W.cell? ⟨gx, i, none⟩ = some (.int .i64 x)) := hidIt (fun W hbw => by
        obtain ⟨gx, e, -, -, c, -⟩ := own_cell (own_below HX5.out hbw) (icells_at hx)
        exact ⟨gx, e, c⟩)
      obtain ⟨gx, rfl, -⟩ := HX5x.out w5 (Below.refl _ _)
      have HO := hidIt ho
      have HBo := hidIt hb
      have HWn := hidIt (wantT_snoc (K := K) hx)
      have hwl := wantT_len K X hi
      clear ho hb hx
      obtain ⟨V, hV⟩ : ∃ V, V = wr := ⟨wr, rfl⟩
      subst hV
      go_wp2_with fail
      go_loopw [17, 18] (fun nv kv wr => ∃ k : Nat, k ≤ K.length ∧ kv = .int .i64 (k : Int) ∧ nv = .int .i64 (toA 0 (K.take k) x.toNat) ∧ Below V.heap.size V wr) (fun _ kv _ => K.length - (intOf kv).toNat)
      case atStart => exact ⟨0, Nat.zero_le _, rfl, rfl, Below.refl _ _⟩
      case round =>
        obtain ⟨k, hk, rfl, rfl, hb⟩ := hrel
        have HBk := hidIt hb
        have HB6 := hidIt (HBo.out.trans (hb.mono HBo.out.size))
        by_cases hkl : k < K.length
        · have hkl' : (k : Int) < (K.length : Int) := by omega
          obtain ⟨⟨p', o⟩, hx'⟩ : ∃ x, K[k]? = some x := ⟨K[k], List.getElem?_eq_getElem hkl⟩
          have hk6 := own_below HK5.out HB6.out
          rw [keysK_len] at hk6
          obtain ⟨gk, rfl, -, -, c0, -⟩ := own_cell hk6 (icells_at (keysK_at hx'))
          obtain ⟨gx', e9, c1⟩ := HX5x.out wr HB6.out
          cases e9
          have hbg := begs_at (obsK K) 0 k (by rw [obsK_len]; exact hkl)
          rw [Nat.zero_add] at hbg
          have hn6 := own_below HN5.out HB6.out
          rw [begs_obs_len] at hn6
          obtain ⟨gn, rfl, -, -, c2, -⟩ := own_cell hn6 (icells_at hbg)
          have hst := HK.out.ok.step hx' x.toNat
          have NX : Hid (∀ (q : Nat) (y : Int), y = toA 0 (K.take (k + 1)) x.toNat → ∃ k' : Nat, k' ≤ K.length ∧ Value.int .i64 ((k : Int) + 1) = .int .i64 (k' : Int) ∧ Value.int .i64 y = .int .i64 (toA 0 (K.take k') x.toNat) ∧ Below V.heap.size V (wr.drewN q)) := hidIt (fun q y hy => ⟨k + 1, by omega, by go_num, by rw [hy], HBk.out.trans ((below_drewQ wr q).mono HBk.out.size)⟩)
          by_cases he : (p' : Int) + 1 = x
          · have hj : x.toNat = p' + 1 := by omega
            rw [if_pos hj] at hst
            have NX2 := hidIt (fun q => NX.out q _ hst.symm)
            clear hst hbg hk6 hn6 hx' NX
            generalize (usedN ((obsK K).take k) : Int) + 1 = y at *
            generalize (p' : Int) + 1 = z at *
            subst he
            go_wp2_with fail
            go_quiet (fail)
            go_wp2_with fail
            exact ⟨NX2.out _, by simp [intOf]; omega⟩
          · have hj : ¬ x.toNat = p' + 1 := by omega
            rw [if_neg hj] at hst
            have NX2 := hidIt (fun q => NX.out q _ hst.symm)
            have he2 : ((p' : Int) + 1 == x) = false := by simpa using he
            clear hst hbg hk6 hn6 hx' NX
            generalize (p' : Int) + 1 = z at *
            go_wp2_with fail
            go_quiet (fail)
            go_wp2_with fail
            exact ⟨NX2.out _, by simp [intOf]; omega⟩
        · have hkl' : ¬ (k : Int) < (K.length : Int) := by omega
          obtain rfl : k = K.length := by omega
          rw [List.take_length] at *
          have hO := own_below HO.out hb
          have hz : w5.heap.size ≤ wr.heap.size := HB6.out.size
          have NX : Hid (∀ (W : World) (a : Option Addr) (c : Nat), NOwn W w5.heap.size (.slice a (i + 1) c) (wantT K X i ++ [toA 0 K x.toNat]) → Below w5.heap.size w5 W → ∃ (i' : Nat) (aw : Option Addr) (cw : Nat), i' ≤ X.length ∧ Value.int .i64 ((i : Int) + 1) = .int .i64 (i' : Int) ∧ Value.slice a (i + 1) c = .slice aw i' cw ∧ W.ownsRow w5.heap.size 3 1 (.slice aw i' cw) i' (icells (wantT K X i')) ∧ Below w5.heap.size w5 W) := hidIt (fun W a c h1 h2 => ⟨i + 1, a, c, by omega, by go_num, rfl, by
            rw [HWn.out]
            unfold NOwn at h1
            rwa [List.length_append, hwl] at h1, h2⟩)
          have HO2 : Hid (NOwn wr w5.heap.size (.slice aw i cw) (wantT K X i)) := hidIt (by unfold NOwn; rw [hwl]; exact hO)
          have hwl' := hidIt hwl
          clear hO hb
          generalize toA 0 K x.toNat = y at *
          generalize wantT K X i = acc at *
          subst hwl
          go_wp2_with (at_builtin; refine wpList_nappend rfl _ _ rfl w5.heap.size _ _ _ HO2.out rfl rfl (by omega) hz ?_; intro ao4 cap4 w9 ho2 st2; have HQ := hidIt (NX.out _ _ _ ho2 ((HB6.out.trans ((balloc _ _).mono hz)).trans (st2.below (Nat.le_trans hz (balloc _ _).size) (fun k hk => (HO2.out.lt k hk).1)))); clear ho2 st2 NX)
          exact ⟨HQ.out, by simp [intOf]; omega⟩
    · have hlt' : ¬ (i : Int) < (X.length : Int) := by omega
      obtain rfl : i = X.length := by omega
      obtain ⟨w6, hw6⟩ : ∃ w6, w6 = wr := ⟨wr, rfl⟩
      subst hw6
      rw [wantT_all] at ho
      have HW6 : Hid (NOwn w6 w5.heap.size (.slice aw X.length cw) (movedL K X)) := hidIt (by unfold NOwn; rw [movedL_len']; exact ho)
      have HT6 := hidIt (HT5.out.below hb).1
      have HX6 := hidIt (own_below HX5.out hb)
      have HB6 := hidIt (HB5.out.trans (hb.mono HB5.out.size))
      have GRn := hidIt (two_run HT6.out HRF.out HK.out _ HX6.out (by omega) HXo.out)
      have hKG : K.length ≤ G.length := by
        have := nodup_le (keysK K) (begs 0 G) (HK.out.ok.keys.imp fun h => by omega) (fun x hx => by
          obtain ⟨y, hy, rfl⟩ := List.mem_map.1 hx
          obtain ⟨i, h1, h2⟩ := objZ_idx (HK.out.ok.obj (List.getElem?_of_mem hy).choose_spec)
          have h3 := begs_at G 0 i (List.getElem?_eq_some_iff.1 h1).1
          rw [Nat.zero_add, ← h2] at h3
          exact List.mem_of_getElem? h3)
        rwa [keysK_len, begs_len] at this
      have hGe := usedN_ge G
      clear ho hb HT5 HK5 HN5 HX5 HX6
      go_wp2_with (go_at_call 33; refine GRn.out.mono ?_; rintro e w7 ⟨ay, cy, st, rfl, hst, hy, ht, hs⟩; have HY7 := hidIt hy; have HW7 := hidIt (hs.nown HW6.out); have HT7 := hidIt ht; have HB7 := hidIt (HB6.out.trans (hs.below _ (Nat.le_refl _))); have hstK := hidIt hst; clear hy ht hs hst GRn HW6 HT6)
      have hst := hstK.out
      have Z8 := Blk.new w7 #[.int .i64 (K.length : Int), .int .i64 ((G.length : Int) - (K.length : Int)), .int .i64 (usedN (obsK K) : Int), .int .i64 (st : Int)] 65
      have B8 := balloc w7 (.cells #[.int .i64 (K.length : Int), .int .i64 ((G.length : Int) - (K.length : Int)), .int .i64 (usedN (obsK K) : Int), .int .i64 (st : Int)] 65)
      generalize w7.alloc (.cells #[.int .i64 (K.length : Int), .int .i64 ((G.length : Int) - (K.length : Int)), .int .i64 (usedN (obsK K) : Int), .int .i64 (st : Int)] 65) = w8 at *
      have HY8 := hidIt (NOwn.view (own_below HY7.out B8))
      have HW8 := hidIt (NOwn.view (own_below HW7.out B8))
      have HT8 := hidIt (HT7.out.below B8).1
      have HB8 := hidIt (HB7.out.trans (B8.mono HB7.out.size))
      have HCS : Hid (∀ W, Below w8.heap.size w8 W → W.cell? ⟨w7.heap.size, 0, none⟩ = some (.int .i64 (K.length : Int)) ∧ W.cell? ⟨w7.heap.size, 1, none⟩ = some (.int .i64 ((G.length : Int) - (K.length : Int))) ∧ W.cell? ⟨w7.heap.size, 2, none⟩ = some (.int .i64 (usedN (obsK K) : Int)) ∧ W.cell? ⟨w7.heap.size, 3, none⟩ = some (.int .i64 (st : Int))) := hidIt (fun W hb => ⟨cell_later hb (Z8.cell 0), cell_later hb (Z8.cell 1), cell_later hb (Z8.cell 2), cell_later hb (Z8.cell 3)⟩)
      have GS : Hid (∀ W, Below w8.heap.size w8 W → Calls Try.prog 28 #[.slice ay X.length cy, .slice aw X.length cw] W fun e w' => e = .returned (.bool true) ∧ Below w8.heap.size w8 w') := hidIt (fun W hb => (nsame_any _ _ (movedL K X) W (HY8.out.below hb) (HW8.out.below hb)).mono fun e w' ⟨a, b⟩ => ⟨a, hb.trans (b.mono hb.size)⟩)
      have hMl : (obsM shp4 K).length = K.length := obsM_len' _ _
      have hMu : usedN (obsM shp4 K) = usedN (obsK K) := usedN_obsM' _ _
      have GU : Hid (∀ W, Below w8.heap.size w8 W → Calls Try.prog 40 #[.pointer (some ⟨q, 0, none⟩)] W fun e w' => e = .returned (.int .i64 (usedN (obsK K) : Int)) ∧ w' = W) := hidIt (fun W hb => by
        have := two_usedR (HT8.out.below hb).1
        rwa [hMu] at this)
      obtain ⟨DN, hDN⟩ : ∃ DN, G.length = K.length + DN := ⟨G.length - K.length, by omega⟩
      have hDc : (G.length : Int) - (K.length : Int) = (DN : Int) := by omega
      have S0 := hidIt (HCS.out w8 (Below.refl _ _))
      have SB : Hid (∀ q, Below w8.heap.size w8 (w8.drewN q)) := hidIt (fun q => below_drewQ w8 q)
      have hw1 : IntKind.i64.wrap ((K.length : Int) + (DN : Int) - (K.length : Int)) = (DN : Int) := by rw [IntKind.wrap_i64]; omega
      have hw1' : IntKind.i64.wrap (DN : Int) = (DN : Int) := by rw [IntKind.wrap_i64]; omega
      have hw2 : IntKind.i64.wrap ((usedN G : Int) + (X.length : Int)) = (usedN G : Int) + (X.length : Int) := by rw [IntKind.wrap_i64]; omega
      have hw3 : IntKind.i64.wrap (8 * ((usedN G : Int) + (X.length : Int))) = 8 * ((usedN G : Int) + (X.length : Int)) := by rw [IntKind.wrap_i64]; omega
      have hw4 : IntKind.i64.wrap (8 * ((usedN G : Int) + (X.length : Int)) + 8) = 8 * ((usedN G : Int) + (X.length : Int)) + 8 := by rw [IntKind.wrap_i64]; omega
      have hs1 : ¬ (8 * ((usedN G : Int) + (X.length : Int)) + 8 < (st : Int)) := by omega
      have hs2 : ¬ ((st : Int) < 0) := by omega
      rw [hDc] at HCS S0
      rw [hDN]
      clear Z8 B8 hDN hDc hst hKG hGl hGe hstK HY7 HW7 HT7 hwi
      obtain ⟨cs0, cs1, cs2, cs3⟩ := S0.out
      go_region_held3 (fun W => W.cell? ⟨w7.heap.size, 0, none⟩ = some (.int .i64 (K.length : Int)) ∧ W.cell? ⟨w7.heap.size, 1, none⟩ = some (.int .i64 (DN : Int)) ∧ W.cell? ⟨w7.heap.size, 2, none⟩ = some (.int .i64 (usedN (obsK K) : Int)) ∧ W.cell? ⟨w7.heap.size, 3, none⟩ = some (.int .i64 (st : Int))) (first | exact S0.out | exact HCS.out _ (SB.out _) | exact HCS.out _ (by assumption))
        (first
          | (go_at_call 28; refine (GS.out _ (by first | exact SB.out _ | assumption)).mono ?_; rintro e w9 ⟨rfl, hb9⟩)
          | (go_at_call 40; refine (GU.out _ (by first | exact SB.out _ | assumption)).mono ?_; rintro e w' ⟨rfl, hww⟩; cases hww))
      have HB9 := hidIt (HB8.out.trans (hb9.mono HB8.out.size))
      have HT9 := hidIt (HT8.out.below hb9).1
      have GAl := hidIt (two_allR HT9.out hMl)
      clear hb9 cs0 cs1 cs2 cs3 S0 SB HCS GS GU hw1 hw1' hw2 hw3 hw4 HY8 HW8 HT8
      have hMK := hidIt hMl
      clear hMl hMu
      go_wp2_with (first
        | (go_at_call 13; refine GAl.out.mono ?_; rintro e w10 ⟨a10, c10, rfl, hn, hb⟩; have HA := hidIt hn; have HT10 := hidIt (HT9.out.below hb).1; have HB10 := hidIt (HB9.out.trans (hb.mono HB9.out.size)); have GAh := hidIt (two_allH HT10.out hMK.out); clear hn hb GAl HT9)
        | (go_at_call 41; refine GAh.out.mono ?_; rintro e w11 ⟨a11, c11, rfl, hn, hb⟩; have HA11 := hidIt (own_below HA.out hb); have HT11 := hidIt (HT10.out.below hb).1; have HB11 := hidIt (HB10.out.trans (hb.mono HB10.out.size)); have GS2 := hidIt (nsame_any _ _ (begs 0 (obsM shp4 K)) w11 (NOwn.view hn) (NOwn.view HA11.out)); clear hn hb GAh HT10 HA)
        | (go_at_call 28; refine GS2.out.mono ?_; rintro e w12 ⟨rfl, hb⟩; have HA12 := hidIt (own_below HA11.out hb); have HT12 := hidIt (HT11.out.below hb).1; have HB12 := hidIt (HB11.out.trans (hb.mono HB11.out.size)); have GUh := hidIt (two_usedH HT12.out); have GUr := hidIt (two_usedR HT12.out); clear hb GS2 HT11 HA11)
        | (go_at_call 36; refine GUh.out.mono ?_; rintro e w' ⟨rfl, hww⟩; cases hww)
        | (go_at_call 40; refine GUr.out.mono ?_; rintro e w' ⟨rfl, hww⟩; cases hww))
      clear GUh GUr hs1 hs2
      generalize hM : obsM shp4 K = M at *
      go_loopw [23] (fun iv wr => ∃ i : Nat, i ≤ K.length ∧ iv = .int .i64 (i : Int) ∧ Below w12.heap.size w12 wr) (fun iv _ => K.length - (intOf iv).toNat)
      case atStart => exact ⟨0, Nat.zero_le _, rfl, Below.refl _ _⟩
      case round =>
        obtain ⟨i, hi, rfl, hb⟩ := hrel
        have HBi := hidIt hb
        have HB13 := hidIt (HB12.out.trans (hb.mono HB12.out.size))
        by_cases hlt : i < K.length
        · have hlt' : (i : Int) < (K.length : Int) := by omega
          obtain ⟨b, hbx⟩ : ∃ b, (begs 0 M)[i]? = some b := ⟨(begs 0 M)[i]'(by rw [begs_len, hMK.out]; exact hlt), List.getElem?_eq_getElem _⟩
          have HCb : Hid (∀ W, Below w12.heap.size w12 W → ∃ ga, a10 = some ⟨ga, 0, none⟩ ∧ W.cell? ⟨ga, i, none⟩ = some (.int .i64 b)) := hidIt (fun W hbw => by
            have := own_below HA12.out hbw
            rw [begs_len, hMK.out] at this
            obtain ⟨ga, e, -, -, c, -⟩ := own_cell this (icells_at hbx)
            exact ⟨ga, e, c⟩)
          obtain ⟨ga, rfl, c0⟩ := HCb.out wr hb
          have HTW : Hid (∀ W, Below w12.heap.size w12 W → TwoV w.heap.size (fun _ => False) W p q 400 M shp4 M shp4) := hidIt (fun W hbw => (HT12.out.below hbw).1)
          have GT1 := hidIt (fun (n : Nat) => two_gtagH (HTW.out (wr.drewN n) (HBi.out.trans ((below_drewQ wr n).mono HBi.out.size))) b)
          have GT2 := hidIt (fun (n : Nat) => two_gtagR (HTW.out (wr.drewN n) (HBi.out.trans ((below_drewQ wr n).mono HBi.out.size))) b)
          have GP1 := hidIt (fun (n : Nat) => two_shpH (HTW.out (wr.drewN n) (HBi.out.trans ((below_drewQ wr n).mono HBi.out.size))) b)
          have GP2 := hidIt (fun (n : Nat) => two_shpR (HTW.out (wr.drewN n) (HBi.out.trans ((below_drewQ wr n).mono HBi.out.size))) b)
          have GL : Hid (∀ W, Below w12.heap.size w12 W → Calls Try.prog 39 #[.pointer (some ⟨q, 0, none⟩), .int .i64 b] W fun e w' => e = .returned (.int .i64 (lenZ M b)) ∧ w' = W) := hidIt (fun W hbw => two_lenR (HTW.out W hbw) b)
          have GGh : Hid (∀ W (k : Nat), (k : Int) < lenZ M b → Below w12.heap.size w12 W → Calls Try.prog 46 #[.pointer (some ⟨p, 0, none⟩), .int .i64 b, .int .i64 (k : Int)] W fun e w' => e = .returned (.tuple #[.int .i64 (getZ M b (k : Int)), .int .i64 0]) ∧ Below w12.heap.size w12 w') := hidIt (fun W k hk hbw => (two_getH (HTW.out W hbw) b (k : Int) (by unfold hasZ; simp; omega)).mono fun e w' ⟨a, c⟩ => ⟨a, hbw.trans (c.mono hbw.size)⟩)
          have GGr : Hid (∀ W (k : Nat), (k : Int) < lenZ M b → Below w12.heap.size w12 W → Calls Try.prog 47 #[.pointer (some ⟨q, 0, none⟩), .int .i64 b, .int .i64 (k : Int)] W fun e w' => e = .returned (.tuple #[.int .i64 (getZ M b (k : Int)), .int .i64 0]) ∧ w' = W) := hidIt (fun W k hk hbw => two_getR (HTW.out W hbw) b (k : Int) (by unfold hasZ; simp; omega))
          obtain ⟨L, hL⟩ : ∃ L : Nat, lenZ M b = (L : Int) := ⟨(lenZ M b).toNat, by unfold lenZ; split <;> omega⟩
          rw [hL] at GL GGh GGr
          have HSB : Hid (∀ n, Below w12.heap.size w12 (wr.drewN n)) := hidIt (fun n => HBi.out.trans ((below_drewQ wr n).mono HBi.out.size))
          have hLb : (L : Int) ≤ 16384 := by
            rw [← hL]
            have h1 := HT12.out.few
            unfold lenZ
            cases ho : objZ M b with
            | none => simp
            | some o =>
              have h2 := objZ_in ho
              simp only
              omega
          clear hb hbx HTW hL
          generalize getZ M b = gz at *
          generalize tagZ M b = tz at *
          generalize shpZ M b = sz at *
          go_wp2_with fail
          go_quiet (first
            | (go_at_call 42; exact Calls.quiet_of_same (GT1.out _))
            | (go_at_call 43; exact Calls.quiet_of_same (GT2.out _))
            | (go_at_call 44; exact Calls.quiet_of_same (GP1.out _))
            | (go_at_call 45; exact Calls.quiet_of_same (GP2.out _)))
          clear GT1 GT2 GP1 GP2
          go_wp2_with fail
          go_loopw [24] (fun kv wr => ∃ k : Nat, k ≤ L ∧ kv = .int .i64 (k : Int) ∧ Below w12.heap.size w12 wr) (fun kv _ => L - (intOf kv).toNat)
          case atStart => exact ⟨0, Nat.zero_le _, rfl, HSB.out _⟩
          case round =>
            obtain ⟨k, hk, rfl, hb⟩ := hrel
            have HBk := hidIt hb
            obtain ⟨ga', e9, c1⟩ := HCb.out wr hb
            cases e9
            have GL2 := hidIt (GL.out wr hb)
            by_cases hkl : k < L
            · have hkl' : (k : Int) < (L : Int) := by omega
              have GG1 := hidIt (GGh.out wr k hkl' hb)
              clear hb
              go_wp2_with (first
                | (go_at_call 39; refine GL2.out.mono ?_; rintro e w' ⟨rfl, hww⟩; cases hww)
                | (go_at_call 46; refine GG1.out.mono ?_; rintro e w14 ⟨rfl, hb4⟩; have HB14 := hidIt hb4; obtain ⟨ga', e9, c2⟩ := HCb.out w14 hb4; cases e9; have GG2 := hidIt (GGr.out w14 k hkl' hb4); clear hb4 GG1)
                | (go_at_call 47; refine GG2.out.mono ?_; rintro e w' ⟨rfl, hww⟩; cases hww))
              exact ⟨⟨k + 1, by omega, by go_num, HB14.out⟩, by simp [intOf]; omega⟩
            · have hkl' : ¬ (k : Int) < (L : Int) := by omega
              clear hb
              go_wp2_with (go_at_call 39; refine GL2.out.mono ?_; rintro e w' ⟨rfl, hww⟩; cases hww)
              exact ⟨⟨i + 1, by omega, by go_num, HBk.out⟩, by simp [intOf]; omega⟩
        · have hlt' : ¬ (i : Int) < (K.length : Int) := by omega
          have GK := hidIt (gknown_any wr)
          clear hb
          go_wp2_with (go_at_call 37; refine GK.out.mono ?_; rintro e wz ⟨rfl, hbz⟩; have HBz := hidIt (HB13.out.trans (hbz.mono HB13.out.size)); clear hbz)
          go_ret
          exact ⟨rfl, HBz.out⟩
theorem collectRuns_w (v : Value) (xs : List Nd) (u : Value) (r : List Int) (W : World) (h1 : NdV W v xs) (h2 : NView W u r) : Calls Try.prog 6 #[v, u] W fun e w' => e = .returned (.bool true) ∧ Below W.heap.size W w' := collectRuns_any v u h1 h2
end Go.Proofs.Ytaknklfbkbgliaa.J
