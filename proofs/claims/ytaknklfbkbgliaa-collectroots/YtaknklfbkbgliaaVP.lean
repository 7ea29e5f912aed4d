/- CollectRoots: walked. -/
import Derived.Test.YtaknklfbkbgliaaVO
import Derived.Test.YtaknklfbkbgliaaVN
namespace Go.Proofs.Ytaknklfbkbgliaa.J
open Go.RowKit Go.MapKept Go.ChangeMaps
set_option linter.unusedVariables false

def tagsT (G : List Ob) (X : List Int) (k : Nat) : List Int := (X.take k).map (tagZ G)
theorem tagsT_len (G : List Ob) (X : List Int) {k : Nat} (hk : k ≤ X.length) : (tagsT G X k).length = k := by simp [tagsT]; omega
theorem tagsT_snoc {G : List Ob} {X : List Int} {k : Nat} {x : Int} (hx : X[k]? = some x) : tagsT G X (k + 1) = tagsT G X k ++ [tagZ G x] := by
  unfold tagsT
  rw [take_snoc hx, List.map_append]
  rfl
theorem tagsT_at {G : List Ob} {X : List Int} {k : Nat} {x : Int} (hx : X[k]? = some x) : (tagsT G X X.length)[k]? = some (tagZ G x) := by
  simp [tagsT, hx]
theorem movedL_at {K : List (Nat × Ob)} {X : List Int} {k : Nat} {x : Int} (hx : X[k]? = some x) : (movedL K X)[k]? = some (toA 0 K x.toNat) := by
  simp [movedL, hx]
theorem movedL_len (K : List (Nat × Ob)) (X : List Int) : (movedL K X).length = X.length := by simp [movedL]
variable {w : World} {xs : List Nd} {r : List Int}
set_option maxRecDepth 8000 in
set_option maxHeartbeats 8000000 in
theorem collectRoots_any (vl vr : Value) (hl : NdV w vl xs) (hr : NView w vr r) : Calls Try.prog 8 #[vl, vr] w fun e w' => e = .returned (.bool true) ∧ Below w.heap.size w w' := by
  have GB := hidIt (build_any (most := 500) (xs := xs) (by omega) (by decide) (by decide) vl hl)
  have HR := hidIt hr
  have HTG : Hid (∀ (K : List (Nat × Ob)) (i j p q : Nat) (o o' : Ob), KOk (graphL xs) K → K[i]? = some (p, o) → K[j]? = some (q, o') → i < j → o.tag < o'.tag) := hidIt (fun K i j p q o o' a b c d => kept_tags a b c d)
  have hGl : (graphL xs).length ≤ 30 := by rw [graphL_len]; omega
  have HXo : Hid ((rootsL r (begs 0 (graphL xs))).all (rootB (graphL xs)) = true) := hidIt (rootsL_ok r (graphL xs))
  have hXl : (rootsL r (begs 0 (graphL xs))).length ≤ 12 := rootsL_len _ _
  unfold BuildQ at GB
  clear hl hr
  generalize graphL xs = G at *
  have GX : Hid (∀ w1 v, Below w.heap.size w w1 → NOwn w1 w.heap.size v (begs 0 G) → Calls Try.prog 38 #[vr, v] w1 fun e w' => ∃ a c, e = .returned (.slice a (rootsL r (begs 0 G)).length c) ∧ NOwn w' w1.heap.size (.slice a (rootsL r (begs 0 G)).length c) (rootsL r (begs 0 G)) ∧ Below w1.heap.size w1 w') := hidIt (fun w1 v hb hn => (roots_any vr v (HR.out.below hb) (NOwn.view hn) (by rw [begs_len]; omega)).mono (fun e w' ⟨v, e1, e2, e3⟩ => by
    obtain ⟨a, c, rfl⟩ := own_slice e2
    exact ⟨a, c, e1, e2, e3⟩))
  generalize rootsL r (begs 0 G) = X at *
  have HTo : Hid (∀ x ∈ X, x = 0 ∨ (objZ G x).isSome = true) := hidIt (fun x hx => rootB_iff.1 (List.all_eq_true.1 HXo.out x hx))
  go_enter Try.func8, Try.ntmps8
  go_wp2_with (first
    | (go_at_call 31; refine GB.out.mono ?_; rintro e w1 ⟨p, q, rv, rfl, ht, hn, hrf, hb⟩; obtain ⟨ar, cr, rfl⟩ := hn.shape (begs_len G 0); have HRF := hidIt hrf; have HB1 := hidIt hb; obtain ⟨H, rfl, hh⟩ := ht.heap; have HH := hidIt hh; have GX2 := hidIt (GX.out w1 _ hb hn); clear hn hrf hb ht hh GX GB)
    | (go_at_call 38; refine GX2.out.mono ?_; rintro e w2 ⟨ax, cx, rfl, hn, hb⟩; have HX := hidIt hn; have HH2 := hidIt (HH.out.below hb); have HB2 := hidIt (HB1.out.trans (hb.mono HB1.out.size)); clear hn hb GX2))
  go_loopw [9, 10] (fun tv iv wr => ∃ k : Nat, k ≤ X.length ∧ iv = .int .i64 (k : Int) ∧ wr.ownsRow w2.heap.size 2 1 tv (tagsT G X k).length (icells (tagsT G X k)) ∧ Below w2.heap.size w2 wr) (fun _ iv _ => X.length - (intOf iv).toNat)
  case atStart => exact ⟨0, Nat.zero_le _, rfl, World.ownsRow_nil _ _ _ _, Below.refl _ _⟩
  case round =>
    obtain ⟨k, hk, rfl, ho, hb⟩ := hrel
    obtain ⟨at_, ct, rfl⟩ := own_slice ho
    have HO := hidIt ho
    have HBw := hidIt hb
    have hz := hb.size
    by_cases hlt : k < X.length
    · have hlt' : (k : Int) < (X.length : Int) := by omega
      obtain ⟨x, hx⟩ : ∃ x, X[k]? = some x := ⟨X[k], List.getElem?_eq_getElem hlt⟩
      have hX := own_below HX.out hb
      obtain ⟨gx, rfl, -, -, c0, -⟩ := own_cell hX (icells_at hx)
      have GT := hidIt (Tag_any (HH2.out.below hb) x)
      have NX : Hid (∀ (W : World) (v : Value), W.ownsRow w2.heap.size 2 1 v (tagsT G X k ++ [tagZ G x]).length (icells (tagsT G X k ++ [tagZ G x])) → W.ownsRow w2.heap.size 2 1 v (tagsT G X (k + 1)).length (icells (tagsT G X (k + 1)))) := hidIt (fun W v h => by rw [tagsT_snoc hx]; exact h)
      have hacc : (tagsT G X k).length ≤ 100 := by rw [tagsT_len G X hk]; omega
      unfold HB.ptr at GT
      clear ho hb hx hX
      generalize tagZ G x = y at *
      generalize tagsT G X k = acc at *
      go_wp2_with (first
        | (go_at_call 42; refine GT.out.mono ?_; rintro e w' ⟨rfl, hww⟩; cases hww)
        | (at_builtin; refine wpList_tappend rfl _ _ rfl w2.heap.size _ _ _ HO.out rfl rfl (by omega) hz ?_; intro ao4 cap4 w9 ho2 st2; have HB3 := hidIt ((HBw.out.trans ((balloc _ _).mono hz)).trans (st2.below (Nat.le_trans hz (balloc _ _).size) (fun k hk => (HO.out.lt k hk).1))); have HO2 := hidIt (NX.out _ _ ho2); clear ho2 st2))
      exact ⟨⟨k + 1, by omega, by go_num, HO2.out, HB3.out⟩, by simp [intOf]; omega⟩
    · have hlt' : ¬ (k : Int) < (X.length : Int) := by omega
      obtain rfl : k = X.length := by omega
      have H3 := HH2.out.below hb
      have X3 := own_below HX.out hb
      have GRu := hidIt (gRun_any H3 HRF.out _ X3 (by omega) HXo.out)
      have HH3 := hidIt H3
      have HX3 := hidIt X3
      rw [tagsT_len G X (Nat.le_refl _)] at HO ⊢
      have htag := hidIt (fun (K : List (Nat × Ob)) (hK : RchK shp4 G X K) (k : Nat) x (hx : X[k]? = some x) => root_moved hK HTo.out (List.mem_of_getElem? hx))
      unfold HB.ptr at GRu
      clear ho hb H3 X3
      go_wp2_with (go_at_call 33; refine GRu.out.mono ?_; rintro e w4 ⟨K, yv, st, H', hK, rfl, hst, hy, hh', hs⟩; obtain ⟨ay, cy, rfl⟩ := hy.shape (movedL_len K X); have HK := hidIt hK; have HY4 := hidIt hy; have HH4 := hidIt hh'; have HS4 := hidIt hs; clear hK hy hh' hs GRu)
      obtain ⟨V, hV⟩ : ∃ V, V = wr := ⟨wr, rfl⟩
      subst hV
      have Z5 := Blk.new w4 #[.int .i64 (K.length : Int), .int .i64 ((G.length : Int) - (K.length : Int)), .int .i64 (usedN (obsK K) : Int), .int .i64 (st : Int)] 65
      have B5 := balloc w4 (.cells #[.int .i64 (K.length : Int), .int .i64 ((G.length : Int) - (K.length : Int)), .int .i64 (usedN (obsK K) : Int), .int .i64 (st : Int)] 65)
      generalize w4.alloc (.cells #[.int .i64 (K.length : Int), .int .i64 ((G.length : Int) - (K.length : Int)), .int .i64 (usedN (obsK K) : Int), .int .i64 (st : Int)] 65) = w5 at *
      have hUU : usedN (obsK K) ≤ 16384 := by
        have h1 := HK.out.ok.within
        have h2 := HH2.out.few
        omega
      have hKG : K.length ≤ G.length := by
        have := nodup_le (keysK K) (begs 0 G) (HK.out.ok.keys.imp fun h => by omega) (fun x hx => by
          obtain ⟨y, hy, rfl⟩ := List.mem_map.1 hx
          obtain ⟨i, h1, h2⟩ := objZ_idx (HK.out.ok.obj (List.getElem?_of_mem hy).choose_spec)
          have h3 := begs_at G 0 i (List.getElem?_eq_some_iff.1 h1).1
          rw [Nat.zero_add, ← h2] at h3
          exact List.mem_of_getElem? h3)
        rwa [keysK_len, begs_len] at this
      have HH5 := hidIt (HH4.out.below B5)
      have HY5 := hidIt (own_below HY4.out B5)
      have HX5 : Hid (NOwn w5 w1.heap.size (.slice ax X.length cx) X) := hidIt (own_below (HStep.own HH3.out.raw HS4.out (by unfold OT; decide) HX3.out) B5)
      have HT5 : Hid (w5.ownsRow w2.heap.size 2 1 (.slice at_ X.length ct) X.length (icells (tagsT G X X.length))) := hidIt (own_below (own_kept HO.out (fun g eg => HS4.out.block g (HO.out.lt g eg).2 (HH2.out.not (HO.out.lt g eg).1))) B5)
      have hB15 : Hid (Below w.heap.size w w5) := hidIt ((HB2.out.trans (HBw.out.mono HB2.out.size)).trans ((HS4.out.below (B := w.heap.size) (by have := HB2.out.size; have := HBw.out.size; omega) (fun b hb => (HH3.out.lt hb).1)).trans (B5.mono (by have := HB2.out.size; have := HBw.out.size; have := HS4.out.size; omega))))
      have HCS : Hid (∀ W, Below w5.heap.size w5 W → W.cell? ⟨w4.heap.size, 0, none⟩ = some (.int .i64 (K.length : Int)) ∧ W.cell? ⟨w4.heap.size, 1, none⟩ = some (.int .i64 ((G.length : Int) - (K.length : Int))) ∧ W.cell? ⟨w4.heap.size, 2, none⟩ = some (.int .i64 (usedN (obsK K) : Int))) := hidIt (fun W hb => ⟨cell_later hb (Z5.cell 0), cell_later hb (Z5.cell 1), cell_later hb (Z5.cell 2)⟩)
      have GA : Hid (∀ W, Below w5.heap.size w5 W → Calls Try.prog 41 #[.pointer (some ⟨H.hb, 0, none⟩)] W fun e w' => ∃ a c, e = .returned (.slice a K.length c) ∧ NOwn w' W.heap.size (.slice a K.length c) (begs 0 (obsM shp4 K)) ∧ Below w5.heap.size w5 w') := hidIt (fun W hb => by
        have := All_any (HH5.out.below hb)
        unfold HB.ptr at this
        rw [HS4.out.hb] at this
        exact this.mono fun e w' ⟨v, e1, e2, e3⟩ => by
          obtain ⟨a, c, rfl⟩ := e2.shape (n := K.length) (by rw [begs_len, obsM_len'])
          exact ⟨a, c, e1, e2, hb.trans (e3.mono hb.size)⟩)
      have GU : Hid (∀ W, Below w5.heap.size w5 W → Calls Try.prog 36 #[.pointer (some ⟨H.hb, 0, none⟩)] W fun e w' => e = .returned (.int .i64 (usedN (obsK K) : Int)) ∧ w' = W) := hidIt (fun W hb => by
        have := used_any (HH5.out.below hb)
        unfold HB.ptr at this
        rwa [HS4.out.hb, usedN_obsM'] at this)
      have GT : Hid (∀ W, Below w5.heap.size w5 W → ∀ x, Calls Try.prog 42 #[.pointer (some ⟨H.hb, 0, none⟩), .int .i64 x] W fun e w' => e = .returned (.int .i64 (tagZ (obsM shp4 K) x)) ∧ w' = W) := hidIt (fun W hb x => by
        have := Tag_any (HH5.out.below hb) x
        unfold HB.ptr at this
        rwa [HS4.out.hb] at this)
      have S0 := hidIt (HCS.out w5 (Below.refl _ _))
      have SB : Hid (∀ q, Below w5.heap.size w5 (w5.drewN q)) := hidIt (fun q => below_drewQ w5 q)
      obtain ⟨DN, hDN⟩ : ∃ DN, G.length = K.length + DN := ⟨G.length - K.length, by omega⟩
      have hDc : (G.length : Int) - (K.length : Int) = (DN : Int) := by omega
      have hKi : (K.length : Int) ≤ 30 := by omega
      have hDi : (DN : Int) ≤ 30 := by omega
      rw [hDc] at HCS S0
      rw [hDN]
      clear Z5 B5 hDN hDc hst hKG hGl
      clear HO HBw HH3 HX3 HY4 HH4 HS4 HX HH2 hz HH
      have hw : IntKind.i64.wrap ((K.length : Int) + (DN : Int)) = (K.length : Int) + (DN : Int) := by rw [IntKind.wrap_i64]; omega
      obtain ⟨cs0, cs1, cs2⟩ := S0.out
      go_region_held3 (fun W => W.cell? ⟨w4.heap.size, 0, none⟩ = some (.int .i64 (K.length : Int)) ∧ W.cell? ⟨w4.heap.size, 1, none⟩ = some (.int .i64 (DN : Int)) ∧ W.cell? ⟨w4.heap.size, 2, none⟩ = some (.int .i64 (usedN (obsK K) : Int))) (first | exact S0.out | exact HCS.out _ (SB.out _) | exact HCS.out _ (by assumption))
        (first
          | (go_at_call 41; refine (GA.out _ (by first | exact SB.out _ | assumption)).mono ?_; rintro e w6 ⟨a6, c6, rfl, hn6, hb6⟩)
          | (go_at_call 36; refine (GU.out _ (by first | exact SB.out _ | assumption)).mono ?_; rintro e w' ⟨rfl, hww⟩; cases hww))
      have HB6 := hidIt hb6
      clear hn6 hb6 cs0 cs1 cs2 GU HCS S0 hw
      go_wp2_with fail
      go_loopw [14] (fun iv wr => ∃ k : Nat, k ≤ X.length ∧ iv = .int .i64 (k : Int) ∧ Below w6.heap.size w6 wr) (fun iv _ => X.length - (intOf iv).toNat)
      case atStart => exact ⟨0, Nat.zero_le _, rfl, Below.refl _ _⟩
      case round =>
        obtain ⟨k, hk, rfl, hb⟩ := hrel
        have HB7 := hidIt (HB6.out.trans (hb.mono HB6.out.size))
        by_cases hlt : k < X.length
        · have hlt' : (k : Int) < (X.length : Int) := by omega
          obtain ⟨x, hx⟩ : ∃ x, X[k]? = some x := ⟨X[k], List.getElem?_eq_getElem hlt⟩
          obtain ⟨htg, hz0⟩ := htag.out K HK.out k x hx
          have hX := own_below HX5.out HB7.out
          obtain ⟨gx, rfl, -, -, c0, -⟩ := own_cell hX (icells_at hx)
          have hY := own_below HY5.out HB7.out
          rw [movedL_len] at hY
          obtain ⟨gy, rfl, -, -, c1, -⟩ := own_cell hY (icells_at (movedL_at (K := K) hx))
          have hT := own_below HT5.out HB7.out
          obtain ⟨gt, rfl, -, -, c2, -⟩ := own_cell hT (icells_at (tagsT_at (G := G) hx))
          have GQ := hidIt (fun n => GT.out (wr.drewN n) (HB7.out.trans ((below_drewQ wr n).mono HB7.out.size)) (toA 0 K x.toNat))
          rw [htg] at GQ
          clear hX hY hT hx htg
          generalize toA 0 K x.toNat = y at *
          generalize tagZ G x = t at *
          have HBq := hidIt hb
          clear hb
          generalize hb0 : (x == 0) = b0 at *
          cases b0 with
          | false =>
            go_wp2_with fail
            go_quiet ((go_at_call 42; exact Calls.quiet_of_same (GQ.out _)))
            go_wp2_with fail
            exact ⟨⟨k + 1, by omega, by go_num, HBq.out.trans ((below_drewQ wr nq).mono HBq.out.size)⟩, by simp [intOf]; omega⟩
          | true =>
            go_wp2_with fail
            go_quiet ((go_at_call 42; exact Calls.quiet_of_same (GQ.out _)))
            go_wp2_with fail
            exact ⟨⟨k + 1, by omega, by go_num, HBq.out.trans ((below_drewQ wr nq).mono HBq.out.size)⟩, by simp [intOf]; omega⟩
        · have hlt' : ¬ (k : Int) < (X.length : Int) := by omega
          have GA8 := hidIt (GA.out wr HB7.out)
          clear hb GA htag HT5 HX5 HY5
          go_wp2_with (go_at_call 41; refine GA8.out.mono ?_; rintro e w8 ⟨a8, c8, rfl, hn8, hb8⟩; have HN8 := hidIt hn8; have HB8 := hidIt hb8; clear hn8 hb8 GA8)
          go_loopw [16] (fun iv wr => ∃ j : Nat, (j < K.length ∨ j = 0) ∧ iv = .int .i64 ((j : Int) + 1) ∧ Below w8.heap.size w8 wr) (fun iv _ => K.length - (intOf iv).toNat)
          case atStart => exact ⟨0, .inr rfl, rfl, Below.refl _ _⟩
          case round =>
            obtain ⟨j, hj, rfl, hb⟩ := hrel
            have HB9 := hidIt (HB8.out.trans (hb.mono HB8.out.size))
            by_cases hlt : j + 1 < K.length
            · have hlt' : (j : Int) + 1 < (K.length : Int) := by omega
              obtain ⟨⟨p1, o1⟩, hx1⟩ : ∃ x, K[j]? = some x := ⟨K[j]'(by omega), List.getElem?_eq_getElem (by omega)⟩
              obtain ⟨⟨p2, o2⟩, hx2⟩ : ∃ x, K[j + 1]? = some x := ⟨K[j + 1], List.getElem?_eq_getElem hlt⟩
              have h12 := HTG.out K j (j + 1) p1 p2 o1 o2 HK.out.ok hx1 hx2 (Nat.lt_succ_self j)
              have hn9 : NOwn wr _ (.slice a8 K.length c8) (begs 0 (obsM shp4 K)) := own_below HN8.out hb
              have hlb : (begs 0 (obsM shp4 K)).length = K.length := by rw [begs_len, obsM_len']
              unfold NOwn at hn9
              rw [hlb] at hn9
              have e1 := begs_at (obsM shp4 K) 0 j (by rw [obsM_len']; omega)
              have e2 := begs_at (obsM shp4 K) 0 (j + 1) (by rw [obsM_len']; omega)
              rw [Nat.zero_add] at e1 e2
              obtain ⟨g8, rfl, -, -, c1, -⟩ := own_cell hn9 (icells_at e1)
              obtain ⟨g9, e9, -, -, c2, -⟩ := own_cell hn9 (icells_at e2)
              cases e9
              have GQ := hidIt (fun v n => GT.out (wr.drewN n) (HB9.out.trans ((below_drewQ wr n).mono HB9.out.size)) v)
              have t1 : tagZ (obsM shp4 K) ((usedN ((obsM shp4 K).take j) : Int) + 1) = o1.tag := by unfold tagZ; rw [objZ_nth (obsM_at hx1)]; rfl
              have t2 : tagZ (obsM shp4 K) ((usedN ((obsM shp4 K).take (j + 1)) : Int) + 1) = o2.tag := by unfold tagZ; rw [objZ_nth (obsM_at hx2)]; rfl
              have h12' : ¬ tagZ (obsM shp4 K) ((usedN ((obsM shp4 K).take (j + 1)) : Int) + 1) ≤ tagZ (obsM shp4 K) ((usedN ((obsM shp4 K).take j) : Int) + 1) := by rw [t1, t2]; omega
              have hKj : (j : Int) ≤ 30 := by omega
              have hw1 : IntKind.i64.wrap ((j : Int) + 1 - 1) = (j : Int) := by rw [IntKind.wrap_i64]; omega
              have hw2 : IntKind.i64.wrap (j : Int) = (j : Int) := by rw [IntKind.wrap_i64]; omega
              have HBq := hidIt hb
              clear hb hn9 e1 e2 t1 t2 hx1 hx2 hlb h12 GT HN8
              generalize tagZ (obsM shp4 K) = T at *
              generalize (usedN ((obsM shp4 K).take j) : Int) + 1 = b1 at *
              generalize (usedN ((obsM shp4 K).take (j + 1)) : Int) + 1 = b2 at *
              go_wp2_with fail
              go_quiet ((go_at_call 42; exact Calls.quiet_of_same (GQ.out _ _)))
              go_wp2_with fail
              exact ⟨⟨j + 1, .inl hlt, by go_num, HBq.out.trans ((below_drewQ wr nq).mono HBq.out.size)⟩, by simp [intOf]; omega⟩
            · have hlt' : ¬ (j : Int) + 1 < (K.length : Int) := by omega
              have HBf := hidIt (hB15.out.trans (HB9.out.mono hB15.out.size))
              have GK := hidIt (gknown_any wr)
              clear hb
              go_wp2_with (go_at_call 37; refine GK.out.mono ?_; rintro e wz ⟨rfl, hbz⟩; have HBz := hidIt (HBf.out.trans (hbz.mono HBf.out.size)); clear hbz)
              go_ret
              exact ⟨rfl, HBz.out⟩
end Go.Proofs.Ytaknklfbkbgliaa.J
namespace Go.Proofs.Ytaknklfbkbgliaa.J
open Go.RowKit
theorem collectRoots_w (v : Value) (xs : List Nd) (u : Value) (r : List Int) (W : World) (h1 : NdV W v xs) (h2 : NView W u r) : Calls Try.prog 8 #[v, u] W fun e w' => e = .returned (.bool true) ∧ Below W.heap.size W w' := collectRoots_any v u h1 h2
end Go.Proofs.Ytaknklfbkbgliaa.J
