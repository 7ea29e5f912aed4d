/- Slide of the document's own heap: walked. -/
import Derived.Test.YtepegebkjegjiaaUN
import Derived.Deep.RegionLaw
namespace Go.Proofs.Ytepegebkjegjiaa.J
open Go.RowKit Go.MapKept Go.ChangeMaps
set_option linter.unusedVariables false

variable {n0 : Nat} {w : World} {R : RB} {most : Nat} {l : List Ob} {ss : List (List Bool)} {K : List (Nat × Ob)}
theorem wpList_append_is {P : Program} {w w' : World} {ops : Array Oper} {rest : List Oper} {o : Oper} {a : Act} {Q : Exit → Act → World → Prop} {t : TypeId} {v vb v' : Value} (hgd : o.guard = none) (s x : Operand)
    (ho : o.op = .call { callee := .builtin .append, args := #[s, x], argTypes := #[t, t] }) (hs : a.eval s = v) (hx : a.eval x = vb) (hr : (Builtin.append_ #[t, t] o.type #[v, vb]).run P w = .ok v' w') (h : wpList P ops Q rest (a.put o.dst v') w') :
    wpList P ops Q (o :: rest) a w := by
  refine wpList_plain hgd fun K hK => ?_
  unfold Oper.wp execOp
  simp only [ho, resolve, invoke, builtin, Sem.run_bind, Sem.run_pure, Result.andThen_ok, List.map_toArray, List.map_cons, List.map_nil, hs, hx, hr]
  exact hK _ _ h
def USlI (w : World) (ss : List (List Bool)) (K : List (Nat × Ob)) (tv lv iv : Value) (wr : World) : Prop :=
  ∃ (j : Nat) (fvs : List Value) (al : Option Addr) (cl : Nat), j ≤ K.length ∧ iv = .int .i64 (j : Int) ∧ lv = .slice al j cl ∧ NL w.heap.size wr (.slice al j cl) fvs ((obsM ss K).take j) ∧ NOwn wr w.heap.size tv (begs 0 (obsK K)) ∧ Below w.heap.size w wr
/-- What Slide leaves of the document's own heap. -/
def USlQ (n0 : Nat) (w : World) (R : RB) (most : Nat) (ss : List (List Bool)) (K : List (Nat × Ob)) (v : Value) (w' : World) : Prop :=
  ∃ R', NOwn w' w.heap.size v (begs 0 (obsK K)) ∧ RV n0 w' R' most (obsM ss K) ss ∧ RStep R R' w w'
set_option maxRecDepth 8000 in
set_option maxHeartbeats 4000000 in
theorem uslide_any (h : RV n0 w R most l ss) (hr : RefsOk ss l) (hK : KOk l K) (vk : Value) (hv : NView w vk (keysK K)) :
    Calls Try.prog 24 #[R.ptr, vk] w fun e w' => (okK ss K = false ∧ e = .returned (.tuple #[.slice none 0 0, .int .i64 1]) ∧ Below w.heap.size w w') ∨ (okK ss K = true ∧ ∃ v, e = .returned (.tuple #[v, .int .i64 0]) ∧ USlQ n0 w R most ss K v w') := by
  have HVk := hidIt hv
  obtain ⟨ao, cap, rfl, hc, hm, _⟩ := hv
  unfold maxLen at hm
  have hkl := keysK_len K
  rw [hkl] at hc
  have HVk : Hid (∀ W, Below w.heap.size w W → NView W (.slice ao K.length cap) (keysK K)) := hidIt (fun W hb => by have := HVk.out.below hb; rwa [hkl] at this)
  rw [hkl]
  have HKR := hidIt (KRd.of h hK)
  have HH := hidIt h
  have HR := hidIt hr
  have HK := hidIt hK
  have hm2 : usedN l ≤ 16384 := Nat.le_trans h.few h.most
  have hKl : K.length ≤ 16384 := by have := usedN_ge (obsK K); rw [obsK_len] at this; have := hK.within; omega
  have HAS : Hid (∀ W x, Below w.heap.size w W → Calls Try.prog 48 #[.slice ao K.length cap, .int .i64 x] W fun e w' => e = .returned (.int .i64 (hasI (keysK K) x)) ∧ w' = W) := hidIt (fun W x hb => uhas_any _ _ x W (HVk.out W hb))
  obtain ⟨Q, hQ⟩ : ∃ Q : Ending → World → Prop, Q = fun e w' => (okK ss K = false ∧ e = .returned (.tuple #[.slice none 0 0, .int .i64 1]) ∧ Below w.heap.size w w') ∨ (okK ss K = true ∧ ∃ v, e = .returned (.tuple #[v, .int .i64 0]) ∧ USlQ n0 w R most ss K v w') := ⟨_, rfl⟩
  rw [← hQ]
  have QNO : Hid (∀ W, okK ss K = false → Below w.heap.size w W → Q (.returned (.tuple #[.slice none 0 0, .int .i64 1])) W) := hidIt (fun W a b => by rw [hQ]; exact .inl ⟨a, rfl, b⟩)
  have QYES : Hid (∀ W v, okK ss K = true → USlQ n0 w R most ss K v W → Q (.returned (.tuple #[v, .int .i64 0])) W) := hidIt (fun W v a b => by rw [hQ]; exact .inr ⟨a, v, rfl, b⟩)
  unfold RB.ptr
  clear h hr hK hkl hQ
  go_enter Try.func24, Try.ntmps24
  go_wp2_with fail
  go_loopw [6] (fun iv wr => ∃ (i : Nat), i ≤ K.length ∧ iv = .int .i64 (i : Int) ∧ (∀ (j p : Nat) (o : Ob), K[j]? = some (p, o) → j < i → okO ss K o = true) ∧ Below w.heap.size w wr) (fun iv _ => K.length - (intOf iv).toNat)
  case atStart => exact ⟨0, Nat.zero_le _, rfl, fun _ _ _ _ h => absurd h (by omega), Below.refl _ _⟩
  case round =>
    obtain ⟨i, hi, rfl, hok, hb⟩ := hrel
    have HOK := hidIt hok
    have HB := hidIt hb
    clear hok hb
    obtain ⟨V, hV⟩ : ∃ V, V = wr := ⟨wr, rfl⟩
    subst hV
    by_cases hlt : i < K.length
    · have hlt' : (i : Int) < (K.length : Int) := by omega
      obtain ⟨⟨p, o⟩, hx⟩ : ∃ x, K[i]? = some x := ⟨K[i], List.getElem?_eq_getElem hlt⟩
      obtain ⟨i0, g, ua, uc, b1, b2, b3, GF, GC, GX, GI⟩ := HKR.out i p o hx
      have HGF := hidIt GF
      have HGC := hidIt GC
      have HGX := hidIt GX
      have HGI := hidIt GI
      have HX := hidIt hx
      obtain ⟨gk, ok, rfl, c0⟩ := (HVk.out _ HB.out).row (keysK_at hx)
      have HPRE : Hid (∀ i', i = i' + 1 → ∃ p', V.cell? ⟨gk, ok + i', none⟩ = some (.int .i64 ((p' : Nat) : Int)) ∧ ¬ ((p : Int) + 1 ≤ (p' : Int))) := hidIt (fun i' e => by
        obtain ⟨⟨p', o'⟩, hy⟩ : ∃ x, K[i']? = some x := ⟨K[i']'(by omega), List.getElem?_eq_getElem _⟩
        obtain ⟨gk2, ok2, e2, c2⟩ := (HVk.out _ HB.out).row (keysK_at hy)
        cases e2
        have := HK.out.lt hy hx (by omega)
        exact ⟨p' + 1, by rw [c2]; simp, by omega⟩)
      have GF2 := hidIt (GF V HB.out)
      clear GF GC GX GI hx
      go_upto_region 5 with (go_at_call 45; refine GF2.out.mono ?_; rintro e w' ⟨rfl, hww⟩; cases hww)
      go_cut [46] from 29 to 47 (fun v wx => v = .bool false ∧ ∃ q, wx = V.drewN q)
      case first =>
        clear HVk HKR HAS HGF HGC HGX HGI HOK
        by_cases h0 : i = 0
        · have h0' : ¬ (0 : Int) < (i : Int) := by omega
          have h0n : ¬ 0 < i := by omega
          clear HPRE h0
          go_quiet (fail)
          go_wp2_with fail
          go_meet
          exact ⟨rfl, _, rfl⟩
        · obtain ⟨i', hi'⟩ : ∃ i', i = i' + 1 := ⟨i - 1, by omega⟩
          obtain ⟨p', c1, hne⟩ := HPRE.out i' hi'
          have hi1 : (0 : Int) < (i : Int) := by omega
          have hi1n : 0 < i := by omega
          have ht : ((i : Int) - 1).toNat = i' := by omega
          have hi2 : (i : Int) - 1 < (K.length : Int) := by omega
          have hi3 : i' < K.length := by omega
          have hi4 : (0 : Int) ≤ (i : Int) - 1 := by omega
          clear HPRE h0 hi'
          go_quiet (fail)
          go_wp2_with fail
          go_meet
          exact ⟨by rw [decide_eq_false (by omega)], _, rfl⟩
      case rest =>
        obtain ⟨rfl, q, hwc⟩ := hcut
        have HBc : Hid (Below w.heap.size w wc) := hidIt (by rw [hwc]; exact below_drewN HB.out q)
        clear HPRE hwc c0
        have c2 := (HGC.out wc HBc.out).2.2.1
        go_wp2_with fail
        go_loopw [8] (fun kv W => ∃ (k : Nat), k ≤ o.f.length ∧ kv = .int .i64 (k : Int) ∧ (∀ m, m < k → rb ss o.sh m = true → leadK K ((o.f[m]?).getD 0) = true) ∧ Below w.heap.size w W) (fun kv _ => o.f.length - (intOf kv).toNat)
        case atStart => exact ⟨0, Nat.zero_le _, rfl, fun m h => absurd h (by omega), HBc.out⟩
        case round =>
          clear HBc c2
          obtain ⟨k, hk, rfl, hdone, hb⟩ := hrel
          obtain ⟨W1, hW1⟩ : ∃ W, W = wr := ⟨wr, rfl⟩
          subst hW1
          have HD := hidIt hdone
          have HB1 := hidIt hb
          clear hdone hb
          have c2 := (HGC.out W1 HB1.out).2.2.1
          by_cases hkl : k < o.f.length
          · have hkl' : (k : Int) < (o.f.length : Int) := by omega
            obtain ⟨x, hxk⟩ : ∃ x, o.f[k]? = some x := ⟨o.f[k], List.getElem?_eq_getElem hkl⟩
            obtain ⟨fb, rfl, cx⟩ := HGX.out k x hxk
            obtain ⟨gk3, ok3, e3, c0⟩ := (HVk.out _ HB1.out).row (keysK_at HX.out)
            cases e3
            have GI2 := hidIt (HGI.out W1 k hkl HB1.out)
            have NX : Hid ((rb ss o.sh k = true → leadK K x = true) → ∀ m, m < k + 1 → rb ss o.sh m = true → leadK K ((o.f[m]?).getD 0) = true) := hidIt (fun h m hm hrm => by
              by_cases e : m = k
              · subst e; rw [hxk]; exact h hrm
              · exact HD.out m (by omega) hrm)
            have NO : Hid (rb ss o.sh k = true → leadK K x = false → okK ss K = false) := hidIt (fun a b => okK_not HX.out (okO_not hkl a (by rw [hxk]; exact b)))
            have HXB : Hid (rb ss o.sh k = true → 0 ≤ x ∧ x ≤ usedN l) := hidIt (fun a => HR.out.bound (HK.out.here HX.out) hxk a)
            have HCX := hidIt cx
            have HC2 : Hid (∀ W, Below w.heap.size w W → W.cell? ⟨g, i0 * 4 + 2, none⟩ = some (.slice (some ⟨fb, 0, none⟩) o.f.length uc)) := hidIt (fun W hb => (HGC.out W hb).2.2.1)
            clear hxk cx
            cases er : rb ss o.sh k with
            | false =>
              rw [er] at GI2
              have N2 := hidIt (NX.out (fun h => by rw [er] at h; cases h))
              clear er NX NO HXB
              go_wp2_with (go_at_call 46; refine GI2.out.mono ?_; rintro e w5 ⟨rfl, q5, rfl⟩; have HB5 : Hid (Below w.heap.size w (W1.drewN q5)) := hidIt (below_drewN HB1.out q5))
              exact ⟨⟨k + 1, by omega, by go_num, N2.out, HB5.out⟩, by simp [intOf]; omega⟩
            | true =>
              rw [er] at GI2
              have hxb := HXB.out er
              by_cases hx0 : x = 0
              · have N2 := hidIt (NX.out (fun _ => by rw [hx0]; rfl))
                have hx0' : (x != 0) = false := by simpa using hx0
                clear er NX NO HXB hxb
                subst hx0
                go_wp2_with (go_at_call 46; refine GI2.out.mono ?_; rintro e w5 ⟨rfl, q5, rfl⟩; have HB5 : Hid (Below w.heap.size w (W1.drewN q5)) := hidIt (below_drewN HB1.out q5); have d2 := HC2.out _ HB5.out; have dx := HCX.out _ HB5.out)
                exact ⟨⟨k + 1, by omega, by go_num, N2.out, HB5.out⟩, by simp [intOf]; omega⟩
              · have hx0' : (x != 0) = true := by simpa using hx0
                have hld := leadK_has HK.out hxb.1 hx0
                by_cases hh : hasI (keysK K) x < 0
                · have N2 := hidIt (NO.out er (by rw [hld, decide_eq_true hh]; rfl))
                  have HAS2 := hidIt (fun W hb => HAS.out W x hb)
                  clear er NX NO HXB hxb hld hx0
                  generalize hasI (keysK K) x = hx at *
                  go_wp2_with (first
                    | (go_at_call 46; refine GI2.out.mono ?_; rintro e w5 ⟨rfl, q5, rfl⟩; have HB5 : Hid (Below w.heap.size w (W1.drewN q5)) := hidIt (below_drewN HB1.out q5); have d2 := HC2.out _ HB5.out; have dx := HCX.out _ HB5.out; have GH := hidIt (HAS2.out _ HB5.out))
                    | (go_at_call 48; refine GH.out.mono ?_; rintro e w6 ⟨rfl, hww⟩; cases hww))
                  exact QNO.out _ N2.out HB5.out
                · have N2 := hidIt (NX.out (fun _ => by rw [hld, decide_eq_false hh]; rfl))
                  have HAS2 := hidIt (fun W hb => HAS.out W x hb)
                  clear er NX NO HXB hxb hld hx0
                  generalize hasI (keysK K) x = hx at *
                  go_wp2_with (first
                    | (go_at_call 46; refine GI2.out.mono ?_; rintro e w5 ⟨rfl, q5, rfl⟩; have HB5 : Hid (Below w.heap.size w (W1.drewN q5)) := hidIt (below_drewN HB1.out q5); have d2 := HC2.out _ HB5.out; have dx := HCX.out _ HB5.out; have GH := hidIt (HAS2.out _ HB5.out))
                    | (go_at_call 48; refine GH.out.mono ?_; rintro e w6 ⟨rfl, hww⟩; cases hww))
                  exact ⟨⟨k + 1, by omega, by go_num, N2.out, HB5.out⟩, by simp [intOf]; omega⟩
          · have hkl' : ¬ (k : Int) < (o.f.length : Int) := by omega
            obtain rfl : k = o.f.length := by omega
            have N2 : Hid (∀ (j p : Nat) (o' : Ob), K[j]? = some (p, o') → j < i + 1 → okO ss K o' = true) := hidIt (fun j p' o' hj hlt => by
              by_cases e : j = i
              · subst e
                rw [HX.out] at hj
                cases hj
                exact okO_of HD.out
              · exact HOK.out j p' o' hj (by omega))
            go_wp2_with fail
            exact ⟨⟨i + 1, by omega, by go_num, N2.out, HB1.out⟩, by simp [intOf]; omega⟩
    · have hlt' : ¬ (i : Int) < (K.length : Int) := by omega
      obtain rfl : i = K.length := by omega
      have HOKK : Hid (okK ss K = true) := hidIt (okK_of (fun j p o hj => HOK.out j p o hj (List.getElem?_eq_some_iff.1 hj).1))
      have HAT : Hid (∀ (j : Nat) p o, K[j]? = some (p, o) → usedN ((obsK K).take (j + 1)) = usedN ((obsK K).take j) + (o.f.length + 3) ∧ usedN ((obsK K).take (j + 1)) ≤ 16384) := hidIt (fun j p o hj => by
        obtain ⟨u1, u2⟩ := usedN_take (obsK K) j o (obsK_at hj)
        have := HK.out.within
        exact ⟨u1, by omega⟩)
      clear HOK QNO
      go_wp2_with fail
      go_loopw [9, 10, 11] (fun tv av iv wr => ∃ (j : Nat), j ≤ K.length ∧ iv = .int .i64 (j : Int) ∧ av = .int .i64 ((usedN ((obsK K).take j) : Int) + 1) ∧ NOwn wr w.heap.size tv (begs 0 ((obsK K).take j)) ∧ Below w.heap.size w wr) (fun _ _ iv _ => K.length - (intOf iv).toNat)
      case atStart => exact ⟨0, Nat.zero_le _, rfl, rfl, NOwn.nil _ _, HB.out⟩
      case round =>
        clear HB
        obtain ⟨j, hj, rfl, rfl, ho, hb⟩ := hrel
        have HO := hidIt ho
        have HB := hidIt hb
        obtain ⟨ao2, cap2, rfl⟩ := own_slice ho
        have hz : w.heap.size ≤ wr.heap.size := hb.size
        clear ho hb
        by_cases hlt : j < K.length
        · have hlt' : (j : Int) < (K.length : Int) := by omega
          obtain ⟨⟨p, o⟩, hx⟩ : ∃ x, K[j]? = some x := ⟨K[j], List.getElem?_eq_getElem hlt⟩
          obtain ⟨i0, g, ua, uc, b1, b2, b3, GF, GC, GX, GI⟩ := HKR.out j p o hx
          have HGF := hidIt GF
          have HC2 : Hid (∀ W, Below w.heap.size w W → W.cell? ⟨g, i0 * 4 + 2, none⟩ = some (.slice ua o.f.length uc)) := hidIt (fun W hb => (GC W hb).2.2.1)
          have HKC : Hid (∃ gk ok, ao = some ⟨gk, ok, none⟩ ∧ ∀ W, Below w.heap.size w W → W.cell? ⟨gk, ok + j, none⟩ = some (.int .i64 ((p : Int) + 1))) := hidIt (by
            obtain ⟨gk, ok, e, _⟩ := (HVk.out _ HB.out).row (keysK_at hx)
            refine ⟨gk, ok, e, fun W hb => ?_⟩
            obtain ⟨gk2, ok2, e2, c2⟩ := (HVk.out _ hb).row (keysK_at hx)
            rw [e] at e2; cases e2; exact c2)
          obtain ⟨gk, ok, rfl, hkc⟩ := HKC.out
          have HKC2 := hidIt hkc
          obtain ⟨u1, u2⟩ := HAT.out j p o hx
          have NX : Hid (∀ (W : World) (v : Value), NOwn W w.heap.size v (begs 0 ((obsK K).take j) ++ [(usedN ((obsK K).take j) : Int) + 1]) → NOwn W w.heap.size v (begs 0 ((obsK K).take (j + 1)))) := hidIt (fun W v h1 => by rw [begs_take_snoc (obsK_at hx)]; exact h1)
          have NV : Hid (Value.int .i64 ((usedN ((obsK K).take j) : Int) + 1 + 3 + (o.f.length : Int)) = .int .i64 ((usedN ((obsK K).take (j + 1)) : Int) + 1)) := hidIt (by rw [u1]; go_num)
          have hln : (begs 0 ((obsK K).take j)).length ≤ 100000 := by rw [begs_len, List.length_take]; omega
          have hbd : (usedN ((obsK K).take j) : Int) + 1 + 3 + (o.f.length : Int) ≤ 16385 := by omega
          clear hx GF GC GX GI hkc u1 u2
          generalize begs 0 ((obsK K).take j) = acc at *
          generalize usedN ((obsK K).take j) = q at *
          generalize o.f.length = N at *
          go_wp2_with (first
            | (at_builtin; refine wpList_nappend rfl _ _ rfl w.heap.size _ _ _ HO.out rfl rfl (by omega) hz ?_; intro ao3 cap3 w2 ho2 st2; have HB2 := hidIt ((HB.out.trans ((balloc _ _).mono hz)).trans (st2.below (Nat.le_trans hz (balloc _ _).size) (fun k hk => (HO.out.lt k hk).1))); have HO2 := hidIt ho2; have d0 := HKC2.out _ HB2.out; have d2 := HC2.out _ HB2.out; have GF2 := hidIt (HGF.out _ HB2.out); clear ho2 st2)
            | (go_at_call 45; refine GF2.out.mono ?_; rintro e w' ⟨rfl, hww⟩; cases hww))
          exact ⟨⟨j + 1, by omega, by go_num, NV.out, NX.out _ _ HO2.out, HB2.out⟩, by simp [intOf]; omega⟩
        · have hlt' : ¬ (j : Int) < (K.length : Int) := by omega
          obtain rfl : j = K.length := by omega
          have e1 : (obsK K).take K.length = obsK K := by rw [← obsK_len, List.take_length]
          rw [e1] at HO
          rw [e1]
          clear HAT e1
          go_wp2_with fail
          obtain ⟨V3, hV3⟩ : ∃ V, V = wr := ⟨wr, rfl⟩
          subst hV3
          have hblk : (begs 0 (obsK K)).length = K.length := by rw [begs_len, obsK_len]
          rw [hblk] at HO
          go_loopw [12, 13] (fun lv iv wr => USlI w ss K (.slice ao2 K.length cap2) lv iv wr) (fun _ iv _ => K.length - (intOf iv).toNat)
          case atStart => exact ⟨0, [], none, 0, Nat.zero_le _, rfl, rfl, NL.nil _ _, HO.out, HB.out⟩
          case round =>
            clear HB HO hz
            obtain ⟨j, fvs, al, cl, hj, rfl, rfl, hnl, ho, hb⟩ := hrel
            have HO := hidIt ho
            have HB := hidIt hb
            have HNL := hidIt hnl
            have hz : w.heap.size ≤ wr.heap.size := hb.size
            clear ho hb hnl
            obtain ⟨V4, hV4⟩ : ∃ V, V = wr := ⟨wr, rfl⟩
            subst hV4
            by_cases hlt : j < K.length
            · have hlt' : (j : Int) < (K.length : Int) := by omega
              obtain ⟨⟨p, o⟩, hx⟩ : ∃ x, K[j]? = some x := ⟨K[j], List.getElem?_eq_getElem hlt⟩
              obtain ⟨i0, g, ua, uc, b1, b2, b3, GF, GC, GX, GI⟩ := HKR.out j p o hx
              have HX := hidIt hx
              have HGI := hidIt GI
              have HKC : Hid (∃ gk ok, ao = some ⟨gk, ok, none⟩ ∧ ∀ W, Below w.heap.size w W → W.cell? ⟨gk, ok + j, none⟩ = some (.int .i64 ((p : Int) + 1))) := hidIt (by
                obtain ⟨gk, ok, e, _⟩ := (HVk.out _ HB.out).row (keysK_at hx)
                refine ⟨gk, ok, e, fun W hb => ?_⟩
                obtain ⟨gk2, ok2, e2, c2⟩ := (HVk.out _ hb).row (keysK_at hx)
                rw [e] at e2; cases e2; exact c2)
              obtain ⟨gk, ok, rfl, hkc⟩ := HKC.out
              have HKC2 := hidIt hkc
              have GF2 := hidIt (GF V4 HB.out)
              obtain ⟨d0, d1, d2, d3⟩ := GC V4 HB.out
              have k0 := hkc V4 HB.out
              obtain ⟨X1, hX1⟩ : ∃ X, X = V4.alloc (.cells #[.int .i64 ((p : Int) + 1), .int .i64 o.sh, .slice ua o.f.length uc, .int .i64 o.tag] 84) := ⟨_, rfl⟩
              obtain ⟨X2, hX2⟩ : ∃ X, X = X1.alloc (.cells #[] 2) := ⟨_, rfl⟩
              have hb1 : Below V4.heap.size V4 X1 := by rw [hX1]; exact balloc _ _
              have hb12 : Below X1.heap.size X1 X2 := by rw [hX2]; exact balloc _ _
              have hb2 : Below V4.heap.size V4 X2 := hb1.trans (hb12.mono hb1.size)
              have hBX1 : X1.heap[V4.heap.size]? = some (.cells #[.int .i64 ((p : Int) + 1), .int .i64 o.sh, .slice ua o.f.length uc, .int .i64 o.tag] 84 (0, 0)) := by rw [hX1]; exact heap_alloc_new V4 _
              have hsX1 : V4.heap.size < X1.heap.size := by rw [hX1]; simp
              have hBX2 : X2.heap[V4.heap.size]? = some (.cells #[.int .i64 ((p : Int) + 1), .int .i64 o.sh, .slice ua o.f.length uc, .int .i64 o.tag] 84 (0, 0)) := (hb12.block _ hsX1).trans hBX1
              have hLV : LView X2 (.slice ua o.f.length uc) o.f := ⟨ua, uc, rfl, b1, by unfold maxLen; omega, by
                by_cases h0 : o.f = []
                · exact .inl h0
                · obtain ⟨y, hy⟩ : ∃ y, o.f[0]? = some y := ⟨o.f[0]'(by cases hf : o.f with | nil => exact absurd hf h0 | cons a t => simp), List.getElem?_eq_getElem _⟩
                  obtain ⟨fb, e1, _⟩ := GX 0 y hy
                  refine .inr ⟨fb, 0, e1, fun m x hm => ?_⟩
                  obtain ⟨fb', e2, hc⟩ := GX m x hm
                  rw [e1] at e2
                  cases e2
                  rw [Nat.zero_add]
                  exact hc X2 (HB.out.trans (hb2.mono hz))⟩
              have hE : X2.ownsRow X1.heap.size 2 1 (.slice (some ⟨X1.heap.size, 0, none⟩) 0 0) ([] : List Int).length (icells []) := by rw [hX2]; exact empty_own X1 2
              obtain ⟨v1, w1, hr1, ho1, st1⟩ := run_lappend (w := X2) 74 X1.heap.size _ _ [] o.f hE hLV (by simp; omega) hb12.size
              rw [List.nil_append, List.length_nil, Nat.zero_add] at ho1
              obtain ⟨a1, c1, e1⟩ := own_slice ho1
              subst e1
              have hbw1 : Below X1.heap.size X1 w1 := hb12.trans (st1.below hb12.size (fun b hb => (hE.lt b hb).1))
              have HBW1 : Hid (Below V4.heap.size V4 w1) := hidIt (hb1.trans (hbw1.mono (Nat.le_of_lt hsX1)))
              have HBX1 : Hid (w1.heap[V4.heap.size]? = some (.cells #[.int .i64 ((p : Int) + 1), .int .i64 o.sh, .slice ua o.f.length uc, .int .i64 o.tag] 84 (0, 0))) := hidIt ((hbw1.block _ hsX1).trans hBX1)
              have HF1 : Hid (w1.ownsRow V4.heap.size 2 1 (.slice a1 o.f.length c1) (mvN ss K 0 o).f.length (icells (mvN ss K 0 o).f)) := hidIt (by rw [mvN_zero]; exact own_wk ho1 (Nat.le_of_lt hsX1))
              have HR1 := hidIt hr1
              have x2 : X2.cell? ⟨V4.heap.size, 2, none⟩ = some (.slice ua o.f.length uc) := cell_of_row X2 V4.heap.size 2 _ _ (0, 0) hBX2
              clear hx GF GC GX GI hkc hb1 hb12 hb2 hBX1 hBX2 hLV hE ho1 st1 hbw1 hr1 hsX1
              subst hX2
              subst hX1
              have HX2c := hidIt x2
              clear x2
              go_upto_region 24 with (go_at_call 45; refine GF2.out.mono ?_; rintro e w' ⟨rfl, hww⟩; cases hww)
              clear d0 d1 d2 d3 k0 GF2
              generalize V4.alloc (.cells #[.int .i64 ((p : Int) + 1), .int .i64 o.sh, .slice ua o.f.length uc, .int .i64 o.tag] 84) = X1 at *
              have x2 := HX2c.out
              clear HX2c
              go_upto_region 25 with (at_builtin; refine wpList_append_is rfl _ _ rfl rfl rfl HR1.out ?_)
              clear HR1 x2
              have hfl : o.f.length ≤ c1 ∧ c1 ≤ 9223372036854775807 := by
                have := own_cap (by have := HF1.out; rw [mvN_len] at this; exact this)
                unfold maxLen at this; omega
              obtain ⟨hc1, hc2⟩ := hfl
              have HF0 : Hid (w1.ownsRow V4.heap.size 2 1 (.slice a1 o.f.length c1) o.f.length (icells (mvN ss K 0 o).f)) := hidIt (by have := HF1.out; rw [mvN_len] at this; exact this)
              clear HF1
              go_wp2_with fail
              go_loopw [16] (fun kv W => ∃ (k : Nat), k ≤ o.f.length ∧ kv = .int .i64 (k : Int) ∧ W.ownsRow V4.heap.size 2 1 (.slice a1 o.f.length c1) o.f.length (icells (mvN ss K k o).f) ∧ W.heap[V4.heap.size]? = some (.cells #[.int .i64 ((p : Int) + 1), .int .i64 o.sh, .slice ua o.f.length uc, .int .i64 o.tag] 84 (0, 0)) ∧ Below V4.heap.size V4 W) (fun kv _ => o.f.length - (intOf kv).toNat)
              case atStart => exact ⟨0, Nat.zero_le _, rfl, HF0.out, HBX1.out, HBW1.out⟩
              case round =>
                clear HF0 HBX1 HBW1
                obtain ⟨k, hk, rfl, hf, hbx, hb4⟩ := hrel
                obtain ⟨W5, hW5⟩ : ∃ V, V = wr := ⟨wr, rfl⟩
                subst hW5
                have HF := hidIt hf
                have HBX := hidIt hbx
                have HB4 := hidIt hb4
                have HB5 : Hid (Below w.heap.size w W5) := hidIt (HB.out.trans (hb4.mono hz))
                have k0 := HKC2.out W5 HB5.out
                clear hf hbx hb4
                by_cases hkl : k < o.f.length
                · have hkl' : (k : Int) < (o.f.length : Int) := by omega
                  obtain ⟨x, hxk⟩ : ∃ x, o.f[k]? = some x := ⟨o.f[k], List.getElem?_eq_getElem hkl⟩
                  have hmk : (mvN ss K k o).f[k]? = some x := by rw [mvN_at, hxk]; simp
                  obtain ⟨fb, rfl, hfb, hfl, cx, fz⟩ := own_cell HF.out (icells_at hmk)
                  have GI2 := hidIt (HGI.out W5 k hkl HB5.out)
                  have HXB : Hid (rb ss o.sh k = true → 0 ≤ x ∧ x ≤ usedN l) := hidIt (fun a => HR.out.bound (HK.out.here HX.out) hxk a)
                  have HNO : Hid (rb ss o.sh k = false → mvN ss K (k + 1) o = mvN ss K k o) := hidIt mvN_no
                  have HYES : Hid (rb ss o.sh k = true → (mvN ss K k o).f.set k (toA 0 K x.toNat) = (mvN ss K (k + 1) o).f) := hidIt (mvF_step hxk)
                  have HNZ : Hid (x = 0 → (mvN ss K (k + 1) o).f = (mvN ss K k o).f) := hidIt (fun e => by
                    apply List.ext_getElem?
                    intro m
                    rw [mvN_at, mvN_at]
                    by_cases em : m = k
                    · subst em; rw [hxk, e]; simp [toA_zero l K 0]
                    · cases o.f[m]? with
                      | none => rfl
                      | some v => have : (m < k + 1) ↔ (m < k) := by omega
                                  simp [this])
                  have HCX := hidIt cx
                  have HFZ := hidIt fz
                  have HLD : Hid (rb ss o.sh k = true → leadK K x = true) := hidIt (fun a => by
                    have h1 : okO ss K o = true := by
                      have := HOKK.out
                      unfold okK at this
                      rw [List.all_eq_true] at this
                      exact this _ (List.mem_of_getElem? HX.out)
                    unfold okO at h1
                    rw [List.all_eq_true] at h1
                    have h2 := h1 k (by simpa using hkl)
                    rw [a, hxk] at h2
                    simpa using h2)
                  clear hxk hmk cx fz
                  cases er : rb ss o.sh k with
                  | false =>
                    rw [er] at GI2
                    have N2 := hidIt (HNO.out er)
                    clear er HXB HNO HYES HNZ
                    go_wp2_with (go_at_call 46; refine GI2.out.mono ?_; rintro e w5 ⟨rfl, q5, rfl⟩)
                    exact ⟨⟨k + 1, by omega, by go_num, by rw [N2.out]; exact own_kept HF.out (fun _ _ => rfl), HBX.out, below_drewN HB4.out q5⟩, by simp [intOf]; omega⟩
                  | true =>
                    rw [er] at GI2
                    have hxb := HXB.out er
                    by_cases hx0 : x = 0
                    · have N2 := hidIt (HNZ.out hx0)
                      have hx0' : (x != 0) = false := by simpa using hx0
                      clear er HXB hxb HNO HYES HNZ
                      subst hx0
                      go_wp2_with (go_at_call 46; refine GI2.out.mono ?_; rintro e w5 ⟨rfl, q5, rfl⟩; have dx : (W5.drewN q5).cell? ⟨fb, k, none⟩ = some (.int .i64 0) := HCX.out)
                      exact ⟨⟨k + 1, by omega, by go_num, by rw [N2.out]; exact own_kept HF.out (fun _ _ => rfl), HBX.out, below_drewN HB4.out q5⟩, by simp [intOf]; omega⟩
                    · have hx0' : (x != 0) = true := by simpa using hx0
                      have N2 := hidIt (HYES.out er)
                      have hlead := HLD.out er
                      have hta : toA 0 K x.toNat ≠ 0 := fun e => by
                        unfold leadK at hlead
                        rw [e] at hlead
                        simp [hx0] at hlead
                      obtain ⟨i', p', o', -, hh, hil, hbg⟩ := toA_has HK.out hxb.1 hta
                      have hoo := HO.out
                      unfold NOwn at hoo
                      rw [hblk] at hoo
                      obtain ⟨tg, rfl, -, -, dt, -⟩ := own_cell hoo (icells_at hbg)
                      have HDT : Hid (∀ q, (W5.drewN q).cell? ⟨tg, i', none⟩ = some (.int .i64 (toA 0 K x.toNat))) := hidIt (fun q => cell_later (below_drewN HB4.out q) dt)
                      have HAS2 := hidIt (fun q => HAS.out (W5.drewN q) x (below_drewN HB5.out q))
                      rw [hh] at HAS2
                      have hil' : (i' : Int) < (K.length : Int) := by omega
                      have FIN : Hid (∀ q, ((W5.drewN q).setCell ⟨fb, k, none⟩ (.int .i64 (toA 0 K x.toNat))).ownsRow V4.heap.size 2 1 (.slice (some ⟨fb, 0, none⟩) o.f.length c1) o.f.length (icells (mvN ss K (k + 1) o).f) ∧ ((W5.drewN q).setCell ⟨fb, k, none⟩ (.int .i64 (toA 0 K x.toNat))).heap[V4.heap.size]? = some (.cells #[.int .i64 ((p : Int) + 1), .int .i64 o.sh, .slice ua o.f.length uc, .int .i64 o.tag] 84 (0, 0)) ∧ Below V4.heap.size V4 ((W5.drewN q).setCell ⟨fb, k, none⟩ (.int .i64 (toA 0 K x.toNat)))) := hidIt (fun q => ⟨by
                        rw [← N2.out]
                        have := own_set (j := k) (own_kept (w' := W5.drewN q) HF.out (fun _ _ => rfl)) (.int .i64 (toA 0 K x.toNat))
                        rwa [show (icells (mvN ss K k o).f).set k (.int .i64 (toA 0 K x.toNat)) = icells ((mvN ss K k o).f.set k (toA 0 K x.toNat)) by simp [icells, List.map_set]] at this,
                        (heap_setCell_other (W5.drewN q) ⟨fb, k, none⟩ V4.heap.size _ (fun e => by
                          have := own_not HF.out (show Blk W5 V4.heap.size _ _ from HBX.out) (by decide)
                          exact this (by rw [e]; rfl))).trans HBX.out, (below_drewN HB4.out q).setCell hfb _⟩)
                      clear er HXB hxb HNO HYES HNZ N2 hlead hta hbg hoo dt hh HLD hx0
                      generalize toA 0 K x.toNat = y at *
                      go_wp2_with (first
                        | (go_at_call 46; refine GI2.out.mono ?_; rintro e w5 ⟨rfl, q5, rfl⟩; have dx : (W5.drewN q5).cell? ⟨fb, k, none⟩ = some (.int .i64 x) := HCX.out; have dz : (W5.drewN q5).frozen? ⟨fb, k, none⟩ = false := HFZ.out; have dt := HDT.out q5)
                        | (go_at_call 48; refine (HAS2.out _).mono ?_; rintro e w6 ⟨rfl, hww⟩; cases hww))
                      exact ⟨⟨k + 1, by omega, by go_num, FIN.out q5⟩, by simp [intOf]; omega⟩
                · have hkl' : ¬ (k : Int) < (o.f.length : Int) := by omega
                  obtain rfl : k = o.f.length := by omega
                  have hjo : (obsM ss K)[j]? = some (mvO ss K o) := obsM_at HX.out
                  have hmt : (obsM ss K).take (j + 1) = (obsM ss K).take j ++ [mvO ss K o] := take_snoc hjo
                  have hll : ((obsM ss K).take j).length = j := by rw [List.length_take, obsM_len]; omega
                  have hus : usedN ((obsM ss K).take j) = usedN ((obsK K).take j) := usedN_obsM ss K j
                  have hbj := begs_at (obsK K) 0 j (by rw [obsK_len]; exact hlt)
                  rw [Nat.zero_add] at hbj
                  have hO5 : NOwn W5 w.heap.size (.slice ao2 K.length cap2) (begs 0 (obsK K)) := own_below HO.out HB4.out
                  have hO6 := hO5
                  unfold NOwn at hO6
                  rw [hblk] at hO6
                  obtain ⟨tg, rfl, -, -, dt, -⟩ := own_cell hO6 (icells_at hbj)
                  have e1 := cell_of_row W5 V4.heap.size 1 _ _ (0, 0) HBX.out
                  have e3 := cell_of_row W5 V4.heap.size 3 _ _ (0, 0) HBX.out
                  have e1 : W5.cell? ⟨V4.heap.size, 1, none⟩ = some (.int .i64 o.sh) := e1
                  have e3 : W5.cell? ⟨V4.heap.size, 3, none⟩ = some (.int .i64 o.tag) := e3
                  obtain ⟨Y, hY⟩ : ∃ Y, Y = (W5.alloc (.cells #[.int .i64 ((usedN ((obsK K).take j) : Int) + 1), .int .i64 o.sh, .slice a1 o.f.length c1, .int .i64 o.tag] 84)).drew := ⟨_, rfl⟩
                  have hbY : Below W5.heap.size W5 Y := by rw [hY]; exact (balloc _ _).drew
                  have hbY4 : Below V4.heap.size V4 Y := HB4.out.trans (hbY.mono HB4.out.size)
                  have hY1 : Y.heap[W5.heap.size]? = some (.cells #[.int .i64 ((usedN ((obsK K).take j) : Int) + 1), .int .i64 o.sh, .slice a1 o.f.length c1, .int .i64 o.tag] 84 (0, 0)) := by rw [hY]; exact heap_alloc_new W5 _
                  have hoY := (HNL.out.below hbY4).row
                  rw [hll] at hoY
                  obtain ⟨iO, hO, hO0, hO1, hO2⟩ := info_parts Try.infoO
                  obtain ⟨v2, w2, hr2, h2, hg2, _, hat2⟩ := run_append_own_at (P := Try.prog) Y w.heap.size 79 79 84 iO _ 4 48 Try.underlying79 hO hO0 hO1 hO2 rfl (by decide) (.slice al j cl) j _ hoY ⟨W5.heap.size, 0, none⟩ 1 1 (ocell (usedN ((obsM ss K).take j)) (mvO ss K o) (.slice a1 o.f.length c1)) rfl (fun m u hm => by
                    have e : (⟨W5.heap.size, 0, none⟩ : Addr).add m = ⟨W5.heap.size, m, none⟩ := by unfold Addr.add; split <;> simp_all
                    rw [e, cell_of_row Y W5.heap.size m _ _ (0, 0) hY1]
                    rw [hus] at hm
                    match m, hm with
                    | 0, hm => exact hm
                    | 1, hm => exact hm
                    | 2, hm => exact hm
                    | 3, hm => exact hm) (fun u hu => by
                    simp only [ocell, List.mem_cons, List.not_mem_nil, or_false] at hu
                    rcases hu with rfl | rfl | rfl | rfl <;> rfl) (by unfold maxLen; omega) (by omega) (Nat.le_trans hz hbY4.size)
                  obtain ⟨a2, c2, e2⟩ := own_slice h2
                  subst e2
                  have FIN : Hid (NL w.heap.size w2 (.slice a2 (j + 1) c2) (fvs ++ [.slice a1 o.f.length c1]) ((obsM ss K).take (j + 1)) ∧ NOwn w2 w.heap.size (.slice (some ⟨tg, 0, none⟩) K.length cap2) (begs 0 (obsK K)) ∧ Below w.heap.size w w2) := hidIt (by
                    refine ⟨?_, own_kept (own_below hO5 hbY) (fun b e => hg2.block b ((own_below hO5 hbY).lt b e).2 (fun e' => own_apart (own_below hO5 hbY) hoY (by decide) e e'.symm)), (HB.out.trans (hbY4.mono hz)).grown hg2 (Nat.le_trans hz hbY4.size) (fun b e => (hoY.lt b e).1)⟩
                    rw [hmt]
                    refine HNL.out.push hz (mvO ss K o) hbY4 ?_ (by rw [hll]; exact h2) hg2
                    have := own_below HF.out hbY
                    rw [mvO_len]
                    exact this)
                  have HR2 := hidIt hr2
                  clear h2 hg2 hat2 hoY hbY hbY4 hY1 hO hO0 hO1 hO2 hr2 hO5 hO6 hbj hjo hmt hll hus HF HBX
                  subst hY
                  generalize (usedN ((obsK K).take j) : Int) + 1 = av at *
                  go_upto_region 30 with (fail)
                  go_region_law (refine op_append rfl rfl rfl rfl HR2.out ?_)
                  all_goals go_wp2_with fail
                  all_goals exact ⟨⟨j + 1, _, a2, c2, by omega, by go_num, rfl, FIN.out⟩, by simp [intOf]; omega⟩
            · have hlt' : ¬ (j : Int) < (K.length : Int) := by omega
              obtain rfl : j = K.length := by omega
              have e1 : (obsM ss K).take K.length = obsM ss K := by rw [← obsM_len ss K, List.take_length]
              rw [e1] at HNL
              have e2 : usedN (obsM ss K) = usedN (obsK K) := by
                have := usedN_obsM ss K K.length
                rwa [show (obsK K).take K.length = obsK K by rw [← obsK_len, List.take_length], e1] at this
              have hIN := HH.out.install HB.out HNL.out (HH.out.wf.kept HK.out) (by rw [e2]; have := HK.out.within; have := HH.out.few; omega)
              have hOI : NOwn (V4.setCell ⟨R.rb, 1, none⟩ (.slice al K.length cl)) w.heap.size (.slice ao2 K.length cap2) (begs 0 (obsK K)) := own_kept HO.out (fun b e => heap_setCell_other V4 ⟨R.rb, 1, none⟩ b _ (by have := (HO.out.lt b e).1; have := HH.out.box.lt; show b ≠ R.rb; omega))
              have FIN := hidIt (QYES.out _ _ HOKK.out ⟨_, hOI, hIN.1, hIN.2⟩)
              have y1 : V4.cell? ⟨R.rb, 1, none⟩ = some R.lv := (HH.out.below HB.out).box.cell 1
              have z1 : V4.frozen? ⟨R.rb, 1, none⟩ = false := (HH.out.below HB.out).box.frozen 1
              clear hIN hOI HNL HO e1 e2 HKR HAS HVk
              go_wp2_with fail
              exact FIN.out
end Go.Proofs.Ytepegebkjegjiaa.J

