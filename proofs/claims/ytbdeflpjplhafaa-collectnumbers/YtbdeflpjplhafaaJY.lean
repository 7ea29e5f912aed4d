/- Slide: walked. -/
import Derived.Test.YtbdeflpjplhafaaJX
namespace Go.Proofs.Ytbdeflpjplhafaa.J
open Go.RowKit Go.MapKept Go.ChangeMaps
set_option linter.unusedVariables false

variable {n0 : Nat} {w : World} {H : HB} {most : Nat} {l : List Ob} {ss : List (List Bool)} {K : List (Nat × Ob)}
theorem toA_mem : ∀ (K : List (Nat × Ob)) (q j : Nat), toA q K j ≠ 0 → ∃ (i p : Nat) (o : Ob), K[i]? = some (p, o) ∧ p + 1 = j ∧ toA q K j = ((q + usedN ((obsK K).take i) : Nat) : Int) + 1
  | [], q, j, h => absurd rfl h
  | (p, o) :: K, q, j, h => by
    unfold toA at h ⊢
    by_cases e : p + 1 = j
    · rw [if_pos e]
      exact ⟨0, p, o, rfl, e, by simp [usedN]⟩
    · rw [if_neg e] at h ⊢
      obtain ⟨i, p', o', h1, h2, h3⟩ := toA_mem K _ j h
      refine ⟨i + 1, p', o', by simpa using h1, h2, ?_⟩
      rw [h3]
      simp only [obsK, List.map_cons, List.take_succ_cons, usedN]
      congr 2
      omega
theorem obsM_nth {p : Nat} {o : Ob} (h : atN (obsM ss K) p = some o) : ∃ (i q : Nat) (o0 : Ob), K[i]? = some (q, o0) ∧ o = mvO ss K o0 := by
  obtain ⟨i, h1, h2⟩ := atN_nth _ p o h
  simp only [obsM, List.getElem?_map, Option.map_eq_some_iff] at h1
  obtain ⟨⟨q, o0⟩, hx, rfl⟩ := h1
  exact ⟨i, q, o0, hx, rfl⟩
theorem Wf.kept (h : Wf ss l) (hK : KOk l K) : Wf ss (obsM ss K) := by
  intro p o e
  obtain ⟨i, q, o0, hi, rfl⟩ := obsM_nth e
  rw [mvO_len]
  exact h q o0 (hK.here hi)
theorem RefsOk.kept (hok : okK ss K = true) : RefsOk ss (obsM ss K) := by
  intro p o e n x hx hr
  obtain ⟨i, q, o0, hi, rfl⟩ := obsM_nth e
  unfold mvO at hx
  rw [mvN_at] at hx
  obtain ⟨y, hy, rfl⟩ := Option.map_eq_some_iff.1 hx
  have hn := (List.getElem?_eq_some_iff.1 hy).1
  have hr0 : rb ss o0.sh n = true := hr
  rw [if_pos ⟨hn, hr0⟩]
  have h1 : okO ss K o0 = true := by
    unfold okK at hok
    rw [List.all_eq_true] at hok
    exact hok _ (List.mem_of_getElem? hi)
  unfold okO at h1
  rw [List.all_eq_true] at h1
  have h2 := h1 n (by simpa using hn)
  rw [hr0, hy] at h2
  simp only [Option.getD_some, Bool.not_true, Bool.false_or] at h2
  unfold leadK at h2
  by_cases h0 : toA 0 K y.toNat = 0
  · exact .inl h0
  · right
    obtain ⟨i', p', o', h3, h4, h5⟩ := toA_mem K 0 y.toNat h0
    rw [h5, Nat.zero_add, ← usedN_obsM ss K, objZ_nth (obsM_at h3)]
    rfl
theorem HStep.own {w' : World} {H' : HB} {ws : List Int} {bs : List Bool} (h : HeapR n0 w H most ws bs ss) (st : HStep H H' w w') {B e k n : Nat} {v : Value} {xs : List Value} (he : OT e) (ho : w.ownsRow B e k v n xs) : w'.ownsRow B e k v n xs :=
  own_kept ho fun g eg => by
    obtain ⟨c, fz, h'⟩ := Lib.ownsRow_kind ho g eg
    obtain ⟨t1, t2, t3, t4⟩ := he
    refine st.block g (Array.getElem?_eq_some_iff.1 h').1 (fun e => ?_)
    rcases e with rfl | rfl | e | e | e
    · have := h.box; unfold Blk at this; rw [h'] at this; cases this; exact t1 rfl
    · obtain ⟨es, cl, hm, _⟩ := h.map; rw [h'] at hm; cases hm
    · obtain ⟨c, fz', h2⟩ := Lib.ownsRow_kind h.wo g e; rw [h'] at h2; cases h2; exact t2 rfl
    · obtain ⟨c, fz', h2⟩ := Lib.ownsRow_kind h.bo g e; rw [h'] at h2; cases h2; exact t3 rfl
    · obtain ⟨c, fz', h2⟩ := Lib.ownsRow_kind h.so g e; rw [h'] at h2; cases h2; exact t4 rfl
theorem KV.of_own {ws : List Int} {bs : List Bool} (h : HeapR n0 w H most ws bs ss) {B : Nat} {v : Value} {ks : List Int} (ho : NOwn w B v ks) : KV w H v ks := fun H' W' st => NOwn.view (HStep.own h st (by unfold OT; decide) ho)
/-- What Slide leaves. -/
def SlQ (n0 : Nat) (w : World) (H : HB) (most : Nat) (ss : List (List Bool)) (K : List (Nat × Ob)) (v : Value) (w' : World) : Prop :=
  ∃ H', NOwn w' w.heap.size v (begs 0 (obsK K)) ∧ HeapV n0 w' H' most (obsM ss K) ss ∧ HStep H H' w w'
theorem Try.infoI8 : (Try.prog.info? 2).map (fun i => (i.zero, i.size, i.bytes)) = some (some (.int .i64 0), 1, 8) := by kernel_rfl
theorem made_zeros (T : Nat) : madeCells #[Value.int .i64 0] T = (icells (toL T [])).toArray := by
  apply Array.toList_inj.1
  rw [toList_madeCells_one, toL_nil]
  simp [icells]
set_option maxRecDepth 8000 in
set_option maxHeartbeats 4000000 in
theorem Slide_any (h : HeapV n0 w H most l ss) (hr : RefsOk ss l) (hK : KOk l K) (vk : Value) (hv : KV w H vk (keysK K)) :
    Calls Try.prog 33 #[H.ptr, vk] w fun e w' => (okK ss K = false ∧ e = .returned (.tuple #[.slice none 0 0, .int .i64 1]) ∧ Below w.heap.size w w') ∨ (okK ss K = true ∧ ∃ v, e = .returned (.tuple #[v, .int .i64 0]) ∧ SlQ n0 w H most ss K v w') := by
  obtain ⟨ao, cap, rfl, hc, hm, _⟩ := hv _ _ (HStep.refl H w)
  unfold maxLen at hm
  have hm2 : usedN l ≤ 16384 := Nat.le_trans h.few h.most
  obtain ⟨iI, hI, hI0, hI1, hI2⟩ := info_parts Try.infoI8
  have m1 : ∀ W : World, (Instr.makeSlice 84 (.int .i64 ((usedN l : Int) + 1)) (.int .i64 ((usedN l : Int) + 1))).run Try.prog W = .ok (.slice (some ⟨W.heap.size, 0, none⟩) (usedN l + 1) (usedN l + 1)) (W.alloc (.cells (icells (toL (usedN l + 1) [])).toArray 2)) := fun W => by
    have := run_make_row (P := Try.prog) 84 2 iI (.int .i64 0) Try.underlying84 hI hI0 hI1 rfl .i64 .i64 (usedN l + 1) (by rw [hI2]; omega) (by omega) W
    rw [made_zeros] at this
    rw [show ((usedN l + 1 : Nat) : Int) = (usedN l : Int) + 1 by omega] at this
    exact this
  clear hI hI0 hI1 hI2
  have GU := hidIt (used_any h)
  have SV1 : Hid (SV w.heap.size ((w.alloc (.cells (icells (toL (usedN l + 1) [])).toArray 2)).alloc (.cells #[.pointer (some ⟨H.hb, 0, none⟩), .slice (some ⟨w.heap.size, 0, none⟩) (usedN l + 1) (usedN l + 1)] 107)) (w.heap.size + 1) w.heap.size H.hb (toL (usedN l + 1) [])) := hidIt ⟨by omega, Nat.le_refl _, by
      have := Blk.new (w.alloc (.cells (icells (toL (usedN l + 1) [])).toArray 2)) #[.pointer (some ⟨H.hb, 0, none⟩), .slice (some ⟨w.heap.size, 0, none⟩) (usedN l + 1) (usedN l + 1)] 107
      rw [World.size_alloc] at this
      rw [toL_len]
      exact this, by
      have := Blk.new w (icells (toL (usedN l + 1) [])).toArray 2
      exact this.kept (Below.heap_alloc _ _ _ (by simp))⟩
  have HB1 : Hid (Below w.heap.size w ((w.alloc (.cells (icells (toL (usedN l + 1) [])).toArray 2)).alloc (.cells #[.pointer (some ⟨H.hb, 0, none⟩), .slice (some ⟨w.heap.size, 0, none⟩) (usedN l + 1) (usedN l + 1)] 107))) := hidIt (((Below.refl _ w).alloc (Nat.le_refl _) _).alloc (by simp) _)
  unfold HB.ptr at GU ⊢
  go_enter Try.func33, Try.ntmps33
  go_upto_region 2 with (go_at_call 11; refine GU.out.mono ?_; rintro e w' ⟨rfl, hww⟩; cases hww)
  generalize (w.alloc (.cells (icells (toL (usedN l + 1) [])).toArray 2)).alloc (.cells #[.pointer (some ⟨H.hb, 0, none⟩), .slice (some ⟨w.heap.size, 0, none⟩) (usedN l + 1) (usedN l + 1)] 107) = w1 at *
  clear m1 GU
  have HVb := hidIt hv
  have HH := hidIt h
  have HR := hidIt hr
  have HK := hidIt hK
  have hlo := h.lt (.inl rfl)
  have GP := hidIt (plan_any h hK (.slice ao (keysK K).length cap) (hv _ _ (HStep.refl H w)) HB1.out SV1.out)
  clear h hr hK hv
  have GLd : Hid (∀ W, Below w.heap.size w W → SV w.heap.size W (w.heap.size + 1) w.heap.size H.hb (toL (usedN l + 1) K) → Calls Try.prog 55 #[.pointer (some ⟨w.heap.size + 1, 0, none⟩), .slice ao (keysK K).length cap, .func (.func 56) #[.pointer (some ⟨w.heap.size + 1, 0, none⟩)] #[]] W fun e w' => e = .returned (.bool (okK ss K)) ∧ w' = W) := hidIt (fun W hb sv => leads_any HH.out HR.out HK.out _ (HVb.out _ _ (HStep.refl H w)) hb sv)
  have GFo : Hid (∀ W, Below w.heap.size w W → SV w.heap.size W (w.heap.size + 1) w.heap.size H.hb (toL (usedN l + 1) K) → Calls Try.prog 55 #[.pointer (some ⟨w.heap.size + 1, 0, none⟩), .slice ao (keysK K).length cap, .func (.func 57) #[.pointer (some ⟨w.heap.size + 1, 0, none⟩)] #[]] W fun e w' => e = .returned (.bool true) ∧ ∃ lc, HeapV n0 w' H most lc ss ∧ Fol ss K l lc K.length 0 ∧ HStep H H W w') := hidIt (fun W hb sv => follows_any HH.out HR.out HK.out _ HVb.out hb sv)
  cases hok : okK ss K with
  | false =>
    rw [hok] at GLd
    have HOK := hidIt hok
    clear hok GFo
    go_wp2_with (first
      | (go_at_call 54; refine GP.out.mono ?_; rintro e w2 ⟨v2, rfl, ho2, sv2, hb2⟩; have HB2 := hidIt hb2; have GL2 := hidIt (GLd.out w2 hb2 sv2); clear ho2 sv2 hb2 GP)
      | (go_at_call 55; refine GL2.out.mono ?_; rintro e w' ⟨rfl, hww⟩; cases hww))
    go_ret2
    exact .inl ⟨HOK.out, rfl, HB2.out⟩
  | true =>
    rw [hok] at GLd
    have HOK := hidIt hok
    clear hok
    go_wp2_with (first
      | (go_at_call 54; refine GP.out.mono ?_; rintro e w2 ⟨v2, rfl, ho2, sv2, hb2⟩; have HB2 := hidIt hb2; have HO2 := hidIt ho2; have GL2 := hidIt (GLd.out w2 hb2 sv2); have GF2 := hidIt (GFo.out w2 hb2 sv2); clear ho2 sv2 hb2 GP GLd GFo)
      | (go_at_call 55; refine GL2.out.mono ?_; rintro e w' ⟨rfl, hww⟩; cases hww; clear GL2)
      | (go_at_call 55; refine GF2.out.mono ?_; rintro e w3 ⟨rfl, lc, hh3, hf3, hs3⟩; have HH3 := hidIt hh3; have HF3 := hidIt hf3; have HS3 := hidIt (HStep.trans (HStep.of_below (H := H) HB2.out) hs3); have HO3 : Hid (NOwn w3 w.heap.size v2 (begs 0 (obsK K))) := hidIt (HStep.own (HH.out.below HB2.out).raw hs3 (by unfold OT; decide) HO2.out); clear hh3 hf3 hs3 GF2))
    obtain ⟨ao2, cap2, e2⟩ := own_slice HO3.out
    have hbl : (begs 0 (obsK K)).length = K.length := by rw [begs_len, obsK_len]
    rw [hbl] at e2
    subst e2
    have hkl := keysK_len K
    have hkl' := hidIt hkl
    have hcc : K.length ≤ cap := by omega
    have HKV : Hid (∀ W', HStep H H w3 W' → NView W' (.slice ao K.length cap) (keysK K)) := hidIt (fun W' st => by have := HVb.out _ _ (HS3.out.trans st); rwa [hkl'.out] at this)
    rw [hkl]
    clear hkl hbl hc HVb
    have M0 : Hid (Mvd ss K (wsL lc) (wsL lc) 0) := hidIt Mvd.start
    have HR3 := hidIt HH3.out.raw
    have hul : usedN lc ≤ 16384 := by rw [HF3.out.used]; exact hm2
    go_loopw [37] (fun iv wr => ∃ (k : Nat) (ws : List Int), k ≤ K.length ∧ iv = .int .i64 (k : Int) ∧ HeapR n0 wr H most ws (bsL lc) ss ∧ Mvd ss K (wsL lc) ws k ∧ HStep H H w3 wr ∧ NOwn wr w.heap.size (.slice ao2 K.length cap2) (begs 0 (obsK K))) (fun iv _ => K.length - (intOf iv).toNat)
    case atStart => exact ⟨0, _, Nat.zero_le _, rfl, HR3.out, M0.out, HStep.refl _ _, HO3.out⟩
    case round =>
      clear M0 HR3 HO3
      obtain ⟨k, ws, hk, rfl, hr, hm, hst, ho⟩ := hrel
      have HR := hidIt hr
      have HM := hidIt hm
      have HS := hidIt hst
      have HO := hidIt ho
      clear hr hm hst ho
      have hwl : ws.length = usedN lc := by rw [HM.out.len, wsL_len]
      have hbsl : (bsL lc).length = usedN lc := bsL_len lc
      by_cases hlt : k < K.length
      · have hlt' : (k : Int) < (K.length : Int) := by omega
        obtain ⟨⟨p, o⟩, hx⟩ : ∃ x, K[k]? = some x := ⟨K[k], List.getElem?_eq_getElem hlt⟩
        obtain ⟨g, off, rfl, c0⟩ := (HKV.out _ HS.out).row (keysK_at hx)
        have hbg := begs_at (obsK K) 0 k (by rw [obsK_len]; exact hlt)
        rw [Nat.zero_add] at hbg
        have hoo := HO.out
        unfold NOwn at hoo
        rw [show (begs 0 (obsK K)).length = K.length by rw [begs_len, obsK_len]] at hoo
        obtain ⟨g2, rfl, -, -, c1, -⟩ := own_cell hoo (icells_at hbg)
        have hat := HF3.out.before k p o hx hlt
        have h1 := atN_lt lc p _ hat
        rw [mvO_len] at h1
        have hb1 := bsL_at lc p (by omega)
        rw [hat] at hb1
        have hw1 := wsL_at lc p _ hat 1 (o.f.length : Int) (by simp [obW, mvO_len])
        rw [← HM.out.rest p o hx (p + 1) (by omega)] at hw1
        have GM := hidIt (move_any HR.out (by omega) (by omega) hb1 hw1 (by omega) (HK.out.place k p o hx))
        have NX := hidIt (HM.out.step HK.out HF3.out hx)
        unfold HB.ptr at GM
        clear hoo hat hb1 hw1 hbg hx h1
        generalize (usedN ((obsK K).take k) : Int) + 1 = v at *
        go_wp2_with (go_at_call 58; refine GM.out.mono ?_; rintro e w5 ⟨⟨u, rfl⟩, hr5, hs5⟩; have HR5 := hidIt hr5; have HS5 := hidIt (HS.out.trans hs5); have HO5 : Hid (NOwn w5 w.heap.size (.slice (some ⟨g2, 0, none⟩) K.length cap2) (begs 0 (obsK K))) := hidIt (HStep.own HR.out hs5 (by unfold OT; decide) HO.out); clear hr5 hs5 GM)
        exact ⟨⟨k + 1, _, by omega, by go_num, HR5.out, NX.out, HS5.out, HO5.out⟩, by simp [intOf]; omega⟩
      · have hlt' : ¬ (k : Int) < (K.length : Int) := by omega
        obtain rfl : k = K.length := by omega
        have hwi := HK.out.within
        have e1 : usedN (obsM ss K) = usedN (obsK K) := by
          have := usedN_obsM ss K K.length
          rwa [show (obsK K).take K.length = obsK K by rw [← obsK_len, List.take_length], show (obsM ss K).take K.length = obsM ss K by rw [← obsM_len ss K, List.take_length]] at this
        have hfu := HF3.out.used
        have GC := hidIt (cut_any HR.out (by omega) (by omega) (obsM ss K) (by omega) (.slice ao2 K.length cap2) (KV.of_own HR.out (by rw [begs_obsM]; exact HO.out)))
        rw [e1] at GC
        have HEN := hidIt HM.out.end_
        have FIN : Hid (∀ H' w', HeapR n0 w' H' most (ws.take (usedN (obsK K))) (bsL (obsM ss K)) ss → HStep H H' wr w' → SlQ n0 w H most ss K (.slice ao2 K.length cap2) w') := hidIt (fun H' w' a b => ⟨H', HStep.own HR.out b (by unfold OT; decide) HO.out, by
          rw [HEN.out] at a
          exact a.heap (HH.out.wf.kept HK.out) (by rw [e1]; have := HH.out.few; omega) HH.out.most, (HS3.out.trans HS.out).trans b⟩)
        unfold HB.ptr at GC
        clear e1 hfu hwi HEN HM HH3 HF3 HKV
        go_wp2_with (go_at_call 59; refine GC.out.mono ?_; rintro e w5 ⟨⟨u, rfl⟩, H5, hr5, hs5⟩; have FF := hidIt (FIN.out H5 w5 hr5 hs5); clear hr5 hs5 GC)
        go_ret2
        exact .inr ⟨HOK.out, _, rfl, FF.out⟩
end Go.Proofs.Ytbdeflpjplhafaa.J

