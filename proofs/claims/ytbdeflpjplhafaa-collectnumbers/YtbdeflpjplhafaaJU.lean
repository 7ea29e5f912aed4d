/- follow, and all that follows: walked. -/
import Derived.Test.YtbdeflpjplhafaaJT
namespace Go.Proofs.Ytbdeflpjplhafaa.J
open Go.RowKit Go.MapKept Go.ChangeMaps
set_option linter.unusedVariables false

variable {n0 n1 : Nat} {w W : World} {H : HB} {most : Nat} {l : List Ob} {ss : List (List Bool)} {K : List (Nat × Ob)} {sb tb : Nat} {cur : List Int}
set_option maxRecDepth 8000 in
theorem follow_any (h : HeapV n0 W H most l ss) (sv : SV n1 W sb tb H.hb cur) (hcl : cur.length ≤ 20000) {v n : Int} (hn : hasZ l v n = true) {x y : Int} (hx : getZ l v n = x) (hx0 : 0 ≤ x) (hy : cur[x.toNat]? = some y) :
    Calls Try.prog 57 #[.pointer (some ⟨sb, 0, none⟩), .int .i64 (v + 2 + n)] W fun e w' => e = .returned (.bool true) ∧ HeapV n0 w' H most (setL l v n y) ss ∧ HStep H H W w' := by
  obtain ⟨g, cap, j, ew, -, -, ej, hj, hc, hz, -, -, -, -⟩ := h.field hn
  have FIN := hidIt (h.set hn y ew ej)
  have FIN2 : Hid (∀ q, HeapV n0 ((W.drewN q).setCell ⟨g, j, none⟩ (.int .i64 y)) H most (setL l v n y) ss ∧ HStep H H W ((W.drewN q).setCell ⟨g, j, none⟩ (.int .i64 y))) := hidIt (fun q => by
    obtain ⟨a, b⟩ := FIN.out
    exact ⟨a.kept (fun _ _ => rfl), ⟨b.os, b.tape, b.output, b.size, b.block, b.hb, b.moved⟩⟩)
  rw [hx] at hc
  have x0 := sv.c0
  have x1 := sv.c1
  obtain ⟨z1, -⟩ := sv.at_ hy
  have c1 : W.cell? ⟨H.hb, 1, none⟩ = some H.wv := h.box.cell 1
  rw [ew] at c1
  have hU : usedN l ≤ 16384 := Nat.le_trans h.few h.most
  have hj' : (j : Int) < (usedN l : Int) := by omega
  rw [ej]
  have hyl := (List.getElem?_eq_some_iff.1 hy).1
  obtain ⟨k, rfl⟩ : ∃ k : Nat, x = (k : Int) := ⟨x.toNat, by omega⟩
  simp only [Int.toNat_natCast] at z1 hyl
  have hkl : (k : Int) < (cur.length : Int) := by omega
  generalize cur.length = T at *
  generalize usedN l = U at *
  clear hx ej hy FIN
  go_enter Try.func57, Try.ntmps57
  go_wp2_with fail
  go_region
  go_wp2_with fail
  go_ret
  exact ⟨rfl, FIN2.out 1⟩
/-- How far the references of what is kept were turned. -/
structure Fol (ss : List (List Bool)) (K : List (Nat × Ob)) (l lc : List Ob) (k n : Nat) : Prop where
  used : usedN lc = usedN l
  before : ∀ (i p : Nat) (o : Ob), K[i]? = some (p, o) → i < k → atN lc p = some (mvO ss K o)
  here : ∀ (p : Nat) (o : Ob), K[k]? = some (p, o) → atN lc p = some (mvN ss K n o)
  behind : ∀ (i p : Nat) (o : Ob), K[i]? = some (p, o) → k < i → atN lc p = some o
theorem Fol.start (hK : KOk l K) : Fol ss K l l 0 0 := ⟨rfl, fun _ _ _ _ h => absurd h (by omega), fun p o h => by rw [mvN_zero]; exact hK.here h, fun i p o h _ => hK.here h⟩
variable {lc : List Ob} {k n : Nat}
theorem Fol.next (h : Fol ss K l lc k n) {p : Nat} {o : Ob} (hi : K[k]? = some (p, o)) (hn : n = o.f.length) : Fol ss K l lc (k + 1) 0 := by
  refine ⟨h.used, fun i p' o' hi' hlt => ?_, fun p' o' hi' => by rw [mvN_zero]; exact h.behind _ p' o' hi' (Nat.lt_succ_self k), fun i p' o' hi' hlt => h.behind i p' o' hi' (by omega)⟩
  by_cases e : i = k
  · subst e
    rw [hi] at hi'
    cases hi'
    have := h.here p o hi
    rw [hn] at this
    exact this
  · exact h.before i p' o' hi' (by omega)
theorem Fol.no (h : Fol ss K l lc k n) {p : Nat} {o : Ob} (hi : K[k]? = some (p, o)) (hr : rb ss o.sh n = false) : Fol ss K l lc k (n + 1) :=
  ⟨h.used, h.before, fun p' o' hi' => by
    rw [hi] at hi'
    cases hi'
    rw [mvN_no hr]
    exact h.here p o hi, h.behind⟩
theorem Fol.yes (hK : KOk l K) (h : Fol ss K l lc k n) {p : Nat} {o : Ob} {x : Int} (hi : K[k]? = some (p, o)) (hx : o.f[n]? = some x) (hr : rb ss o.sh n = true) : Fol ss K l (setL lc ((p : Int) + 1) (n : Int) (toA 0 K x.toNat)) k (n + 1) := by
  have hg : ∀ o' : Ob, (setF n (toA 0 K x.toNat) o').f.length = o'.f.length := fun o' => setF_len _ _ o'
  have e0 : setL lc ((p : Int) + 1) (n : Int) (toA 0 K x.toNat) = modN (setF n (toA 0 K x.toNat)) lc p := by
    unfold setL
    rw [show ((p : Int) + 1 - 1).toNat = p by omega, Int.toNat_natCast]
  rw [e0]
  refine ⟨by rw [usedN_mod _ hg]; exact h.used, fun i p' o' hi' hlt => ?_, fun p' o' hi' => ?_, fun i p' o' hi' hlt => ?_⟩
  · rw [atN_mod _ hg, if_neg (by have := hK.lt hi' hi hlt; omega)]
    exact h.before i p' o' hi' hlt
  · rw [hi] at hi'
    cases hi'
    rw [atN_mod _ hg, if_pos rfl, h.here p o hi, Option.map_some, mvN_yes hx hr]
  · rw [atN_mod _ hg, if_neg (by have := hK.lt hi hi' hlt; omega)]
    exact h.behind i p' o' hi' hlt
theorem objZ_of_at {l : List Ob} {p : Nat} {o : Ob} (h : atN l p = some o) : objZ l ((p : Int) + 1) = some o := by
  unfold objZ
  rw [if_pos (by omega), show ((p : Int) + 1 - 1).toNat = p by omega]
  exact h
/-- A list that the heap's own steps leave alone. -/
def KV (w : World) (H : HB) (v : Value) (ks : List Int) : Prop := ∀ H' W', HStep H H' w W' → NView W' v ks
theorem SV.step {hb : Nat} {H' : HB} (h : HeapV n0 w H most l ss) (sv : SV w.heap.size W sb tb hb cur) {W' : World} (st : HStep H H' W W') : SV w.heap.size W' sb tb hb cur :=
  sv.kept (st.block _ sv.box.lt (fun e => by have := (h.lt e).2; have := sv.lo; omega)) (st.block _ sv.row.lt (fun e => by have := (h.lt e).2; have := sv.lot; omega))
set_option maxRecDepth 8000 in
set_option maxHeartbeats 4000000 in
theorem follows_any (h : HeapV n0 w H most l ss) (hr : RefsOk ss l) (hK : KOk l K) (vk : Value) (hv : KV w H vk (keysK K)) (hbl : Below w.heap.size w W) (sv : SV w.heap.size W sb tb H.hb (toL (usedN l + 1) K)) :
    Calls Try.prog 55 #[.pointer (some ⟨sb, 0, none⟩), vk, .func (.func 57) #[.pointer (some ⟨sb, 0, none⟩)] #[]] W fun e w' => e = .returned (.bool true) ∧ ∃ lc, HeapV n0 w' H most lc ss ∧ Fol ss K l lc K.length 0 ∧ HStep H H W w' := by
  obtain ⟨ao, cap, rfl, hc, hm, _⟩ := hv _ _ (HStep.refl H w)
  unfold maxLen at hm
  have hm2 : usedN l ≤ 16384 := Nat.le_trans h.few h.most
  have hkl : (keysK K).length = K.length := keysK_len K
  have HVk : Hid (∀ W', HStep H H W W' → NView W' (.slice ao (keysK K).length cap) (keysK K)) := hidIt (fun W' st => hv _ _ ((HStep.of_below hbl).trans st))
  have HSV : Hid (∀ W', HStep H H W W' → SV w.heap.size W' sb tb H.hb (toL (usedN l + 1) K)) := hidIt (fun W' st => sv.step h st)
  have GL : Hid (∀ (i p n : Nat) o lc W, K[i]? = some (p, o) → HeapV n0 W H most lc ss → Fol ss K l lc i n → Calls Try.prog 35 #[.pointer (some ⟨H.hb, 0, none⟩), .int .i64 ((p : Int) + 1)] W fun e w' => e = .returned (.int .i64 (o.f.length : Int)) ∧ w' = W) := hidIt (fun i p n o lc W hi hh hf => by
    have := Len_any hh ((p : Int) + 1)
    unfold lenZ at this
    rw [objZ_of_at (hf.here p o hi)] at this
    simp only [mvN_len] at this
    exact this)
  have GR : Hid (∀ (i p : Nat) o lc W, K[i]? = some (p, o) → ∀ n : Nat, n < o.f.length → HeapV n0 W H most lc ss → Fol ss K l lc i n → Calls Try.prog 49 #[.pointer (some ⟨H.hb, 0, none⟩), .int .i64 ((p : Int) + 1), .int .i64 (n : Int)] W fun e w' => e = .returned (.bool (rb ss o.sh n)) ∧ w' = W) := hidIt (fun i p o lc W hi n hn hh hf => by
    have := IsRef_any hh ((p : Int) + 1) (n : Int)
    rw [refZ_rb (objZ_of_at (hf.here p o hi)) (by rw [mvN_len]; exact hn)] at this
    exact this)
  have GF : Hid (∀ (i p : Nat) o, K[i]? = some (p, o) → ∀ n : Nat, n < o.f.length → ∀ W, Calls Try.prog 50 #[.int .i64 ((p : Int) + 1), .int .i64 (n : Int)] W fun e w' => e = .returned (.int .i64 ((p : Int) + 1 + 2 + (n : Int))) ∧ w' = W) := hidIt (fun i p o hi n hn W => by
    have := atN_lt l p o (hK.here hi)
    exact field_any _ _ W (by omega) (by omega) (by omega) (by omega))
  have GD : Hid (∀ (i p : Nat) o, K[i]? = some (p, o) → ∀ n : Nat, n < o.f.length → rb ss o.sh n = true → ∀ lc W', HeapV n0 W' H most lc ss → Fol ss K l lc i n → HStep H H W W' → Calls Try.prog 57 #[.pointer (some ⟨sb, 0, none⟩), .int .i64 ((p : Int) + 1 + 2 + (n : Int))] W' fun e w' => e = .returned (.bool true) ∧ (∃ lc', HeapV n0 w' H most lc' ss ∧ Fol ss K l lc' i (n + 1)) ∧ HStep H H W' w') := hidIt (fun i p o hi n hn hrb lc W' hh hf st => by
    obtain ⟨x, hx⟩ : ∃ x, o.f[n]? = some x := ⟨o.f[n], List.getElem?_eq_getElem hn⟩
    have ho := objZ_of_at (hf.here p o hi)
    have hfx : (mvN ss K n o).f[n]? = some x := by rw [mvN_at, hx]; simp
    have hg : getZ lc ((p : Int) + 1) (n : Int) = x := by unfold getZ; rw [ho]; simp [hfx]
    have hxb : 0 ≤ x ∧ x ≤ usedN l := by
      rcases hr p o (hK.here hi) n x hx hrb with e | e
      · omega
      · obtain ⟨o', ho'⟩ := Option.isSome_iff_exists.1 e
        have := objZ_in ho'
        omega
    have := follow_any hh (HSV.out _ st) (by rw [toL_len]; omega) (hasZ_of ho (by omega) (by rw [mvN_len]; omega)) hg hxb.1 (toL_at K (j := x.toNat) (by omega))
    exact this.mono fun e w' ⟨e1, e2, e3⟩ => ⟨e1, ⟨_, e2, hf.yes hK hi hx hrb⟩, e3⟩)
  have GX : Hid (∀ W', HStep H H W W' → W'.cell? ⟨sb, 0, none⟩ = some (.pointer (some ⟨H.hb, 0, none⟩))) := hidIt (fun W' st => (HSV.out W' st).c0)
  have FLEN : Hid (∀ (i p : Nat) o, K[i]? = some (p, o) → o.f.length ≤ 16384) := hidIt (fun i p o hi => by have := atN_lt l p o (hK.here hi); omega)
  have H0 := hidIt (h.below hbl)
  have F0 : Hid (Fol ss K l l 0 0) := hidIt (Fol.start hK)
  clear h hK sv hbl hr hv
  rw [hkl] at hc
  rw [hkl]
  go_enter Try.func55, Try.ntmps55
  go_wp2_with fail
  go_loopw [12] (fun iv wr => ∃ (k : Nat) (lc : List Ob), k ≤ K.length ∧ iv = .int .i64 (k : Int) ∧ HeapV n0 wr H most lc ss ∧ Fol ss K l lc k 0 ∧ HStep H H W wr) (fun iv _ => K.length - (intOf iv).toNat)
  case atStart => exact ⟨0, l, Nat.zero_le _, rfl, H0.out, F0.out, HStep.refl _ _⟩
  case round =>
    clear H0 F0
    obtain ⟨k, lc, hk, rfl, hh, hf, hst⟩ := hrel
    have HH := hidIt hh
    have HF := hidIt hf
    have HS := hidIt hst
    have x0 := GX.out wr hst
    clear hh hf hst
    by_cases hlt : k < K.length
    · have hlt' : (k : Int) < (K.length : Int) := by omega
      obtain ⟨⟨p, o⟩, hx⟩ : ∃ x, K[k]? = some x := ⟨K[k], List.getElem?_eq_getElem hlt⟩
      obtain ⟨g, off, rfl, c0⟩ := (HVk.out _ HS.out).row (keysK_at hx)
      have GL2 := hidIt (GL.out k p 0 o lc wr hx HH.out HF.out)
      have hfl := FLEN.out k p o hx
      have HX := hidIt hx
      clear hx
      go_wp2_with (go_at_call 35; refine GL2.out.mono ?_; rintro e w' ⟨rfl, hww⟩; cases hww)
      obtain ⟨V, hV⟩ : ∃ V, V = wr := ⟨wr, rfl⟩
      subst hV
      clear x0
      go_loopw [22] (fun jv wr => ∃ (n : Nat) (lc : List Ob), n ≤ o.f.length ∧ jv = .int .i64 (n : Int) ∧ HeapV n0 wr H most lc ss ∧ Fol ss K l lc k n ∧ HStep H H W wr) (fun jv _ => o.f.length - (intOf jv).toNat)
      case atStart => exact ⟨0, lc, Nat.zero_le _, rfl, HH.out, HF.out, HS.out⟩
      case round =>
        clear HH HF HS GL2
        obtain ⟨n, lc, hn, rfl, hh, hf, hst⟩ := hrel
        have HH := hidIt hh
        have HF := hidIt hf
        have HS := hidIt hst
        have x0 := GX.out wr hst
        clear hh hf hst
        by_cases hnl : n < o.f.length
        · have hnl' : (n : Int) < (o.f.length : Int) := by omega
          have GR2 := hidIt (GR.out k p o lc wr HX.out n hnl HH.out HF.out)
          have GF2 := hidIt (GF.out k p o HX.out n hnl wr)
          cases e1 : rb ss o.sh n with
          | false =>
            rw [e1] at GR2
            have N2 := hidIt (HF.out.no HX.out e1)
            clear e1
            go_wp2_with (first
              | (go_at_call 49; refine GR2.out.mono ?_; rintro e w' ⟨rfl, hww⟩; cases hww))
            exact ⟨⟨n + 1, lc, by omega, by go_num, HH.out, N2.out, HS.out⟩, by simp [intOf]; omega⟩
          | true =>
            rw [e1] at GR2
            have GD3 := hidIt (GD.out k p o HX.out n hnl e1 lc wr HH.out HF.out HS.out)
            clear e1
            go_wp2_with (first
              | (go_at_call 49; refine GR2.out.mono ?_; rintro e w' ⟨rfl, hww⟩; cases hww)
              | (go_at_call 50; refine GF2.out.mono ?_; rintro e w' ⟨rfl, hww⟩; cases hww)
              | (go_at_call 57; refine GD3.out.mono ?_; rintro e w5 ⟨rfl, ⟨lc5, hh5, hf5⟩, hst5⟩; have HH5 := hidIt hh5; have HF5 := hidIt hf5; have HS5 := hidIt (HS.out.trans hst5); clear hh5 hf5 hst5))
            exact ⟨⟨n + 1, lc5, by omega, by go_num, HH5.out, HF5.out, HS5.out⟩, by simp [intOf]; omega⟩
        · have hnl' : ¬ (n : Int) < (o.f.length : Int) := by omega
          have N2 := hidIt (HF.out.next HX.out (by omega))
          go_wp2_with fail
          exact ⟨⟨k + 1, lc, by omega, by go_num, HH.out, N2.out, HS.out⟩, by simp [intOf]; omega⟩
    · have hlt' : ¬ (k : Int) < (K.length : Int) := by omega
      obtain rfl : k = K.length := by omega
      go_wp2_with fail
      go_ret
      exact ⟨rfl, lc, HH.out, HF.out, HS.out⟩
end Go.Proofs.Ytbdeflpjplhafaa.J

