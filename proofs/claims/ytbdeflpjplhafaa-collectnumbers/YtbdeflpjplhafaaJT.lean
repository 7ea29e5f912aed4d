/- leadsOn, and all that leads on: walked. -/
import Derived.Test.YtbdeflpjplhafaaJS
namespace Go.Proofs.Ytbdeflpjplhafaa.J
open Go.RowKit Go.MapKept Go.ChangeMaps
set_option linter.unusedVariables false

variable {n0 n1 : Nat} {w W : World} {H : HB} {most : Nat} {l : List Ob} {ss : List (List Bool)} {K : List (Nat × Ob)} {sb tb : Nat} {cur : List Int}
set_option maxRecDepth 8000 in
theorem leadsOn_any (h : HeapV n0 W H most l ss) (sv : SV n1 W sb tb H.hb cur) (hcl : cur.length ≤ 20000) {v n : Int} (hn : hasZ l v n = true) {x y : Int} (hx : getZ l v n = x) (hx0 : 0 ≤ x) (hy : cur[x.toNat]? = some y) :
    Calls Try.prog 56 #[.pointer (some ⟨sb, 0, none⟩), .int .i64 (v + 2 + n)] W fun e w' => e = .returned (.bool (x == 0 || y != 0)) ∧ w' = W := by
  obtain ⟨g, cap, j, ew, -, -, ej, hj, hc, -, -, -, -, -⟩ := h.field hn
  rw [hx] at hc
  have x0 := sv.c0
  have x1 := sv.c1
  obtain ⟨z1, -⟩ := sv.at_ hy
  have c1 : W.cell? ⟨H.hb, 1, none⟩ = some H.wv := h.box.cell 1
  rw [ew] at c1
  have hU : usedN l ≤ 16384 := Nat.le_trans h.few h.most
  have hj' : (j : Int) < (usedN l : Int) := by omega
  rw [ej]
  have hyl := (List.getElem?_eq_some_iff.1 hy).1
  obtain ⟨k, rfl⟩ : ∃ k : Nat, x = (k : Int) := ⟨x.toNat, by omega⟩
  simp only [Int.toNat_natCast] at z1 hyl
  have hkl : (k : Int) < (cur.length : Int) := by omega
  generalize cur.length = T at *
  generalize usedN l = U at *
  clear hx ej hy
  by_cases h0 : (k : Int) = 0
  · obtain rfl : k = 0 := by omega
    go_enter Try.func56, Try.ntmps56
    go_wp2
    go_ret
    exact ⟨rfl, rfl⟩
  · have h0' : ((k : Int) == 0) = false := by simpa using h0
    have h0n : ¬ k = 0 := by omega
    rw [h0', Bool.false_or]
    go_enter Try.func56, Try.ntmps56
    go_wp2
    go_ret
    exact ⟨rfl, rfl⟩
theorem okO_of {o : Ob} (h : ∀ n, n < o.f.length → rb ss o.sh n = true → leadK K ((o.f[n]?).getD 0) = true) : okO ss K o = true := by
  unfold okO
  rw [List.all_eq_true]
  intro n hn
  have hl : n < o.f.length := by simpa using hn
  cases e : rb ss o.sh n with
  | false => rfl
  | true => simp [h n hl e]
theorem okO_not {o : Ob} {n : Nat} (hn : n < o.f.length) (h1 : rb ss o.sh n = true) (h2 : leadK K ((o.f[n]?).getD 0) = false) : okO ss K o = false := by
  cases e : okO ss K o with
  | false => rfl
  | true =>
    unfold okO at e
    rw [List.all_eq_true] at e
    have := e n (by simpa using hn)
    rw [h1, h2] at this
    cases this
theorem okK_not {i p : Nat} {o : Ob} (hi : K[i]? = some (p, o)) (h : okO ss K o = false) : okK ss K = false := by
  cases e : okK ss K with
  | false => rfl
  | true =>
    unfold okK at e
    rw [List.all_eq_true] at e
    have := e _ (List.mem_of_getElem? hi)
    rw [h] at this
    cases this
theorem okK_of (h : ∀ (i p : Nat) (o : Ob), K[i]? = some (p, o) → okO ss K o = true) : okK ss K = true := by
  unfold okK
  rw [List.all_eq_true]
  rintro ⟨p, o⟩ hx
  obtain ⟨i, hi⟩ := List.getElem?_of_mem hx
  exact h i p o hi
set_option maxRecDepth 8000 in
set_option maxHeartbeats 4000000 in
theorem leads_any (h : HeapV n0 w H most l ss) (hr : RefsOk ss l) (hK : KOk l K) (vk : Value) (hv : NView w vk (keysK K)) (hbl : Below w.heap.size w W) (sv : SV n1 W sb tb H.hb (toL (usedN l + 1) K)) :
    Calls Try.prog 55 #[.pointer (some ⟨sb, 0, none⟩), vk, .func (.func 56) #[.pointer (some ⟨sb, 0, none⟩)] #[]] W fun e w' => e = .returned (.bool (okK ss K)) ∧ w' = W := by
  have HV := hidIt (hv.below hbl)
  obtain ⟨ao, cap, rfl, hc, hm, _⟩ := hv
  unfold maxLen at hm
  have hm2 : usedN l ≤ 16384 := Nat.le_trans h.few h.most
  have hkl : (keysK K).length = K.length := keysK_len K
  have hW := h.below hbl
  have GL : Hid (∀ (i p : Nat) o, K[i]? = some (p, o) → Calls Try.prog 35 #[.pointer (some ⟨H.hb, 0, none⟩), .int .i64 ((p : Int) + 1)] W fun e w' => e = .returned (.int .i64 (o.f.length : Int)) ∧ w' = W) := hidIt (fun i p o hi => by
    have := Len_any hW ((p : Int) + 1)
    unfold lenZ at this
    rw [hK.obj hi] at this
    exact this)
  have GR : Hid (∀ (i p : Nat) o, K[i]? = some (p, o) → ∀ n : Nat, n < o.f.length → Calls Try.prog 49 #[.pointer (some ⟨H.hb, 0, none⟩), .int .i64 ((p : Int) + 1), .int .i64 (n : Int)] W fun e w' => e = .returned (.bool (rb ss o.sh n)) ∧ w' = W) := hidIt (fun i p o hi n hn => by
    have := IsRef_any hW ((p : Int) + 1) (n : Int)
    rw [refZ_rb (hK.obj hi) hn] at this
    exact this)
  have GF : Hid (∀ (i p : Nat) o, K[i]? = some (p, o) → ∀ n : Nat, n < o.f.length → Calls Try.prog 50 #[.int .i64 ((p : Int) + 1), .int .i64 (n : Int)] W fun e w' => e = .returned (.int .i64 ((p : Int) + 1 + 2 + (n : Int))) ∧ w' = W) := hidIt (fun i p o hi n hn => by
    have := atN_lt l p o (hK.here hi)
    exact field_any _ _ W (by omega) (by omega) (by omega) (by omega))
  have GD : Hid (∀ (i p : Nat) o, K[i]? = some (p, o) → ∀ n : Nat, n < o.f.length → rb ss o.sh n = true → Calls Try.prog 56 #[.pointer (some ⟨sb, 0, none⟩), .int .i64 ((p : Int) + 1 + 2 + (n : Int))] W fun e w' => e = .returned (.bool (leadK K ((o.f[n]?).getD 0))) ∧ w' = W) := hidIt (fun i p o hi n hn hrb => by
    obtain ⟨x, hx⟩ : ∃ x, o.f[n]? = some x := ⟨o.f[n], List.getElem?_eq_getElem hn⟩
    have ho := hK.obj hi
    have hg : getZ l ((p : Int) + 1) (n : Int) = x := by unfold getZ; rw [ho]; simp [hx]
    have hxb : 0 ≤ x ∧ x ≤ usedN l := by
      rcases hr p o (hK.here hi) n x hx hrb with e | e
      · omega
      · obtain ⟨o', ho'⟩ := Option.isSome_iff_exists.1 e
        have := objZ_in ho'
        omega
    have := leadsOn_any hW sv (by rw [toL_len]; omega) (hasZ_of ho (by omega) (by omega)) hg hxb.1 (toL_at K (j := x.toNat) (by omega))
    rw [hx]
    exact this)
  have x0 := sv.c0
  have FNO : Hid (∀ (i p : Nat) o, K[i]? = some (p, o) → ∀ n : Nat, n < o.f.length → rb ss o.sh n = true → leadK K ((o.f[n]?).getD 0) = false → okK ss K = false) := hidIt (fun i p o hi n hn a b => okK_not hi (okO_not hn a b))
  have FYES : Hid ((∀ (i p : Nat) (o : Ob), K[i]? = some (p, o) → okO ss K o = true) → okK ss K = true) := hidIt okK_of
  have FO : Hid (∀ o : Ob, (∀ n, n < o.f.length → rb ss o.sh n = true → leadK K ((o.f[n]?).getD 0) = true) → okO ss K o = true) := hidIt (fun o => okO_of)
  have FLEN : Hid (∀ (i p : Nat) o, K[i]? = some (p, o) → o.f.length ≤ 16384) := hidIt (fun i p o hi => by have := atN_lt l p o (hK.here hi); omega)
  have HK := hidIt hK
  clear h hK sv hbl hr hW
  rw [hkl] at hc
  rw [hkl]
  generalize okK ss K = B at *
  go_enter Try.func55, Try.ntmps55
  go_wp2_with fail
  go_loopw [12] (fun iv wr => ∃ (k : Nat), k ≤ K.length ∧ iv = .int .i64 (k : Int) ∧ (∀ (i p : Nat) (o : Ob), K[i]? = some (p, o) → i < k → okO ss K o = true) ∧ wr = W) (fun iv _ => K.length - (intOf iv).toNat)
  case atStart => exact ⟨0, Nat.zero_le _, rfl, fun _ _ _ _ h => absurd h (by omega), rfl⟩
  case round =>
    obtain ⟨k, hk, rfl, hok, rfl⟩ := hrel
    have HOK := hidIt hok
    clear hok
    by_cases hlt : k < K.length
    · have hlt' : (k : Int) < (K.length : Int) := by omega
      obtain ⟨⟨p, o⟩, hx⟩ : ∃ x, K[k]? = some x := ⟨K[k], List.getElem?_eq_getElem hlt⟩
      obtain ⟨g, off, rfl, c0⟩ := HV.out.row (keysK_at hx)
      have GL2 := hidIt (GL.out k p o hx)
      have hfl := FLEN.out k p o hx
      have HX := hidIt hx
      clear hx
      go_wp2_with (go_at_call 35; refine GL2.out.mono ?_; rintro e w' ⟨rfl, hww⟩; cases hww)
      obtain ⟨V, hV⟩ : ∃ V, V = wr := ⟨wr, rfl⟩
      subst hV
      go_loopw [22] (fun jv wr => ∃ (n : Nat), n ≤ o.f.length ∧ jv = .int .i64 (n : Int) ∧ (∀ m, m < n → rb ss o.sh m = true → leadK K ((o.f[m]?).getD 0) = true) ∧ wr = V) (fun jv _ => o.f.length - (intOf jv).toNat)
      case atStart => exact ⟨0, Nat.zero_le _, rfl, fun m h => absurd h (by omega), rfl⟩
      case round =>
        obtain ⟨n, hn, rfl, hdone, rfl⟩ := hrel
        have HD := hidIt hdone
        clear hdone
        by_cases hnl : n < o.f.length
        · have hnl' : (n : Int) < (o.f.length : Int) := by omega
          have GR2 := hidIt (GR.out k p o HX.out n hnl)
          have GF2 := hidIt (GF.out k p o HX.out n hnl)
          have GD2 := hidIt (GD.out k p o HX.out n hnl)
          have FN2 := hidIt (FNO.out k p o HX.out n hnl)
          have NX : Hid ((rb ss o.sh n = true → leadK K ((o.f[n]?).getD 0) = true) → ∀ m, m < n + 1 → rb ss o.sh m = true → leadK K ((o.f[m]?).getD 0) = true) := hidIt (fun h m hm hr => by
            by_cases e : m = n
            · subst e; exact h hr
            · exact HD.out m (by omega) hr)
          cases e1 : rb ss o.sh n with
          | false =>
            rw [e1] at GR2
            have N2 := hidIt (NX.out (fun h => by rw [e1] at h; cases h))
            clear e1 NX GD2 FN2
            go_wp2_with (first
              | (go_at_call 49; refine GR2.out.mono ?_; rintro e w' ⟨rfl, hww⟩; cases hww))
            exact ⟨⟨n + 1, by omega, by go_num, N2.out, by trivial⟩, by simp [intOf]; omega⟩
          | true =>
            rw [e1] at GR2
            have GD3 := hidIt (GD2.out e1)
            cases e2 : leadK K ((o.f[n]?).getD 0) with
            | false =>
              rw [e2] at GD3
              have hB := hidIt (FN2.out e1 e2)
              clear e1 e2 NX GD2 FN2
              go_wp2_with (first
                | (go_at_call 49; refine GR2.out.mono ?_; rintro e w' ⟨rfl, hww⟩; cases hww)
                | (go_at_call 50; refine GF2.out.mono ?_; rintro e w' ⟨rfl, hww⟩; cases hww)
                | (go_at_call 56; refine GD3.out.mono ?_; rintro e w' ⟨rfl, hww⟩; cases hww))
              go_ret
              exact ⟨by rw [hB.out]; rfl, rfl⟩
            | true =>
              rw [e2] at GD3
              have N2 := hidIt (NX.out (fun _ => e2))
              clear e1 e2 NX GD2 FN2
              go_wp2_with (first
                | (go_at_call 49; refine GR2.out.mono ?_; rintro e w' ⟨rfl, hww⟩; cases hww)
                | (go_at_call 50; refine GF2.out.mono ?_; rintro e w' ⟨rfl, hww⟩; cases hww)
                | (go_at_call 56; refine GD3.out.mono ?_; rintro e w' ⟨rfl, hww⟩; cases hww))
              exact ⟨⟨n + 1, by omega, by go_num, N2.out, by trivial⟩, by simp [intOf]; omega⟩
        · have hnl' : ¬ (n : Int) < (o.f.length : Int) := by omega
          obtain rfl : n = o.f.length := by omega
          have N2 : Hid (∀ (i p : Nat) (o' : Ob), K[i]? = some (p, o') → i < k + 1 → okO ss K o' = true) := hidIt (fun i p' o' hi hik => by
            by_cases e : i = k
            · subst e
              rw [HX.out] at hi
              cases hi
              exact FO.out o HD.out
            · exact HOK.out i p' o' hi (by omega))
          go_wp2_with fail
          exact ⟨⟨k + 1, by omega, by go_num, N2.out, by trivial⟩, by simp [intOf]; omega⟩
    · have hlt' : ¬ (k : Int) < (K.length : Int) := by omega
      have hB := hidIt (FYES.out (fun i p o hi => HOK.out i p o hi (by have := (List.getElem?_eq_some_iff.1 hi).1; omega)))
      go_wp2_with fail
      go_ret
      exact ⟨by rw [hB.out]; rfl, rfl⟩
end Go.Proofs.Ytbdeflpjplhafaa.J

