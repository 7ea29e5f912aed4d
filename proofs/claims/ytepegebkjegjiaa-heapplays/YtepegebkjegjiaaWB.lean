/- HeapPlays: same, pick. -/
import Derived.Test.YtepegebkjegjiaaWA
namespace Go.Proofs.Ytepegebkjegjiaa.J
open Go.RowKit Go.MapKept Go.ChangeMaps
set_option linter.unusedVariables false
variable {n0 : Nat} {X : Nat → Prop} {w : World} {p q most : Nat} {l : List Ob} {ss : List (List Bool)}

theorem refZ_no {v n : Int} (h : hasZ l v n = false) : refZ ss l v n = false := by
  cases e : refZ ss l v n with
  | false => rfl
  | true =>
    unfold refZ at e
    rw [h] at e
    simp at e
def gvZ (l : List Ob) (v n : Int) : Int := if hasZ l v n = true then getZ l v n else 0
def geZ (l : List Ob) (v n : Int) : Int := if hasZ l v n = true then 0 else 1
theorem pl_getH {m : List Ob} {tt : List (List Bool)} (h : TwoV n0 X w p q most l ss m tt) (v n : Int) : Calls Try.prog 61 #[.pointer (some ⟨p, 0, none⟩), .int .i64 v, .int .i64 n] w fun e w' => e = .returned (.tuple #[.int .i64 (gvZ l v n), .int .i64 (geZ l v n)]) ∧ Below w.heap.size w w' := by
  obtain ⟨H, R, rfl, rfl, hh, hr, hd, hx⟩ := h
  unfold gvZ geZ
  cases e : hasZ l v n with
  | false => exact (get_no hh v n e).mono fun e w' ⟨a, b⟩ => by subst b; exact ⟨a, Below.refl _ _⟩
  | true => exact get_yes hh v n e
theorem pl_getR {m : List Ob} {tt : List (List Bool)} (h : TwoV n0 X w p q most m tt l ss) (v n : Int) : Calls Try.prog 62 #[.pointer (some ⟨q, 0, none⟩), .int .i64 v, .int .i64 n] w fun e w' => e = .returned (.tuple #[.int .i64 (gvZ l v n), .int .i64 (geZ l v n)]) ∧ w' = w := by
  obtain ⟨H, R, rfl, rfl, hh, hr, hd, hx⟩ := h
  unfold gvZ geZ
  cases e : hasZ l v n with
  | false => exact uget_no hr v n e
  | true => exact uget_yes hr v n e
theorem pl_refH {m : List Ob} {tt : List (List Bool)} (h : TwoV n0 X w p q most l ss m tt) (v n : Int) : Calls Try.prog 42 #[.pointer (some ⟨p, 0, none⟩), .int .i64 v, .int .i64 n] w fun e w' => e = .returned (.bool (refZ ss l v n)) ∧ w' = w := by
  obtain ⟨H, R, rfl, rfl, hh, hr, hd, hx⟩ := h
  exact IsRef_any hh v n
theorem pl_refR {m : List Ob} {tt : List (List Bool)} (h : TwoV n0 X w p q most m tt l ss) (v n : Int) : Calls Try.prog 46 #[.pointer (some ⟨q, 0, none⟩), .int .i64 v, .int .i64 n] w fun e w' => e = .returned (.bool (refZ ss l v n)) ∧ ∃ k, w' = w.drewN k := by
  obtain ⟨H, R, rfl, rfl, hh, hr, hd, hx⟩ := h
  cases e : hasZ l v n with
  | false => rw [refZ_no e]; exact uisref_no hr v n e
  | true => exact uisref_yes hr v n e
theorem pl_lenH {m : List Ob} {tt : List (List Bool)} (h : TwoV n0 X w p q most l ss m tt) (v : Int) : Calls Try.prog 56 #[.pointer (some ⟨p, 0, none⟩), .int .i64 v] w fun e w' => e = .returned (.int .i64 (lenZ l v)) ∧ w' = w := by
  obtain ⟨H, R, rfl, rfl, hh, hr, hd, hx⟩ := h
  exact Len_any hh v
theorem TwoV.lo (h : TwoV n0 X w p q most l ss l ss) : n0 ≤ w.heap.size := by
  obtain ⟨H, R, rfl, rfl, hh, hr, hd, hx⟩ := h
  have := hh.lt (.inl rfl)
  omega
set_option maxRecDepth 8000 in
set_option maxHeartbeats 8000000 in
theorem psame_any (h : TwoV n0 X w p q most l ss l ss) : Calls Try.prog 26 #[.pointer (some ⟨p, 0, none⟩), .pointer (some ⟨q, 0, none⟩)] w fun e w' => e = .returned (.bool true) ∧ Below w.heap.size w w' := by
  have HT0 := hidIt h
  have GA := hidIt (two_allH h rfl)
  have GB : Hid (∀ W, Below w.heap.size w W → Calls Try.prog 10 #[.pointer (some ⟨q, 0, none⟩)] W _) := hidIt fun W hW => two_allR (h.below hW).1 rfl
  have GS := hidIt (fun v u W (a : NView W v (begs 0 l)) (b : NView W u (begs 0 l)) => nsame_any v u (begs 0 l) W a b)
  have GU1 : Hid (∀ W, Below w.heap.size w W → Calls Try.prog 33 #[.pointer (some ⟨p, 0, none⟩)] W _) := hidIt fun W hW => two_usedH (h.below hW).1
  have GU2 : Hid (∀ W, Below w.heap.size w W → Calls Try.prog 55 #[.pointer (some ⟨q, 0, none⟩)] W _) := hidIt fun W hW => two_usedR (h.below hW).1
  have hml : l.length ≤ 16384 := by
    have h1 := h.few
    have : ∀ m : List Ob, m.length ≤ usedN m := by
      intro m
      induction m with
      | nil => simp
      | cons o m ih => simp only [usedN, List.length_cons]; omega
    have := this l
    omega
  clear h
  have hbl := begs_len l 0
  go_enter Try.func26, Try.ntmps26
  go_wp2_with (first
    | (go_at_call 36; refine GA.out.mono ?_; rintro e w1 ⟨a1, c1, rfl, hn1, hb1⟩; have B1 := hidIt hb1; have N1 := hidIt hn1; clear hn1 hb1 GA)
    | (go_at_call 10; refine (GB.out _ B1.out).mono ?_; rintro e w2 ⟨a2, c2, rfl, hn2, hb2⟩; have B2 := hidIt (B1.out.trans (hb2.mono B1.out.size)); have N2 := hidIt hn2; have M1 := hidIt (own_below N1.out hb2); clear hn2 hb2 GB)
    | (go_at_call 25; refine (GS.out _ _ _ (NOwn.view M1.out) (NOwn.view N2.out)).mono ?_; rintro e w3 ⟨rfl, hb3⟩; have B3 := hidIt (B2.out.trans (hb3.mono B2.out.size)); have M3 := hidIt (own_below M1.out hb3); clear hb3 GS)
    | (go_at_call 33; refine (GU1.out _ B3.out).mono ?_; rintro e w4 ⟨rfl, hww⟩; cases hww; clear GU1)
    | (go_at_call 55; refine (GU2.out _ B3.out).mono ?_; rintro e w4 ⟨rfl, hww⟩; cases hww; clear GU2))
  have M4 : Hid (NOwn w3 w.heap.size (.slice a1 l.length c1) (begs 0 l)) := hidIt M3.out
  clear M1 N1 N2 M3 B1 B2
  have H3 : Hid (∀ W, Below w3.heap.size w3 W → TwoV n0 X W p q most l ss l ss) := hidIt fun W hW => ((HT0.out.below B3.out).1.below hW).1
  go_loopw [6] (fun iv wr => ∃ i : Nat, i ≤ l.length ∧ iv = .int .i64 (i : Int) ∧ Below w3.heap.size w3 wr) (fun iv _ => l.length - (intOf iv).toNat)
  case atStart => exact ⟨0, Nat.zero_le _, rfl, Below.refl _ _⟩
  case round =>
    obtain ⟨i, hi, rfl, hb⟩ := hrel
    have HBi := hidIt hb
    by_cases hlt : i < l.length
    · have hlt' : (i : Int) < (l.length : Int) := by omega
      obtain ⟨b, hbx⟩ : ∃ b, (begs 0 l)[i]? = some b := ⟨_, List.getElem?_eq_getElem (by omega)⟩
      have HCb : Hid (∀ W, Below w3.heap.size w3 W → ∃ ga, a1 = some ⟨ga, 0, none⟩ ∧ W.cell? ⟨ga, i, none⟩ = some (.int .i64 b)) := hidIt (fun W hbw => by
        have := own_below M4.out hbw
        rw [hbl] at this
        obtain ⟨ga, e, -, -, c, -⟩ := own_cell this (icells_at hbx)
        exact ⟨ga, e, c⟩)
      obtain ⟨ga, rfl, c0⟩ := HCb.out wr hb
      have HSB : Hid (∀ n, Below w3.heap.size w3 (wr.drewN n)) := hidIt (fun n => HBi.out.trans ((below_drewQ wr n).mono HBi.out.size))
      have GT1 := hidIt (fun (n : Nat) => two_gtagH (H3.out (wr.drewN n) (HSB.out n)) b)
      have GT2 := hidIt (fun (n : Nat) => two_gtagR (H3.out (wr.drewN n) (HSB.out n)) b)
      have GP1 := hidIt (fun (n : Nat) => two_shpH (H3.out (wr.drewN n) (HSB.out n)) b)
      have GP2 := hidIt (fun (n : Nat) => two_shpR (H3.out (wr.drewN n) (HSB.out n)) b)
      have GN1 := hidIt (fun (n : Nat) => pl_lenH (H3.out (wr.drewN n) (HSB.out n)) b)
      have GN2 := hidIt (fun (n : Nat) => two_lenR (H3.out (wr.drewN n) (HSB.out n)) b)
      have GL : Hid (∀ W, Below w3.heap.size w3 W → Calls Try.prog 56 #[.pointer (some ⟨p, 0, none⟩), .int .i64 b] W fun e w' => e = .returned (.int .i64 (lenZ l b)) ∧ w' = W) := hidIt (fun W hbw => pl_lenH (H3.out W hbw) b)
      have GGh : Hid (∀ W (k : Int), Below w3.heap.size w3 W → Calls Try.prog 61 #[.pointer (some ⟨p, 0, none⟩), .int .i64 b, .int .i64 k] W fun e w' => e = .returned (.tuple #[.int .i64 (gvZ l b k), .int .i64 (geZ l b k)]) ∧ Below w3.heap.size w3 w') := hidIt (fun W k hbw => (pl_getH (H3.out W hbw) b k).mono fun e w' ⟨x, y⟩ => ⟨x, hbw.trans (y.mono hbw.size)⟩)
      have GGr : Hid (∀ W (k : Int), Below w3.heap.size w3 W → Calls Try.prog 62 #[.pointer (some ⟨q, 0, none⟩), .int .i64 b, .int .i64 k] W fun e w' => e = .returned (.tuple #[.int .i64 (gvZ l b k), .int .i64 (geZ l b k)]) ∧ w' = W) := hidIt (fun W k hbw => pl_getR (H3.out W hbw) b k)
      have GRh : Hid (∀ W (k : Int), Below w3.heap.size w3 W → ∀ n : Nat, Calls Try.prog 42 #[.pointer (some ⟨p, 0, none⟩), .int .i64 b, .int .i64 k] (W.drewN n) fun e w' => e = .returned (.bool (refZ ss l b k)) ∧ w' = W.drewN n) := hidIt (fun W k hbw n => pl_refH (H3.out (W.drewN n) (hbw.trans ((below_drewQ W n).mono hbw.size))) b k)
      have GRr : Hid (∀ W (k : Int), Below w3.heap.size w3 W → ∀ n : Nat, Calls Try.prog 46 #[.pointer (some ⟨q, 0, none⟩), .int .i64 b, .int .i64 k] (W.drewN n) fun e w' => e = .returned (.bool (refZ ss l b k)) ∧ ∃ m, w' = (W.drewN n).drewN m) := hidIt (fun W k hbw n => pl_refR (H3.out (W.drewN n) (hbw.trans ((below_drewQ W n).mono hbw.size))) b k)
      obtain ⟨L, hL⟩ : ∃ L : Nat, lenZ l b = (L : Int) := ⟨(lenZ l b).toNat, by unfold lenZ; split <;> omega⟩
      have hLb : (L : Int) ≤ 16384 := by
        rw [← hL]
        have h1 := HT0.out.few
        unfold lenZ
        cases ho : objZ l b with
        | none => simp
        | some o =>
          have h2 := objZ_in ho
          simp only
          omega
      rw [hL] at GL GN1 GN2
      clear hb hbx hL
      generalize gvZ l b = gz at *
      generalize geZ l b = ez at *
      generalize refZ ss l b = rz at *
      generalize tagZ l b = tz at *
      generalize shpZ l b = sz at *
      go_wp2_with fail
      go_quiet (first
        | (go_at_call 37; exact Calls.quiet_of_same (GT1.out _))
        | (go_at_call 60; exact Calls.quiet_of_same (GT2.out _))
        | (go_at_call 58; exact Calls.quiet_of_same (GP1.out _))
        | (go_at_call 59; exact Calls.quiet_of_same (GP2.out _))
        | (go_at_call 56; exact Calls.quiet_of_same (GN1.out _))
        | (go_at_call 57; exact Calls.quiet_of_same (GN2.out _)))
      clear GT1 GT2 GP1 GP2 GN1 GN2
      go_wp2_with fail
      go_loopw [7] (fun kv wr => ∃ k : Nat, k ≤ L + 2 ∧ kv = .int .i64 ((k : Int) - 1) ∧ Below w3.heap.size w3 wr) (fun kv _ => L + 2 - (intOf kv + 1).toNat)
      case atStart => exact ⟨0, by omega, rfl, HSB.out _⟩
      case round =>
        obtain ⟨k, hk, rfl, hb⟩ := hrel
        have HBk := hidIt hb
        obtain ⟨ga', e9, c1⟩ := HCb.out wr hb
        cases e9
        have GL2 := hidIt (GL.out wr hb)
        by_cases hkl : k < L + 2
        · have hkl' : (k : Int) - 1 ≤ (L : Int) := by omega
          have GG1 := hidIt (GGh.out wr ((k : Int) - 1) hb)
          clear hb
          go_wp2_with (first
            | (go_at_call 56; refine GL2.out.mono ?_; rintro e w' ⟨rfl, hww⟩; cases hww)
            | (go_at_call 61; refine GG1.out.mono ?_; rintro e w14 ⟨rfl, hb4⟩; have HB14 := hidIt hb4; obtain ⟨ga', e9, c2⟩ := HCb.out w14 hb4; cases e9; have GG2 := hidIt (GGr.out w14 ((k : Int) - 1) hb4); have GR1 := hidIt (GRh.out w14 ((k : Int) - 1) hb4); have GR2 := hidIt (GRr.out w14 ((k : Int) - 1) hb4); clear hb4 GG1)
            | (go_at_call 62; refine GG2.out.mono ?_; rintro e w' ⟨rfl, hww⟩; cases hww))
          go_quiet (first
            | (go_at_call 42; exact Calls.quiet_of_same (GR1.out _))
            | (go_at_call 46; exact Calls.quiet_of (GR2.out _)))
          have HB15 := hidIt (HB14.out.trans ((below_drewQ w14 nq).mono HB14.out.size))
          go_wp2_with fail
          exact ⟨⟨k + 1, by omega, by go_num, HB15.out⟩, by simp [intOf]; omega⟩
        · have hkl' : ¬ (k : Int) - 1 ≤ (L : Int) := by omega
          clear hb
          go_wp2_with (go_at_call 56; refine GL2.out.mono ?_; rintro e w' ⟨rfl, hww⟩; cases hww)
          exact ⟨⟨i + 1, by omega, by go_num, HBk.out⟩, by simp [intOf]; omega⟩
    · have hlt' : ¬ (i : Int) < (l.length : Int) := by omega
      have HB9 := hidIt (B3.out.trans (HBi.out.mono B3.out.size))
      clear hb
      go_wp2_with fail
      go_ret
      exact ⟨rfl, HB9.out⟩
end Go.Proofs.Ytepegebkjegjiaa.J
