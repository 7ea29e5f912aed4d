/- LoaderAgrees: walked. -/
import Derived.Test.YtacmooknfbjpeaaLMp
import Derived.Test.YtacmooknfbjpeaaLMw
namespace Go.Proofs.Ytacmooknfbjpeaa.J
open Go.RowKit Go.MapKept Go.ChangeMaps
set_option linter.unusedVariables false

theorem agAll_at {n cut : Nat} (same : Bool) (h1 : 2 ≤ n) (h2 : n ≤ 10) (h3 : cut < n) : agA n cut same n 0 kS0 = true := by
  have := List.all_eq_true.1 (List.all_eq_true.1 agAll_true (n - 2) (List.mem_range.2 (by omega))) cut (List.mem_range.2 (by omega))
  rw [show n - 2 + 2 = n by omega, Bool.and_eq_true] at this
  cases same
  · exact this.2
  · exact this.1
theorem agA_succ {n cut : Nat} {same : Bool} {r i : Nat} {S : Ls} (h : agA n cut same (r + 1) i S = true) : ∃ S' S'', S.child 0 = (S', (i : Int) + 1, 0) ∧ S'.offer ((i : Int) + 1) ⟨#[65]⟩ ⟨#[]⟩ (agId same i) = (S'', 0) ∧ agA n cut same r (i + 1) S'' = true := by
  unfold agA at h
  generalize hc : S.child 0 = c at h
  obtain ⟨S', k, e⟩ := c
  dsimp only at h
  generalize hd : S'.offer k ⟨#[65]⟩ ⟨#[]⟩ (agId same i) = d at h
  obtain ⟨S'', e'⟩ := d
  simp only [Bool.and_eq_true, decide_eq_true_eq] at h
  obtain ⟨⟨⟨rfl, rfl⟩, rfl⟩, h⟩ := h
  exact ⟨S', S'', rfl, hd, h⟩
theorem agB_succ {n cut : Nat} {same : Bool} {r i : Nat} {S : Ls} (h : agB n cut same (r + 1) i S = true) : (i = cut ∧ agB n cut same r (i + 1) S = true) ∨ (i ≠ cut ∧ ∃ S', S.agree (i : Int) ((i : Int) + 1) ⟨#[65]⟩ = (S', 0) ∧ agB n cut same r (i + 1) S' = true) := by
  unfold agB at h
  by_cases hi : i = cut
  · rw [if_pos hi] at h
    exact .inl ⟨hi, h⟩
  · rw [if_neg hi] at h
    generalize hc : S.agree (i : Int) ((i : Int) + 1) ⟨#[65]⟩ = c at h
    obtain ⟨S', e⟩ := c
    simp only [Bool.and_eq_true, decide_eq_true_eq] at h
    obtain ⟨rfl, h⟩ := h
    exact .inr ⟨hi, S', rfl, h⟩
theorem agC_succ {cut : Nat} {same : Bool} {r i : Nat} {S : Ls} (h : agC cut same (r + 1) i S = true) : ∃ S' id d e, S.loadR (i : Int) ⟨#[65]⟩ = some (S', id, d, e) ∧ agC cut same r (i + 1) S' = true ∧ ((same || agFirst cut i) = true → e = 0) ∧ ((same || agFirst cut i) = false → e = 25) ∧ (same = false → e = 0 → id = 99 + i) := by
  unfold agC at h
  cases hc : S.loadR (i : Int) ⟨#[65]⟩ with
  | none => rw [hc] at h; cases h
  | some q =>
    obtain ⟨S', id, d, e⟩ := q
    rw [hc] at h
    simp only [Bool.and_eq_true] at h
    obtain ⟨h1, h2⟩ := h
    unfold agChk at h1
    simp only [Bool.and_eq_true] at h1
    obtain ⟨⟨h3, h4⟩, h5⟩ := h1
    refine ⟨S', id, d, e, rfl, h2, fun h => ?_, fun h => ?_, fun hs he => ?_⟩
    · rw [h] at h3
      simpa using h3
    · rw [h] at h3
      have h6 : ¬ e = 0 := by simpa using h3
      simpa [h6] using h4
    · subst hs
      subst he
      simpa using h5
set_option maxRecDepth 8000 in
set_option maxHeartbeats 4000000 in
theorem lagrees_any (a b : Int) (same : Bool) (ha : -9223372036854775808 ≤ a ∧ a ≤ 9223372036854775807) (hb : -9223372036854775808 ≤ b ∧ b ≤ 9223372036854775807) (w : World) : Calls Try.prog 7 #[.int .i64 a, .int .i64 b, .bool same] w fun e w' => e = .returned (.bool true) ∧ Below w.heap.size w w' := by
  have W1 := hidIt (fun W => lwithin_any a ha 8 (by omega) W)
  obtain ⟨m, hm⟩ : ∃ d, wnZ a 8 = d := ⟨_, rfl⟩
  have hm8 := wnZ_le a 8
  rw [hm] at W1 hm8
  have W2 : Hid (∀ W, Calls Try.prog 22 #[.int .i64 b, .int .i64 ((m : Int) + 1)] W fun e w' => e = .returned (.int .i64 (wnZ b (m + 1) : Int)) ∧ w' = W) := hidIt (fun W => lwithin_any b hb (m + 1) (by omega) W)
  obtain ⟨cut, hcut⟩ : ∃ d, wnZ b (m + 1) = d := ⟨_, rfl⟩
  have hc1 := wnZ_le b (m + 1)
  rw [hcut] at W2 hc1
  obtain ⟨n, hn⟩ : ∃ n : Nat, n = m + 2 := ⟨_, rfl⟩
  have hnI : (2 : Int) + (m : Int) = (n : Int) := by omega
  have hnJ : (n : Int) - 1 = (m : Int) + 1 := by omega
  have hn2 : 2 ≤ n ∧ n ≤ 10 ∧ cut < n := by omega
  have SIM := hidIt (agAll_at same hn2.1 hn2.2.1 hn2.2.2)
  have N2 := hidIt hn2
  clear hm hcut ha hb hn hn2
  go_enter Try.func7, Try.ntmps7
  go_wp2_with (first
    | (go_at_call 8; refine (at_new _).mono ?_; rintro e w1 ⟨bp, rfl, hl, hb⟩; have A0 := hidIt (show LAt _ bp w1 kS0 from hl); have B0 := hidIt hb; clear hl hb)
    | (go_at_call 22; refine (W1.out _).mono ?_; rintro e w2 ⟨rfl, h⟩; cases h; clear W1)
    | (go_at_call 22; refine (W2.out _).mono ?_; rintro e w2 ⟨rfl, h⟩; cases h; clear W2))
  obtain ⟨n2, n10, hcn⟩ := N2.out
  go_loopw [8] (fun iv wr => ∃ (i r : Nat) (S : Ls), iv = .int .i64 (i : Int) ∧ i + r = n ∧ LAt w.heap.size bp wr S ∧ Below w.heap.size w wr ∧ agA n cut same r i S = true) (fun iv _ => n - (intOf iv).toNat)
  case atStart => exact ⟨0, n, kS0, rfl, by omega, A0.out, B0.out, SIM.out⟩
  case round =>
    clear A0 B0 SIM hnI hnJ
    obtain ⟨i, r, S, rfl, hir, hl, hbl, hsim⟩ := hrel
    have L := hidIt hl
    have B := hidIt hbl
    clear hl hbl
    by_cases hlt : i < n
    · have hlt' : (i : Int) < (n : Int) := by omega
      obtain ⟨r, rfl⟩ : ∃ q, r = q + 1 := ⟨r - 1, by omega⟩
      obtain ⟨S', S'', hch, hof, hs2⟩ := agA_succ hsim
      have HC := hidIt (at_child3 L.out hch)
      have HF := hidIt hof
      have HS := hidIt hs2
      clear hch hof hs2 hsim L
      cases same
      · have HF2 : Hid (S'.offer ((i : Int) + 1) ⟨#[65]⟩ ⟨#[]⟩ (100 + (i : Int)) = (S'', 0)) := HF
        go_wp2_with (first
          | (go_at_call 9; refine HC.out.mono ?_; rintro e w1 ⟨rfl, h1, h2⟩; have L1 := hidIt h1; have B1 := hidIt (B.out.trans h2.below); clear h1 h2)
          | (go_at_call 11; refine (at_offer2 L1.out HF2.out).mono ?_; rintro e w2 ⟨rfl, h1, h2⟩; have L2 := hidIt h1; have B2 := hidIt (B1.out.trans h2.below); clear h1 h2))
        exact ⟨⟨i + 1, r, S'', by go_num, by omega, L2.out, B2.out, HS.out⟩, by simp [intOf]; omega⟩
      · have HF2 : Hid (S'.offer ((i : Int) + 1) ⟨#[65]⟩ ⟨#[]⟩ 100 = (S'', 0)) := HF
        go_wp2_with (first
          | (go_at_call 9; refine HC.out.mono ?_; rintro e w1 ⟨rfl, h1, h2⟩; have L1 := hidIt h1; have B1 := hidIt (B.out.trans h2.below); clear h1 h2)
          | (go_at_call 11; refine (at_offer2 L1.out HF2.out).mono ?_; rintro e w2 ⟨rfl, h1, h2⟩; have L2 := hidIt h1; have B2 := hidIt (B1.out.trans h2.below); clear h1 h2))
        exact ⟨⟨i + 1, r, S'', by go_num, by omega, L2.out, B2.out, HS.out⟩, by simp [intOf]; omega⟩
    · have hlt' : ¬ (i : Int) < (n : Int) := by omega
      obtain rfl : r = 0 := by omega
      have SB := hidIt (show agB n cut same (n - 1) 1 S = true from hsim)
      clear hsim
      go_wp2_with fail
      clear hlt hlt'
      go_loopw [12] (fun iv wr => ∃ (i r : Nat) (S : Ls), iv = .int .i64 (i : Int) ∧ i + r = n ∧ LAt w.heap.size bp wr S ∧ Below w.heap.size w wr ∧ agB n cut same r i S = true) (fun iv _ => n - (intOf iv).toNat)
      case atStart => exact ⟨1, n - 1, S, rfl, by omega, L.out, B.out, SB.out⟩
      case round =>
        clear L B SB hir
        obtain ⟨i, r, S, rfl, hir, hl, hbl, hsim⟩ := hrel
        have L := hidIt hl
        have B := hidIt hbl
        clear hl hbl
        by_cases hlt : i < n
        · have hlt' : (i : Int) < (n : Int) := by omega
          obtain ⟨r, rfl⟩ : ∃ q, r = q + 1 := ⟨r - 1, by omega⟩
          rcases agB_succ hsim with ⟨hic, hs2⟩ | ⟨hic, S', hag, hs2⟩
          · have hic' : ((i : Int) != (cut : Int)) = false := by simp; omega
            have HS := hidIt hs2
            clear hs2 hsim
            go_wp2_with fail
            exact ⟨⟨i + 1, r, S, by go_num, by omega, L.out, B.out, HS.out⟩, by simp [intOf]; omega⟩
          · have hic' : ((i : Int) != (cut : Int)) = true := by simp; omega
            have HS := hidIt hs2
            have HA := hidIt (at_agree2 L.out hag)
            clear hs2 hsim hag L
            go_wp2_with (go_at_call 10; refine HA.out.mono ?_; rintro e w1 ⟨rfl, h1, h2⟩; have L1 := hidIt h1; have B1 := hidIt (B.out.trans h2.below); clear h1 h2)
            exact ⟨⟨i + 1, r, S', by go_num, by omega, L1.out, B1.out, HS.out⟩, by simp [intOf]; omega⟩
        · have hlt' : ¬ (i : Int) < (n : Int) := by omega
          obtain rfl : r = 0 := by omega
          have SC := hidIt (show agC cut same n 1 S = true from hsim)
          clear hsim
          go_wp2_with fail
          clear hlt hlt'
          go_loopw [13] (fun iv wr => ∃ (i r : Nat) (S : Ls), iv = .int .i64 (i : Int) ∧ i + r = n + 1 ∧ LAt w.heap.size bp wr S ∧ Below w.heap.size w wr ∧ agC cut same r i S = true) (fun iv _ => n + 1 - (intOf iv).toNat)
          case atStart => exact ⟨1, n, S, rfl, by omega, L.out, B.out, SC.out⟩
          case round =>
            clear L B SC hir
            obtain ⟨i, r, S, rfl, hir, hl, hbl, hsim⟩ := hrel
            have L := hidIt hl
            have B := hidIt hbl
            clear hl hbl
            by_cases hlt : i ≤ n
            · have hlt' : (i : Int) ≤ (n : Int) := by omega
              obtain ⟨r, rfl⟩ : ∃ q, r = q + 1 := ⟨r - 1, by omega⟩
              obtain ⟨S', id, d, e, hld, hs2, q1, q2, q3⟩ := agC_succ hsim
              have HL := hidIt (at_load4 L.out hld)
              have HS := hidIt hs2
              have FIN : Hid (∀ W, LAt w.heap.size bp W S' → Below w.heap.size w W → (∃ (i' r' : Nat) (S : Ls), Value.int .i64 ((i : Int) + 1) = .int .i64 (i' : Int) ∧ i' + r' = n + 1 ∧ LAt w.heap.size bp W S ∧ Below w.heap.size w W ∧ agC cut same r' i' S = true) ∧ n + 1 - ((i : Int) + 1).toNat < n + 1 - ((i : Int)).toNat) := hidIt fun W h1 h2 => ⟨⟨i + 1, r, S', rfl, by omega, h1, h2, HS.out⟩, by omega⟩
              obtain ⟨fb, hfb⟩ : ∃ fb, agFirst cut i = fb := ⟨_, rfl⟩
              have HFB := hidIt hfb
              rw [hfb] at q1 q2
              have Q1 := hidIt q1
              have Q2 := hidIt q2
              have Q3 := hidIt q3
              clear hld hs2 hsim L hfb q1 q2 q3 HS
              go_upto_region 24 with (go_at_call 12; refine HL.out.mono ?_; rintro e w1 ⟨rfl, h1, h2⟩; have L1 := hidIt h1; have B1 := hidIt (B.out.trans h2.below); clear h1 h2)
              go_cut [17] from 84 to 95 (fun v wx => v = .bool fb ∧ wx = w1)
              case first =>
                have hcw : wrap64 ((cut : Int) + 1) = (cut : Int) + 1 := IntWalk.wrap64_in _ (by omega)
                have hfb := HFB.out
                unfold agFirst at hfb
                by_cases hi1 : i = 1
                · have e1 : ((i : Int) == 1) = true := by simp; omega
                  rw [decide_eq_true hi1, Bool.true_or] at hfb
                  subst hfb
                  go_wp2_with fail
                  go_meet
                  exact ⟨rfl, rfl⟩
                · have e1 : ((i : Int) == 1) = false := by simp; omega
                  rw [decide_eq_false hi1, Bool.false_or] at hfb
                  by_cases hic : i = cut + 1
                  · have e2 : (cut : Int) + 1 = (i : Int) := by omega
                    clear hcw
                    rw [decide_eq_true hic, Bool.true_and] at hfb
                    clear hic
                    by_cases hc0 : 0 < cut
                    · rw [decide_eq_true hc0] at hfb
                      subst hfb
                      have hc0' : (0 : Int) < (cut : Int) := by omega
                      go_wp2_with fail
                      go_meet
                      exact ⟨rfl, rfl⟩
                    · omega
                  · have e2 : ((i : Int) == (cut : Int) + 1) = false := by simp; omega
                    rw [decide_eq_false hic, Bool.false_and] at hfb
                    subst hfb
                    go_wp2_with fail
                    go_meet
                    exact ⟨rfl, rfl⟩
              case rest =>
                obtain ⟨rfl, rfl⟩ := hcut
                have hiw : wrap64 ((i : Int) + 1) = (i : Int) + 1 := IntWalk.wrap64_in _ (by omega)
                cases same with
                | true =>
                  obtain rfl := Q1.out rfl
                  cases fb <;>
                    (go_wp2_with fail
                     exact ⟨(FIN.out _ L1.out B1.out).1, by simp [intOf]; omega⟩)
                | false =>
                  cases fb with
                  | true =>
                    obtain rfl := Q1.out rfl
                    have hid := Q3.out rfl rfl
                    have hid2 : (id == 99 + (i : Int)) = true := by simp [hid]
                    have hid3 : (id != 99 + (i : Int)) = false := by simp [hid]
                    clear hid
                    go_wp2_with fail
                    exact ⟨(FIN.out _ L1.out B1.out).1, by simp [intOf]; omega⟩
                  | false =>
                    obtain rfl := Q2.out rfl
                    go_wp2_with fail
                    exact ⟨(FIN.out _ L1.out B1.out).1, by simp [intOf]; omega⟩
            · have hlt' : ¬ (i : Int) ≤ (n : Int) := by omega
              go_wp2_with (go_at_call 14; refine (known_any _).mono ?_; rintro e w9 ⟨rfl, hb⟩; have BK := hidIt (B.out.trans (hb.mono B.out.size)); clear hb)
              go_ret
              exact ⟨rfl, BK.out⟩
theorem lagrees_w (a b : Int) (same : Bool) (wa : (Lit.int .i64 a).wf = true) (wb : (Lit.int .i64 b).wf = true) (w : World) : Calls Try.prog 7 #[.int .i64 a, .int .i64 b, .bool same] w fun e w' => e = .returned (.bool true) ∧ Below w.heap.size w w' := by
  simp only [Lit.wf, Bool.and_eq_true, decide_eq_true_eq] at wa wb
  exact lagrees_any a b same wa wb w
end Go.Proofs.Ytacmooknfbjpeaa.J
