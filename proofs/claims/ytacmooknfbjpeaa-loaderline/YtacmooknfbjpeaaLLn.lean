/- LoaderLine: walked. -/
import Derived.Test.YtacmooknfbjpeaaLMp
import Derived.Test.YtacmooknfbjpeaaLMw
namespace Go.Proofs.Ytacmooknfbjpeaa.J
open Go.RowKit Go.MapKept Go.ChangeMaps
set_option linter.unusedVariables false

theorem lnAll_at {deep at_ : Nat} (h1 : deep < 16) (h2 : at_ ≤ deep) : lnA deep at_ deep 0 kS0 = true :=
  List.all_eq_true.1 (List.all_eq_true.1 lnAll_true deep (List.mem_range.2 h1)) at_ (List.mem_range.2 (by omega))
theorem lnB_at {deep at_ ask i : Nat} {S : Ls} (h : lnB deep at_ 0 i S = true) (h2 : ask ≤ deep) : lnC at_ ask S = true := by
  unfold lnB at h
  exact List.all_eq_true.1 h ask (List.mem_range.2 (by omega))
theorem lnA_succ {deep at_ r i : Nat} {S : Ls} (h : lnA deep at_ (r + 1) i S = true) : ∃ S' k, S.child (i : Int) = (S', k, 0) ∧ lnA deep at_ r (i + 1) S' = true := by
  unfold lnA at h
  generalize hc : S.child (i : Int) = c at h
  obtain ⟨S', k, e⟩ := c
  simp only [Bool.and_eq_true, decide_eq_true_eq] at h
  obtain ⟨rfl, h⟩ := h
  exact ⟨S', k, rfl, h⟩
theorem lnB_succ {deep at_ r i : Nat} {S : Ls} (h : lnB deep at_ (r + 1) i S = true) : ∃ S' S'', S.offer (i : Int) ⟨#[65]⟩ ⟨#[66]⟩ (100 + i) = (S', 0) ∧ S'.offer (i : Int) ⟨#[66]⟩ ⟨#[]⟩ (200 + i) = (S'', 0) ∧ lnB deep at_ r (i + 1) S'' = true := by
  unfold lnB at h
  generalize hc : S.offer (i : Int) ⟨#[65]⟩ ⟨#[66]⟩ (100 + i) = c at h
  obtain ⟨S', e⟩ := c
  dsimp only at h
  generalize hd : S'.offer (i : Int) ⟨#[66]⟩ ⟨#[]⟩ (200 + i) = d at h
  obtain ⟨S'', e'⟩ := d
  simp only [Bool.and_eq_true, decide_eq_true_eq] at h
  obtain ⟨⟨rfl, rfl⟩, h⟩ := h
  exact ⟨S', S'', rfl, hd, h⟩
theorem lnC_lt {at_ ask : Nat} {S : Ls} (h : lnC at_ ask S = true) (hlt : ask < at_) : ∃ S' i d, S.loadR (ask : Int) ⟨#[65]⟩ = some (S', i, d, 22) := by
  unfold lnC at h
  cases hc : S.loadR (ask : Int) ⟨#[65]⟩ with
  | none => rw [hc] at h; cases h
  | some q =>
    obtain ⟨S', i, d, e⟩ := q
    rw [hc] at h
    simp only [if_pos hlt, decide_eq_true_eq] at h
    exact ⟨S', i, d, by rw [h]⟩
theorem lnC_ge {at_ ask : Nat} {S : Ls} (h : lnC at_ ask S = true) (hlt : ¬ ask < at_) : ∃ S' o p, S.loadR (ask : Int) ⟨#[65]⟩ = some (S', 100 + (at_ : Int), (at_ : Int), 0) ∧ S'.ldd (at_ : Int) ⟨#[66]⟩ = some o ∧ o.1 = 200 + (at_ : Int) ∧ S'.ldd (ask : Int) ⟨#[66]⟩ = p ∧ p.isSome = decide (ask = at_) := by
  unfold lnC at h
  cases hc : S.loadR (ask : Int) ⟨#[65]⟩ with
  | none => rw [hc] at h; cases h
  | some q =>
    obtain ⟨S', i, d, e⟩ := q
    rw [hc] at h
    simp only [if_neg hlt, Bool.and_eq_true, decide_eq_true_eq] at h
    obtain ⟨⟨⟨⟨rfl, rfl⟩, rfl⟩, h4⟩, h5⟩ := h
    obtain ⟨o, ho, h6⟩ := Option.map_eq_some_iff.1 h4
    exact ⟨S', o, _, rfl, ho, h6, rfl, by simpa using h5⟩
set_option maxRecDepth 8000 in
set_option maxHeartbeats 4000000 in
theorem lline_any (a b c : Int) (ha : -9223372036854775808 ≤ a ∧ a ≤ 9223372036854775807) (hb : -9223372036854775808 ≤ b ∧ b ≤ 9223372036854775807) (hc : -9223372036854775808 ≤ c ∧ c ≤ 9223372036854775807) (w : World) : Calls Try.prog 6 #[.int .i64 a, .int .i64 b, .int .i64 c] w fun e w' => e = .returned (.bool true) ∧ Below w.heap.size w w' := by
  have W1 := hidIt (fun W => lwithin_any a ha 15 (by omega) W)
  obtain ⟨deep, hdeep⟩ : ∃ d, wnZ a 15 = d := ⟨_, rfl⟩
  have hd := wnZ_le a 15
  rw [hdeep] at W1 hd
  have W2 := hidIt (fun W => lwithin_any b hb deep (by omega) W)
  obtain ⟨at_, hat⟩ : ∃ d, wnZ b deep = d := ⟨_, rfl⟩
  have hd2 := wnZ_le b deep
  rw [hat] at W2 hd2
  have W3 := hidIt (fun W => lwithin_any c hc deep (by omega) W)
  obtain ⟨ask, hask⟩ : ∃ d, wnZ c deep = d := ⟨_, rfl⟩
  have hd3 := wnZ_le c deep
  rw [hask] at W3 hd3
  have SIM := hidIt (lnAll_at (show deep < 16 by omega) hd2)
  clear hdeep hat hask ha hb hc
  go_enter Try.func6, Try.ntmps6
  go_wp2_with (first
    | (go_at_call 8; refine (at_new _).mono ?_; rintro e w1 ⟨bp, rfl, hl, hb⟩; have A0 := hidIt (show LAt _ bp w1 kS0 from hl); have B0 := hidIt hb; clear hl hb)
    | (go_at_call 22; refine (W1.out _).mono ?_; rintro e w2 ⟨rfl, h⟩; cases h; clear W1)
    | (go_at_call 22; refine (W2.out _).mono ?_; rintro e w2 ⟨rfl, h⟩; cases h; clear W2)
    | (go_at_call 22; refine (W3.out _).mono ?_; rintro e w2 ⟨rfl, h⟩; cases h; clear W3))
  go_loopw [8] (fun iv wr => ∃ (i r : Nat) (S : Ls), iv = .int .i64 (i : Int) ∧ i + r = deep ∧ LAt w.heap.size bp wr S ∧ Below w.heap.size w wr ∧ lnA deep at_ r i S = true) (fun iv _ => deep - (intOf iv).toNat)
  case atStart => exact ⟨0, deep, kS0, rfl, by omega, A0.out, B0.out, SIM.out⟩
  case round =>
    clear A0 B0 SIM
    obtain ⟨i, r, S, rfl, hir, hl, hbl, hsim⟩ := hrel
    have L := hidIt hl
    have B := hidIt hbl
    clear hl hbl
    by_cases hlt : i < deep
    · have hlt' : (i : Int) < (deep : Int) := by omega
      obtain ⟨r, rfl⟩ : ∃ q, r = q + 1 := ⟨r - 1, by omega⟩
      obtain ⟨S', k, hch, hs2⟩ := lnA_succ hsim
      have HC := hidIt (at_child3 L.out hch)
      have HS := hidIt hs2
      clear hch hs2 hsim L
      go_wp2_with (go_at_call 9; refine HC.out.mono ?_; rintro e w1 ⟨rfl, h1, h2⟩; have L1 := hidIt h1; have B1 := hidIt (B.out.trans h2.below); clear h1 h2)
      exact ⟨⟨i + 1, r, S', by go_num, by omega, L1.out, B1.out, HS.out⟩, by simp [intOf]; omega⟩
    · have hlt' : ¬ (i : Int) < (deep : Int) := by omega
      obtain rfl : r = 0 := by omega
      have SB := hidIt (show lnB deep at_ (deep + 1 - at_) at_ S = true from hsim)
      clear hsim
      go_wp2_with fail
      clear hlt hlt'
      go_loopw [11] (fun iv wr => ∃ (i r : Nat) (S : Ls), iv = .int .i64 (i : Int) ∧ i + r = deep + 1 ∧ LAt w.heap.size bp wr S ∧ Below w.heap.size w wr ∧ lnB deep at_ r i S = true) (fun iv _ => deep + 1 - (intOf iv).toNat)
      case atStart => exact ⟨at_, deep + 1 - at_, S, rfl, by omega, L.out, B.out, SB.out⟩
      case round =>
        clear L B SB
        obtain ⟨i, r, S, rfl, hir, hl, hbl, hsim⟩ := hrel
        have L := hidIt hl
        have B := hidIt hbl
        clear hl hbl
        by_cases hlt : i ≤ deep
        · have hlt' : (i : Int) ≤ (deep : Int) := by omega
          obtain ⟨r, rfl⟩ : ∃ q, r = q + 1 := ⟨r - 1, by omega⟩
          obtain ⟨S', S'', h1, h2, hs2⟩ := lnB_succ hsim
          have O1 := hidIt (at_offer2 L.out h1)
          have O2 := hidIt h2
          have HS := hidIt hs2
          clear h1 h2 hs2 hsim L
          go_wp2_with (first
            | (go_at_call 11; refine O1.out.mono ?_; rintro e w1 ⟨rfl, h1, h2⟩; have L1 := hidIt h1; have B1 := hidIt (B.out.trans h2.below); clear h1 h2 O1)
            | (go_at_call 11; refine (at_offer2 L1.out O2.out).mono ?_; rintro e w2 ⟨rfl, h1, h2⟩; have L2 := hidIt h1; have B2 := hidIt (B1.out.trans h2.below); clear h1 h2 O2))
          exact ⟨⟨i + 1, r, S'', by go_num, by omega, L2.out, B2.out, HS.out⟩, by simp [intOf]; omega⟩
        · have hlt' : ¬ (i : Int) ≤ (deep : Int) := by omega
          obtain rfl : r = 0 := by omega
          have hC := lnB_at hsim hd3
          clear hsim hlt hlt'
          by_cases hal : ask < at_
          · obtain ⟨S', x, y, hld⟩ := lnC_lt hC hal
            have HL := hidIt (at_load4 L.out hld)
            have hal' : (ask : Int) < (at_ : Int) := by omega
            clear hC hld L
            go_wp2_with (first
              | (go_at_call 12; refine HL.out.mono ?_; rintro e w1 ⟨rfl, h1, h2⟩; have B1 := hidIt (B.out.trans h2.below); clear h1 h2 HL)
              | (go_at_call 14; refine (known_any _).mono ?_; rintro e w9 ⟨rfl, hb⟩; have BK := hidIt (B1.out.trans (hb.mono B1.out.size)); clear hb))
            go_ret
            exact ⟨rfl, BK.out⟩
          · obtain ⟨S', o, p, hld, ho, ho1, hp, hps⟩ := lnC_ge hC hal
            have HL := hidIt (at_load4 L.out hld)
            have hal' : ¬ (ask : Int) < (at_ : Int) := by omega
            have X1 : Hid (∀ W, LAt w.heap.size bp W S' → Calls Try.prog 13 #[.pointer (some ⟨bp, 0, none⟩), .int .i64 (at_ : Int), .string ⟨#[66]⟩] W fun e w' => e = .returned (.tuple #[.int .i64 (200 + (at_ : Int)), .bool true]) ∧ LAt w.heap.size bp w' S' ∧ Below W.heap.size W w') := hidIt fun W hW => by
              have := at_loaded2 hW ho
              rw [show ((some o).getD (0, 0)).1 = 200 + (at_ : Int) from ho1] at this
              exact this
            have X2 : Hid (∀ W, LAt w.heap.size bp W S' → Calls Try.prog 13 #[.pointer (some ⟨bp, 0, none⟩), .int .i64 (ask : Int), .string ⟨#[66]⟩] W fun e w' => e = .returned (.tuple #[.int .i64 (p.getD (0, 0)).1, .bool (decide (ask = at_))]) ∧ LAt w.heap.size bp w' S' ∧ Below W.heap.size W w') := hidIt fun W hW => by
              have := at_loaded2 hW hp
              rw [hps] at this
              exact this
            clear hC hld L ho ho1 hp hps
            generalize (p.getD (0, 0)).1 = px at *
            by_cases heq : ask = at_
            · subst heq
              rw [decide_eq_true rfl] at X2
              go_wp2_with (first
                | (go_at_call 12; refine HL.out.mono ?_; rintro e w1 ⟨rfl, h1, h2⟩; have L1 := hidIt h1; have B1 := hidIt (B.out.trans h2.below); clear h1 h2 HL)
                | (go_at_call 13; refine (X1.out _ L1.out).mono ?_; rintro e w2 ⟨rfl, h1, h2⟩; have L2 := hidIt h1; have B2 := hidIt (B1.out.trans (h2.mono B1.out.size)); clear h1 h2 X1 L1)
                | (go_at_call 13; refine (X2.out _ L2.out).mono ?_; rintro e w3 ⟨rfl, h1, h2⟩; have B3 := hidIt (B2.out.trans (h2.mono B2.out.size)); clear h1 h2 X2 L2)
                | (go_at_call 14; refine (known_any _).mono ?_; rintro e w9 ⟨rfl, hb⟩; have BK := hidIt (B3.out.trans (hb.mono B3.out.size)); clear hb))
              go_ret
              exact ⟨rfl, BK.out⟩
            · rw [decide_eq_false heq] at X2
              have heq' : ((ask : Int) == (at_ : Int)) = false := by simp; omega
              go_wp2_with (first
                | (go_at_call 12; refine HL.out.mono ?_; rintro e w1 ⟨rfl, h1, h2⟩; have L1 := hidIt h1; have B1 := hidIt (B.out.trans h2.below); clear h1 h2 HL)
                | (go_at_call 13; refine (X1.out _ L1.out).mono ?_; rintro e w2 ⟨rfl, h1, h2⟩; have L2 := hidIt h1; have B2 := hidIt (B1.out.trans (h2.mono B1.out.size)); clear h1 h2 X1 L1)
                | (go_at_call 13; refine (X2.out _ L2.out).mono ?_; rintro e w3 ⟨rfl, h1, h2⟩; have B3 := hidIt (B2.out.trans (h2.mono B2.out.size)); clear h1 h2 X2 L2)
                | (go_at_call 14; refine (known_any _).mono ?_; rintro e w9 ⟨rfl, hb⟩; have BK := hidIt (B3.out.trans (hb.mono B3.out.size)); clear hb))
              go_ret
              exact ⟨rfl, BK.out⟩
theorem wf_i64 {a : Int} (h : (Lit.int .i64 a).wf = true) : -9223372036854775808 ≤ a ∧ a ≤ 9223372036854775807 := by
  simp only [Lit.wf, Bool.and_eq_true, decide_eq_true_eq] at h
  exact h
theorem lline_w (a b c : Int) (wa : (Lit.int .i64 a).wf = true) (wb : (Lit.int .i64 b).wf = true) (wc : (Lit.int .i64 c).wf = true) (w : World) : Calls Try.prog 6 #[.int .i64 a, .int .i64 b, .int .i64 c] w fun e w' => e = .returned (.bool true) ∧ Below w.heap.size w w' := lline_any a b c (wf_i64 wa) (wf_i64 wb) (wf_i64 wc) w
end Go.Proofs.Ytacmooknfbjpeaa.J
