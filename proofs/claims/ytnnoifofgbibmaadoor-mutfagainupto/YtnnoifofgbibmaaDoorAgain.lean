/- MutfAgain, walked. -/
import Derived.Test.YtnnoifofgbibmaaDoorAgC
import Derived.Deep.RegionHeld3
namespace Go.Proofs.YtnnoifofgbibmaaDoor
open Go.RowKit

theorem PartAt.below' {W W' : World} {g o : Nat} {p : PartD} (h : PartAt W g o p) (hb : Below W.heap.size W W') : PartAt W' g o p :=
  ⟨cell_later hb h.c0, cell_later hb h.c1, cell_later hb h.c2, cell_later hb h.c3, cell_later hb h.c4, h.raw.below hb, h.nlo, h.nhi, h.ssz, h.rsz⟩

set_option maxHeartbeats 400000 in
theorem few_any (s : ByteArray) (w : World) : Calls Tryd.prog 36 #[.string s] w fun e w' => e = .returned (.string (fewZ s)) ∧ w' = w := by
  by_cases h : 60 < s.size
  · rw [show fewZ s = ⟨#[108, 111, 110, 103]⟩ by unfold fewZ; rw [if_pos h]]
    have h' : (60 : Int) < (s.size : Int) := by omega
    go_enter Tryd.func36, Tryd.ntmps36
    go_wp2
    go_ret
    exact ⟨rfl, rfl⟩
  · rw [show fewZ s = s by unfold fewZ; rw [if_neg h]]
    have h' : ¬ (60 : Int) < (s.size : Int) := by omega
    go_enter Tryd.func36, Tryd.ntmps36
    go_wp2
    go_ret
    exact ⟨rfl, rfl⟩

theorem recZ_len (p : PartD) (h : p.lr.length ≤ 1048576) : (recZ p).length ≤ 2000000 := by
  have := wtextZ_len (fewZ (reStr p.s))
  unfold recZ
  simp only [List.length_append, be_len]; omega
theorem recZ_bytes (p : PartD) (h : AllBytes p.lr) : AllBytes (recZ p) := (be_bytes _ _).append ((wtextZ_bytes _).append ((be_bytes _ _).append h))
theorem wstep_below {B pw : Nat} {v v' : Value} {w w' : World} (st : WStep pw v w v' w') (hz : B ≤ w.heap.size) (hp : B ≤ pw) (hv : ∀ k, v.ownBlock = some k → B ≤ k) : Below B w w' :=
  ⟨st.os, st.tape, st.output, st.size, fun q hq => st.block q (by omega) (by omega) (fun e => by have := hv q e.symm; omega)⟩

theorem wnum8 (B pw : Nat) (v0 : Value) (l : List Int) (n : Int) (w : World) (h : IsW B pw w v0 l) (hB : B ≤ w.heap.size) (hlen : l.length ≤ 1099511627776) :
    Calls Tryd.prog 13 #[.pointer (some ⟨pw, 0, none⟩), .int .i64 n, .int .i64 8] w fun e w' => e = .returned (.tuple #[]) ∧ ∃ v, IsW B pw w' v (l ++ be n 8) ∧ WStep pw v0 w v w' := by
  have := wnum_any B pw v0 l n 8 w h hB hlen
  rwa [show (min (max (8 : Int) 1) 8).toNat = 8 by decide] at this
theorem wnum4 (B pw : Nat) (v0 : Value) (l : List Int) (n : Int) (w : World) (h : IsW B pw w v0 l) (hB : B ≤ w.heap.size) (hlen : l.length ≤ 1099511627776) :
    Calls Tryd.prog 13 #[.pointer (some ⟨pw, 0, none⟩), .int .i64 n, .int .i64 4] w fun e w' => e = .returned (.tuple #[]) ∧ ∃ v, IsW B pw w' v (l ++ be n 4) ∧ WStep pw v0 w v w' := by
  have := wnum_any B pw v0 l n 4 w h hB hlen
  rwa [show (min (max (4 : Int) 1) 8).toNat = 4 by decide] at this

theorem recs_at (ps : List PartD) (k : Nat) (h : k < ps.length) (h30 : k < 30) : recs (ps.take 30) = recs (ps.take k) ++ (recZ ps[k] ++ recs ((ps.take 30).drop (k + 1))) := by
  have e : ps.take 30 = ps.take k ++ (ps[k] :: (ps.take 30).drop (k + 1)) := by
    have h1 := (List.take_append_drop k (ps.take 30)).symm
    rw [List.take_take, Nat.min_eq_left (by omega), List.drop_eq_getElem_cons (by rw [List.length_take]; omega)] at h1
    simpa using h1
  have := congrArg recs e
  rw [this]
  simp [recs]

set_option maxHeartbeats 8000000 in
theorem again_any (v : Value) (ps : List PartD) (w : World) (hT : Tabs w) (hp : Parts w v ps) :
    Calls Tryd.prog 8 #[v] w fun e w' => e = .returned (.bool true) ∧ Below w.heap.size w w' := by
  obtain ⟨ao, cap, rfl, hc, hm, hps⟩ := hp
  unfold maxLen at hm
  go_enter Tryd.func8, Tryd.ntmps8
  go_wp2_with fail
  refine (newW_any w).mono ?_
  rintro e w1 ⟨rfl, hw1⟩
  have W1 : IsW w.heap.size w.heap.size w1 (.slice none 0 0) [] := by rw [hw1]; exact newW_is w _
  have b1 : Below w.heap.size w w1 := by rw [hw1]; exact (Below.refl _ _).alloc (Nat.le_refl _) _
  clear hw1
  go_wp2
  go_loopw [4] (fun i wr => ∃ (k : Nat) (v : Value), i = .int .i64 (k : Int) ∧ k ≤ ps.length ∧ k ≤ 30 ∧ IsW w.heap.size w.heap.size wr v (recs (ps.take k)) ∧ Below w.heap.size w wr ∧ AllBytes (recs (ps.take k)) ∧ (recs (ps.take k)).length ≤ k * 2000000) (fun i _ => 30 - (intOf i).toNat)
  case atStart => exact ⟨0, .slice none 0 0, rfl, Nat.zero_le _, Nat.zero_le _, W1, b1, AllBytes.nil, by simp [recs]⟩
  case round =>
    clear W1 b1
    obtain ⟨k, vw, rfl, hk, hk30, hW, hbw, hab, hal⟩ := hrel
    by_cases hlt : k < ps.length ∧ k < 30
    · obtain ⟨hlt, hlt30⟩ := hlt
      obtain ⟨g, off, rfl, hpa⟩ : ∃ g off, ao = some ⟨g, off, none⟩ ∧ ∀ i p, ps[i]? = some p → PartAt w g (off + i * 5) p := by
        rcases hps with e | h
        · rw [e] at hlt; simp at hlt
        · exact h
      have hpt := hpa k ps[k] (by simp [hlt])
      have HS : Hid (recs (ps.take (k + 1)) = recs (ps.take k) ++ recZ ps[k]) := by
        show _ = _
        rw [List.take_succ_eq_append_getElem hlt, recs_snoc]
      have hrl := recZ_len ps[k] hpt.rsz
      have hrb := recZ_bytes ps[k] (by obtain ⟨_, _, _, _, _, h, _⟩ := hpt.raw; exact h)
      generalize ps[k] = p at *
      have hpw := hpt.below' hbw
      obtain ⟨kind, bytes, n, s, vr, lr⟩ := p
      obtain ⟨c0, c1, c2, c3, c4, hraw, hnlo, hnhi, hss, hrs⟩ := hpw
      simp only at c0 c1 c2 c3 c4 hraw hss hrs hnlo hnhi
      obtain ⟨aor, capr, rfl, -⟩ := id hraw
      have hraw0 : View w (.slice aor lr.length capr) lr := hpt.raw
      have hlt' : (k : Int) < (ps.length : Int) := by omega
      have hlt3' : (k : Int) < 30 := by omega
      have hzw := hbw.size
      generalize recs (ps.take k) = L0 at *
      have hal2 : L0.length ≤ 60000000 := by omega
      clear hpa hps
      go_wp2_with fail
      refine (wnum8 w.heap.size w.heap.size vw L0 n wr hW hzw (by omega)).mono ?_
      rintro e w2 ⟨rfl, v2, hW2, st2⟩
      have hB2 := hbw.trans (wstep_below st2 hzw (Nat.le_refl _) (fun q h => (hW.own.lt q h).1))
      have hz2 := hB2.size
      obtain ⟨-, -, -, e3, e4, -⟩ := hpt.below' hB2
      simp only at e3 e4
      obtain ⟨vc, wc, hc1, hc2, bc⟩ := run_reStr w2 s (by omega)
      go_wp2_with fail
      refine (few_any (reStr s) wc).mono ?_
      rintro e w3 ⟨rfl, hww⟩; cases hww
      clear hc1 hc2
      have hWc := hW2.below bc
      have hBc := hB2.trans (bc.mono hz2)
      have hzc := hBc.size
      have hfs := few_size s
      go_wp2_with fail
      refine (wtext_any w.heap.size w.heap.size v2 _ (fewZ (reStr s)) wc hWc hzc (by rw [List.length_append, be_len]; omega) (hT.below hBc) (by omega)).mono ?_
      rintro e w4 ⟨rfl, v4, hW4, st4⟩
      have hB4 := hBc.trans (wstep_below st4 hzc (Nat.le_refl _) (fun q h => (hWc.own.lt q h).1))
      have hz4 := hB4.size
      obtain ⟨-, -, -, -, f4, -⟩ := hpt.below' hB4
      simp only at f4
      have hwl := wtextZ_len (fewZ (reStr s))
      go_wp2_with fail
      refine (wnum4 w.heap.size w.heap.size v4 _ (lr.length : Int) w4 hW4 hz4 (by simp only [List.length_append, be_len]; omega)).mono ?_
      rintro e w5 ⟨rfl, v5, hW5, st5⟩
      have hB5 := hB4.trans (wstep_below st5 hz4 (Nat.le_refl _) (fun q h => (hW4.own.lt q h).1))
      have hz5 := hB5.size
      obtain ⟨-, -, -, -, g4, -⟩ := hpt.below' hB5
      simp only at g4
      go_wp2_with fail
      refine (wbytes_any w.heap.size w.heap.size v5 (.slice aor lr.length capr) _ lr w5 hW5 (hraw0.below hB5) hz5 (by simp only [List.length_append, be_len]; omega)).mono ?_
      rintro e w6 ⟨rfl, v6, hW6, st6⟩
      have hB6 := hB5.trans (wstep_below st6 hz5 (Nat.le_refl _) (fun q h => (hW5.own.lt q h).1))
      go_wp2
      refine ⟨⟨k + 1, v6, by go_num, by omega, by omega, ?_, hB6, ?_, ?_⟩, by simp [intOf]; omega⟩
      · rw [HS.out]; unfold recZ; simpa using hW6
      · rw [HS.out]; exact hab.append hrb
      · rw [HS.out, List.length_append]; omega
    · have hke : ps.take k = ps.take 30 := by
        by_cases h30 : k = 30
        · rw [h30]
        · rw [List.take_of_length_le (by omega), List.take_of_length_le (by omega)]
      rw [hke] at hW hab hal
      generalize hL : recs (ps.take 30) = L at *
      have hal2 : L.length ≤ 60000000 := by omega
      have hzw := hbw.size
      have hexit : ¬ (k : Int) < (ps.length : Int) ∨ ((k : Int) < (ps.length : Int) ∧ ¬ (k : Int) < 30) := by omega
      rcases hexit with he | ⟨he, he2⟩
      · go_wp2_with fail
        refine (done_any w.heap.size w.heap.size vw L wr hW hab (by omega)).mono ?_
        rintro e w2 ⟨b2, vd, rfl, od⟩
        have B2 := hbw.trans (b2.mono hzw)
        have z2 := B2.size
        have hbz2 := b2.size
        go_wp2_with fail
        refine (newR_any vd L w2 (View.of_own od hab) (by omega)).mono ?_
        rintro e w3 ⟨b3, pr, vr, rfl, hpr, R3, -⟩
        have B3 := B2.trans (b3.mono z2)
        have hpr0 : w.heap.size ≤ pr := by omega
        clear b2 b3 od B2 hW hbw hbz2 hpr
        go_wp2
        go_loopw [6] (fun i wr => ∃ (k : Nat), i = .int .i64 (k : Int) ∧ k ≤ ps.length ∧ k ≤ 30 ∧ IsR pr wr vr L (recs (ps.take k)).length 0 ∧ Below w.heap.size w wr) (fun i _ => 30 - (intOf i).toNat)
        case atStart => exact ⟨0, rfl, Nat.zero_le _, Nat.zero_le _, by simpa [recs] using R3, B3⟩
        case round =>
          clear R3 B3
          obtain ⟨j, rfl, hj, hj30, hR, hbw⟩ := hrel
          by_cases hlt2 : j < ps.length ∧ j < 30
          · obtain ⟨hlt2, hlt30⟩ := hlt2
            obtain ⟨g, off, rfl, hpa⟩ : ∃ g off, ao = some ⟨g, off, none⟩ ∧ ∀ i p, ps[i]? = some p → PartAt w g (off + i * 5) p := by
              rcases hps with e | h
              · rw [e] at hlt2; simp at hlt2
              · exact h
            have hpt := hpa j ps[j] (by simp [hlt2])
            have HL := recs_at ps j hlt2 hlt30
            rw [hL, rec_split] at HL
            have HSN : Hid ((recs (ps.take (j + 1))).length = (recs (ps.take j)).length + (recZ ps[j]).length) := by
              show _ = _
              rw [List.take_succ_eq_append_getElem hlt2, recs_snoc, List.length_append]
            generalize ps[j] = p at *
            generalize recs (ps.take j) = A at *
            generalize recs ((ps.take 30).drop (j + 1)) = Y at *
            obtain ⟨kind, bytes, n, s, vrw, lr⟩ := p
            have hlr := hpt.rsz
            have hss := hpt.ssz
            have hn0 := hpt.nlo
            have hn1 := hpt.nhi
            simp only at hlr hss hn0 hn1 HL
            have hraw0 : View w vrw lr := hpt.raw
            obtain ⟨aor, capr, rfl, -⟩ := id hraw0
            have hlby : AllBytes lr := by obtain ⟨_, _, _, _, _, h, _⟩ := hraw0; exact h
            -- the four readings, wherever the reader stands in memory
            have H1 : Hid (∀ W, IsR pr W vr L A.length 0 → Calls Tryd.prog 27 #[.pointer (some ⟨pr, 0, none⟩), .int .i64 8] W fun e w' => e = .returned (.int .i64 n) ∧ IsR pr w' vr L (A.length + 8) 0 ∧ Only pr W w') := by
              intro W hr
              have := rnum8_at pr vr A _ n W (by rw [← HL]; exact hr) hn0 hn1
              rwa [← HL] at this
            have H2 : Hid (∀ W, IsR pr W vr L (A.length + 8) 0 → Calls Tryd.prog 15 #[.pointer (some ⟨pr, 0, none⟩)] W fun e w' => e = .returned (.string (fewZ (reStr s))) ∧ IsR pr w' vr L (A.length + 8 + (wtextZ (fewZ (reStr s))).length) 0 ∧ Only pr W w') := by
              intro W hr
              have e : L = (A ++ be n 8) ++ (wtextZ (fewZ (reStr s)) ++ (be (lr.length : Nat) 4 ++ (lr ++ Y))) := by rw [HL]; simp
              have := rtext_at_any pr vr (A ++ be n 8) _ s W (by rw [← e]; rw [List.length_append, be_len]; exact hr)
              rw [← e, List.length_append, be_len] at this
              exact this
            have H3 : Hid (∀ W, IsR pr W vr L (A.length + 8 + (wtextZ (fewZ (reStr s))).length) 0 → Calls Tryd.prog 27 #[.pointer (some ⟨pr, 0, none⟩), .int .i64 4] W fun e w' => e = .returned (.int .i64 (lr.length : Int)) ∧ IsR pr w' vr L (A.length + 8 + (wtextZ (fewZ (reStr s))).length + 4) 0 ∧ Only pr W w') := by
              intro W hr
              have e : L = ((A ++ be n 8) ++ wtextZ (fewZ (reStr s))) ++ (be (lr.length : Nat) 4 ++ (lr ++ Y)) := by rw [HL]; simp
              have := rnum4_at pr vr ((A ++ be n 8) ++ wtextZ (fewZ (reStr s))) _ lr.length W (by rw [← e]; simp only [List.length_append, be_len]; exact hr) hlr
              rw [← e] at this
              simp only [List.length_append, be_len] at this
              exact this
            have H4 : Hid (∀ W, IsR pr W vr L (A.length + 8 + (wtextZ (fewZ (reStr s))).length + 4) 0 → Calls Tryd.prog 16 #[.pointer (some ⟨pr, 0, none⟩), .int .i64 (lr.length : Int)] W fun e w' => ∃ v', e = .returned v' ∧ w'.ownsRow W.heap.size 5 1 v' lr.length (bcells lr) ∧ IsR pr w' vr L (recs (ps.take (j + 1))).length 0 ∧ Only pr W w') := by
              intro W hr
              have e : L = (((A ++ be n 8) ++ wtextZ (fewZ (reStr s))) ++ be (lr.length : Nat) 4) ++ (lr ++ Y) := by rw [HL]; simp
              have := rbytes_at pr vr (((A ++ be n 8) ++ wtextZ (fewZ (reStr s))) ++ be (lr.length : Nat) 4) lr Y W (by rw [← e]; simp only [List.length_append, be_len]; exact hr) (by rw [← e]; omega)
              rw [← e] at this
              rw [HSN.out]
              unfold recZ
              simp only [List.length_append, be_len] at this ⊢
              simpa [Nat.add_assoc] using this
            have hcv1 := cv1 s (by omega)
            have hcv2 : ∀ wx, (convert 46 9 (cvV s wx)).run Tryd.prog (cvW s wx) = .ok (.string (reStr s)) (cvW s wx) := fun wx => cv2 s wx _ rfl
            have mkS : Hid (∀ w', Below w.heap.size w w' → w'.cell? ⟨g, off + j * 5 + 2, none⟩ = some (.int .i64 n) ∧ w'.cell? ⟨g, off + j * 5 + 3, none⟩ = some (.string s) ∧ w'.cell? ⟨g, off + j * 5 + 4, none⟩ = some (.slice aor lr.length capr) ∧ (convert 25 9 (.slice aor lr.length capr)).run Tryd.prog w' = .ok (.string (strOfNums lr)) w') := by
              intro w' hb
              have hq := hpt.below' hb
              exact ⟨hq.c2, hq.c3, hq.c4, run_string (hraw0.below hb)⟩
            have hj1' : (j : Int) < (ps.length : Int) := by omega
            have hj2' : (j : Int) < 30 := by omega
            have hzw2 := hbw.size
            clear hpa hps HL hL hpt
            have HFew : Hid (∀ W, Calls Tryd.prog 36 #[.string (reStr s)] W fun e w' => e = .returned (.string (fewZ (reStr s))) ∧ w' = W) := fun W => few_any (reStr s) W
            generalize hF : fewZ (reStr s) = F at *
            have HF := hidIt hF
            clear hF
            have hRd : IsR pr wr.drew vr L A.length 0 := ⟨hR.blk, hR.view, hR.le⟩
            have hBd : Below w.heap.size w wr.drew := hbw.drew
            have hprlt := hR.lt
            have thenB : ∀ {W w' : World}, Below w.heap.size w W → Only pr W w' → Below w.heap.size w w' := fun hb o => hb.trans (o.below hb.size hpr0)
            have belowCv : ∀ {W : World}, Below w.heap.size w W → Below w.heap.size w (cvW s W) := fun hb => hb.trans ((cvW_below s _).mono hb.size)
            clear hR hbw
            go_wp2
            refine wp_region_noPanic ?_
            refine wp_region_held_drew (S := (fun w' => w'.cell? ⟨g, off + j * 5 + 2, none⟩ = some (.int .i64 n) ∧ w'.cell? ⟨g, off + j * 5 + 3, none⟩ = some (.string s) ∧ w'.cell? ⟨g, off + j * 5 + 4, none⟩ = some (.slice aor lr.length capr) ∧ (convert 25 9 (.slice aor lr.length capr)).run Tryd.prog w' = .ok (.string (strOfNums lr)) w')) (by kernel_rfl) ?_ (fun hHeld => ?_)
            · (try dsimp only); first | exact mkS.out _ (by assumption) | exact mkS.out _ (belowCv (by assumption))
            refine wpAnyH_take (i := 0) (oi := { dst := some 69, op := Op.move (Operand.tmp 5), type := 30, pos := "law.go:167", after := #[], guard := none }) (v := ?v1) rfl (by kernel_rfl) (by kernel_rfl) (by kernel_rfl) (fun _ _ _ h => h) (Or.inl ⟨by rfl, ?hy1⟩) (by assumption) ?rest1
            case hy1 => intro w hSw; (try dsimp only at hSw); go_simp; try with_reducible rfl
            try simp only [Act.put, List.setIfInBounds_toArray, List.set_cons_zero, List.set_cons_succ]
            refine wpAnyH_take (i := 2) (oi := { dst := some 71, op := Op.move (Operand.tmp 0), type := 47, pos := "law.go:167", after := #[], guard := none }) (v := ?v2) rfl (by kernel_rfl) (by kernel_rfl) (by kernel_rfl) (fun _ _ _ h => h) (Or.inl ⟨by rfl, ?hy2⟩) (by assumption) ?rest2
            case hy2 => intro w hSw; (try dsimp only at hSw); go_simp; try with_reducible rfl
            try simp only [Act.put, List.setIfInBounds_toArray, List.set_cons_zero, List.set_cons_succ]
            refine wpAnyH_take (i := 3) (oi := { dst := some 72, op := Op.move (Operand.tmp 6), type := 3, pos := "law.go:167", after := #[], guard := none }) (v := ?v3) rfl (by kernel_rfl) (by kernel_rfl) (by kernel_rfl) (fun _ _ _ h => h) (Or.inl ⟨by rfl, ?hy3⟩) (by assumption) ?rest3
            case hy3 => intro w hSw; (try dsimp only at hSw); go_simp; try with_reducible rfl
            try simp only [Act.put, List.setIfInBounds_toArray, List.set_cons_zero, List.set_cons_succ]
            refine wpAnyH_take (i := 4) (oi := { dst := some 73, op := Op.indexAddr 47 (Operand.tmp 71) (Operand.tmp 72), type := 0, pos := "law.go:167", after := #[{ on := 2, ground := Ground.data }, { on := 3, ground := Ground.data }], guard := none }) (v := ?v4) rfl (by kernel_rfl) (by kernel_rfl) (by kernel_rfl) (fun _ _ _ h => h) (Or.inl ⟨by rfl, ?hy4⟩) (by assumption) ?rest4
            case hy4 => intro w hSw; (try dsimp only at hSw); go_simp; try with_reducible rfl
            try simp only [Act.put, List.setIfInBounds_toArray, List.set_cons_zero, List.set_cons_succ]
            refine wpAnyH_take (i := 5) (oi := { dst := some 74, op := Op.fieldAddr 49 (Operand.tmp 73) 2, type := 0, pos := "law.go:167", after := #[{ on := 4, ground := Ground.data }], guard := none }) (v := ?v5) rfl (by kernel_rfl) (by kernel_rfl) (by kernel_rfl) (fun _ _ _ h => h) (Or.inl ⟨by rfl, ?hy5⟩) (by assumption) ?rest5
            case hy5 => intro w hSw; (try dsimp only at hSw); go_simp; try with_reducible rfl
            try simp only [Act.put, List.setIfInBounds_toArray, List.set_cons_zero, List.set_cons_succ]
            refine wpAnyH_take (i := 6) (oi := { dst := some 75, op := Op.load 2 (Operand.tmp 74), type := 2, pos := "law.go:167", after := #[{ on := 5, ground := Ground.data }], guard := none }) (v := ?v6) rfl (by kernel_rfl) (by kernel_rfl) (by kernel_rfl) (fun _ _ _ h => h) (Or.inl ⟨by rfl, ?hy6⟩) (by assumption) ?rest6
            case hy6 => intro w hSw; (try dsimp only at hSw); go_simp; try with_reducible rfl
            try simp only [Act.put, List.setIfInBounds_toArray, List.set_cons_zero, List.set_cons_succ]
            refine wpAnyH_ready (rs := [1]) (by kernel_rfl) (by simp) ?_
            refine AllReadyH.cons (o := { dst := some 70, op := Op.call { callee := Callee.value (Operand.func 27), args := #[Operand.tmp 69, Operand.const (Value.int IntKind.i64 8)], argTypes := #[30, 3] }, type := 2, pos := "law.go:167", after := #[{ on := 0, ground := Ground.data }], guard := none }) rfl (fun K hK => ?_) AllReadyH.nil
            go_simp
            refine (H1.out _ (by assumption)).mono ?_; rintro e w1 ⟨rfl, r1, o1⟩; have hB1 := thenB hBd o1; have hz1 := o1.size
            try go_wp2_with fail
            refine hK.out _ _ ?hS7 ?rest7
            case hS7 => (try dsimp only); first | exact mkS.out _ (by assumption) | exact mkS.out _ (belowCv (by assumption))
            clear hK K hHeld
            intro hHeld
            try simp only [Act.put, List.setIfInBounds_toArray, List.set_cons_zero, List.set_cons_succ]
            refine wpAnyH_take (i := 7) (oi := { dst := some 76, op := Op.binOp BinOp.neq 2 (Operand.tmp 70) (Operand.tmp 75) 2, type := 4, pos := "law.go:167", after := #[{ on := 1, ground := Ground.data }, { on := 6, ground := Ground.data }], guard := none }) (v := ?v8) rfl (by kernel_rfl) (by kernel_rfl) (by kernel_rfl) (fun _ _ _ h => h) (Or.inl ⟨by rfl, ?hy8⟩) (by assumption) ?rest8
            case hy8 => intro w hSw; (try dsimp only at hSw); go_simp; try with_reducible rfl
            try simp only [Act.put, List.setIfInBounds_toArray, List.set_cons_zero, List.set_cons_succ]
            refine wpAnyH_take (i := 8) (oi := { dst := some 77, op := Op.move (Operand.tmp 76), type := 4, pos := "law.go:167", after := #[{ on := 7, ground := Ground.data }, { on := 1, ground := Ground.chain }], guard := none }) (v := ?v9) rfl (by kernel_rfl) (by kernel_rfl) (by kernel_rfl) (fun _ _ _ h => h) (Or.inl ⟨by rfl, ?hy9⟩) (by assumption) ?rest9
            case hy9 => intro w hSw; (try dsimp only at hSw); go_simp; try with_reducible rfl
            try simp only [Act.put, List.setIfInBounds_toArray, List.set_cons_zero, List.set_cons_succ]
            refine wpAnyH_take (i := 9) (oi := { dst := some 78, op := Op.move (Operand.tmp 5), type := 30, pos := "law.go:167", after := #[{ on := 8, ground := Ground.guard }], guard := some (8, false) }) (v := ?v10) rfl (by kernel_rfl) (by kernel_rfl) (by kernel_rfl) (fun _ _ _ h => h) (Or.inl ⟨by rfl, ?hy10⟩) (by assumption) ?rest10
            case hy10 => intro w hSw; (try dsimp only at hSw); go_simp; try with_reducible rfl
            try simp only [Act.put, List.setIfInBounds_toArray, List.set_cons_zero, List.set_cons_succ]
            refine wpAnyH_take (i := 11) (oi := { dst := some 80, op := Op.move (Operand.tmp 0), type := 47, pos := "law.go:167", after := #[{ on := 8, ground := Ground.guard }], guard := some (8, false) }) (v := ?v11) rfl (by kernel_rfl) (by kernel_rfl) (by kernel_rfl) (fun _ _ _ h => h) (Or.inl ⟨by rfl, ?hy11⟩) (by assumption) ?rest11
            case hy11 => intro w hSw; (try dsimp only at hSw); go_simp; try with_reducible rfl
            try simp only [Act.put, List.setIfInBounds_toArray, List.set_cons_zero, List.set_cons_succ]
            refine wpAnyH_take (i := 12) (oi := { dst := some 81, op := Op.move (Operand.tmp 6), type := 3, pos := "law.go:167", after := #[{ on := 8, ground := Ground.guard }], guard := some (8, false) }) (v := ?v12) rfl (by kernel_rfl) (by kernel_rfl) (by kernel_rfl) (fun _ _ _ h => h) (Or.inl ⟨by rfl, ?hy12⟩) (by assumption) ?rest12
            case hy12 => intro w hSw; (try dsimp only at hSw); go_simp; try with_reducible rfl
            try simp only [Act.put, List.setIfInBounds_toArray, List.set_cons_zero, List.set_cons_succ]
            refine wpAnyH_take (i := 13) (oi := { dst := some 82, op := Op.indexAddr 47 (Operand.tmp 80) (Operand.tmp 81), type := 0, pos := "law.go:167", after := #[{ on := 11, ground := Ground.data }, { on := 12, ground := Ground.data }, { on := 8, ground := Ground.guard }], guard := some (8, false) }) (v := ?v13) rfl (by kernel_rfl) (by kernel_rfl) (by kernel_rfl) (fun _ _ _ h => h) (Or.inl ⟨by rfl, ?hy13⟩) (by assumption) ?rest13
            case hy13 => intro w hSw; (try dsimp only at hSw); go_simp; try with_reducible rfl
            try simp only [Act.put, List.setIfInBounds_toArray, List.set_cons_zero, List.set_cons_succ]
            refine wpAnyH_take (i := 14) (oi := { dst := some 83, op := Op.fieldAddr 49 (Operand.tmp 82) 3, type := 0, pos := "law.go:167", after := #[{ on := 13, ground := Ground.data }, { on := 8, ground := Ground.guard }], guard := some (8, false) }) (v := ?v14) rfl (by kernel_rfl) (by kernel_rfl) (by kernel_rfl) (fun _ _ _ h => h) (Or.inl ⟨by rfl, ?hy14⟩) (by assumption) ?rest14
            case hy14 => intro w hSw; (try dsimp only at hSw); go_simp; try with_reducible rfl
            try simp only [Act.put, List.setIfInBounds_toArray, List.set_cons_zero, List.set_cons_succ]
            refine wpAnyH_take (i := 15) (oi := { dst := some 84, op := Op.load 9 (Operand.tmp 83), type := 9, pos := "law.go:167", after := #[{ on := 14, ground := Ground.data }, { on := 8, ground := Ground.guard }], guard := some (8, false) }) (v := ?v15) rfl (by kernel_rfl) (by kernel_rfl) (by kernel_rfl) (fun _ _ _ h => h) (Or.inl ⟨by rfl, ?hy15⟩) (by assumption) ?rest15
            case hy15 => intro w hSw; (try dsimp only at hSw); go_simp; try with_reducible rfl
            try simp only [Act.put, List.setIfInBounds_toArray, List.set_cons_zero, List.set_cons_succ]
            refine wpAnyH_ready (rs := [10, 16]) (by kernel_rfl) (by simp) ?_
            refine AllReadyH.cons (o := { dst := some 79, op := Op.call { callee := Callee.value (Operand.func 15), args := #[Operand.tmp 78], argTypes := #[30] }, type := 9, pos := "law.go:167", after := #[{ on := 9, ground := Ground.data }, { on := 8, ground := Ground.chain }, { on := 8, ground := Ground.guard }], guard := some (8, false) }) rfl (fun K hK => ?_) (AllReadyH.cons (o := { dst := some 85, op := Op.convert 9 46 (Operand.tmp 84), type := 46, pos := "law.go:167", after := #[{ on := 15, ground := Ground.data }, { on := 8, ground := Ground.guard }], guard := some (8, false) }) rfl (fun K hK => ?_) AllReadyH.nil)
            · skip
              go_simp
              refine (H2.out _ (by first | assumption | exact IsR.below (by assumption) (cvW_below s _))).mono ?_; rintro e w2 ⟨rfl, r2, o2⟩; have hB2 := thenB (by first | assumption | exact belowCv (by assumption)) o2; try have hcv3 := cv2 s _ w2 (o2.block _ (cvW_lt s _) (by have h9 := r1.lt; omega))
              try go_wp2_with fail
              refine hK.out _ _ ?hS16 ?rest16
              case hS16 => (try dsimp only); first | exact mkS.out _ (by assumption) | exact mkS.out _ (belowCv (by assumption))
              clear hK K hHeld
              intro hHeld
              try simp only [Act.put, List.setIfInBounds_toArray, List.set_cons_zero, List.set_cons_succ]
              refine wpAnyH_ready (rs := [16]) (by kernel_rfl) (by simp) ?_
              refine AllReadyH.cons (o := { dst := some 85, op := Op.convert 9 46 (Operand.tmp 84), type := 46, pos := "law.go:167", after := #[{ on := 15, ground := Ground.data }, { on := 8, ground := Ground.guard }], guard := some (8, false) }) rfl (fun K hK => ?_) AllReadyH.nil
              go_simp
              try go_wp2_with fail
              refine hK.out _ _ ?hS17 ?rest17
              case hS17 => (try dsimp only); first | exact mkS.out _ (by assumption) | exact mkS.out _ (belowCv (by assumption))
              clear hK K hHeld
              intro hHeld
              try simp only [Act.put, List.setIfInBounds_toArray, List.set_cons_zero, List.set_cons_succ]
              refine wpAnyH_ready (rs := [17]) (by kernel_rfl) (by simp) ?_
              refine AllReadyH.cons (o := { dst := some 86, op := Op.convert 46 9 (Operand.tmp 85), type := 9, pos := "law.go:167", after := #[{ on := 16, ground := Ground.data }, { on := 8, ground := Ground.guard }], guard := some (8, false) }) rfl (fun K hK => ?_) AllReadyH.nil
              go_simp
              try go_wp2_with fail
              refine hK.out _ _ ?hS18 ?rest18
              case hS18 => (try dsimp only); first | exact mkS.out _ (by assumption) | exact mkS.out _ (belowCv (by assumption))
              clear hK K hHeld
              intro hHeld
              try simp only [Act.put, List.setIfInBounds_toArray, List.set_cons_zero, List.set_cons_succ]
              refine wpAnyH_ready (rs := [18]) (by kernel_rfl) (by simp) ?_
              refine AllReadyH.cons (o := { dst := some 87, op := Op.call { callee := Callee.value (Operand.func 36), args := #[Operand.tmp 86], argTypes := #[9] }, type := 9, pos := "law.go:167", after := #[{ on := 17, ground := Ground.data }, { on := 10, ground := Ground.chain }, { on := 8, ground := Ground.guard }], guard := some (8, false) }) rfl (fun K hK => ?_) AllReadyH.nil
              go_simp
              refine (HFew.out _).mono ?_; rintro e w9 ⟨rfl, hww⟩; cases hww
              try go_wp2_with fail
              refine hK.out _ _ ?hS19 ?rest19
              case hS19 => (try dsimp only); first | exact mkS.out _ (by assumption) | exact mkS.out _ (belowCv (by assumption))
              clear hK K hHeld
              intro hHeld
              try simp only [Act.put, List.setIfInBounds_toArray, List.set_cons_zero, List.set_cons_succ]
              refine wpAnyH_take (i := 19) (oi := { dst := some 88, op := Op.binOp BinOp.neq 9 (Operand.tmp 79) (Operand.tmp 87) 9, type := 4, pos := "law.go:167", after := #[{ on := 10, ground := Ground.data }, { on := 18, ground := Ground.data }, { on := 8, ground := Ground.guard }], guard := some (8, false) }) (v := ?v20) rfl (by kernel_rfl) (by kernel_rfl) (by kernel_rfl) (fun _ _ _ h => h) (Or.inl ⟨by rfl, ?hy20⟩) (by assumption) ?rest20
              case hy20 => intro w hSw; (try dsimp only at hSw); go_simp; try with_reducible rfl
              try simp only [Act.put, List.setIfInBounds_toArray, List.set_cons_zero, List.set_cons_succ]
              refine wpAnyH_take (i := 20) (oi := { dst := some 89, op := Op.pick (Operand.tmp 77) (Operand.const (Value.bool true)) (Operand.tmp 88), type := 4, pos := "law.go:167", after := #[{ on := 8, ground := Ground.data }, { on := 19, ground := Ground.data }], guard := none }) (v := ?v21) rfl (by kernel_rfl) (by kernel_rfl) (by kernel_rfl) (fun _ _ _ h => h) (Or.inl ⟨by rfl, ?hy21⟩) (by assumption) ?rest21
              case hy21 => intro w hSw; (try dsimp only at hSw); go_simp; try with_reducible rfl
              try simp only [Act.put, List.setIfInBounds_toArray, List.set_cons_zero, List.set_cons_succ]
              refine wpAnyH_take (i := 21) (oi := { dst := some 90, op := Op.move (Operand.tmp 89), type := 4, pos := "law.go:167", after := #[{ on := 20, ground := Ground.data }, { on := 18, ground := Ground.chain }], guard := none }) (v := ?v22) rfl (by kernel_rfl) (by kernel_rfl) (by kernel_rfl) (fun _ _ _ h => h) (Or.inl ⟨by rfl, ?hy22⟩) (by assumption) ?rest22
              case hy22 => intro w hSw; (try dsimp only at hSw); go_simp; try with_reducible rfl
              try simp only [Act.put, List.setIfInBounds_toArray, List.set_cons_zero, List.set_cons_succ]
              refine wpAnyH_take (i := 22) (oi := { dst := some 91, op := Op.move (Operand.tmp 5), type := 30, pos := "law.go:167", after := #[{ on := 21, ground := Ground.guard }], guard := some (21, false) }) (v := ?v23) rfl (by kernel_rfl) (by kernel_rfl) (by kernel_rfl) (fun _ _ _ h => h) (Or.inl ⟨by rfl, ?hy23⟩) (by assumption) ?rest23
              case hy23 => intro w hSw; (try dsimp only at hSw); go_simp; try with_reducible rfl
              try simp only [Act.put, List.setIfInBounds_toArray, List.set_cons_zero, List.set_cons_succ]
              refine wpAnyH_take (i := 23) (oi := { dst := some 92, op := Op.move (Operand.tmp 5), type := 30, pos := "law.go:167", after := #[{ on := 21, ground := Ground.guard }], guard := some (21, false) }) (v := ?v24) rfl (by kernel_rfl) (by kernel_rfl) (by kernel_rfl) (fun _ _ _ h => h) (Or.inl ⟨by rfl, ?hy24⟩) (by assumption) ?rest24
              case hy24 => intro w hSw; (try dsimp only at hSw); go_simp; try with_reducible rfl
              try simp only [Act.put, List.setIfInBounds_toArray, List.set_cons_zero, List.set_cons_succ]
              refine wpAnyH_take (i := 27) (oi := { dst := some 96, op := Op.move (Operand.tmp 0), type := 47, pos := "law.go:167", after := #[{ on := 21, ground := Ground.guard }], guard := some (21, false) }) (v := ?v25) rfl (by kernel_rfl) (by kernel_rfl) (by kernel_rfl) (fun _ _ _ h => h) (Or.inl ⟨by rfl, ?hy25⟩) (by assumption) ?rest25
              case hy25 => intro w hSw; (try dsimp only at hSw); go_simp; try with_reducible rfl
              try simp only [Act.put, List.setIfInBounds_toArray, List.set_cons_zero, List.set_cons_succ]
              refine wpAnyH_take (i := 28) (oi := { dst := some 97, op := Op.move (Operand.tmp 6), type := 3, pos := "law.go:167", after := #[{ on := 21, ground := Ground.guard }], guard := some (21, false) }) (v := ?v26) rfl (by kernel_rfl) (by kernel_rfl) (by kernel_rfl) (fun _ _ _ h => h) (Or.inl ⟨by rfl, ?hy26⟩) (by assumption) ?rest26
              case hy26 => intro w hSw; (try dsimp only at hSw); go_simp; try with_reducible rfl
              try simp only [Act.put, List.setIfInBounds_toArray, List.set_cons_zero, List.set_cons_succ]
              refine wpAnyH_take (i := 29) (oi := { dst := some 98, op := Op.indexAddr 47 (Operand.tmp 96) (Operand.tmp 97), type := 0, pos := "law.go:167", after := #[{ on := 27, ground := Ground.data }, { on := 28, ground := Ground.data }, { on := 21, ground := Ground.guard }], guard := some (21, false) }) (v := ?v27) rfl (by kernel_rfl) (by kernel_rfl) (by kernel_rfl) (fun _ _ _ h => h) (Or.inl ⟨by rfl, ?hy27⟩) (by assumption) ?rest27
              case hy27 => intro w hSw; (try dsimp only at hSw); go_simp; try with_reducible rfl
              try simp only [Act.put, List.setIfInBounds_toArray, List.set_cons_zero, List.set_cons_succ]
              refine wpAnyH_take (i := 30) (oi := { dst := some 99, op := Op.fieldAddr 49 (Operand.tmp 98) 4, type := 0, pos := "law.go:167", after := #[{ on := 29, ground := Ground.data }, { on := 21, ground := Ground.guard }], guard := some (21, false) }) (v := ?v28) rfl (by kernel_rfl) (by kernel_rfl) (by kernel_rfl) (fun _ _ _ h => h) (Or.inl ⟨by rfl, ?hy28⟩) (by assumption) ?rest28
              case hy28 => intro w hSw; (try dsimp only at hSw); go_simp; try with_reducible rfl
              try simp only [Act.put, List.setIfInBounds_toArray, List.set_cons_zero, List.set_cons_succ]
              refine wpAnyH_take (i := 31) (oi := { dst := some 100, op := Op.load 25 (Operand.tmp 99), type := 25, pos := "law.go:167", after := #[{ on := 30, ground := Ground.data }, { on := 21, ground := Ground.guard }], guard := some (21, false) }) (v := ?v29) rfl (by kernel_rfl) (by kernel_rfl) (by kernel_rfl) (fun _ _ _ h => h) (Or.inl ⟨by rfl, ?hy29⟩) (by assumption) ?rest29
              case hy29 => intro w hSw; (try dsimp only at hSw); go_simp; try with_reducible rfl
              try simp only [Act.put, List.setIfInBounds_toArray, List.set_cons_zero, List.set_cons_succ]
              refine wpAnyH_take (i := 32) (oi := { dst := some 101, op := Op.convert 25 9 (Operand.tmp 100), type := 9, pos := "law.go:167", after := #[{ on := 31, ground := Ground.data }, { on := 21, ground := Ground.guard }], guard := some (21, false) }) (v := ?v30) rfl (by kernel_rfl) (by kernel_rfl) (by kernel_rfl) (fun _ _ _ h => h) (Or.inl ⟨by rfl, ?hy30⟩) (by assumption) ?rest30
              case hy30 => intro w hSw; (try dsimp only at hSw); go_simp; try with_reducible rfl
              try simp only [Act.put, List.setIfInBounds_toArray, List.set_cons_zero, List.set_cons_succ]
              refine wpAnyH_ready (rs := [24]) (by kernel_rfl) (by simp) ?_
              refine AllReadyH.cons (o := { dst := some 93, op := Op.call { callee := Callee.value (Operand.func 27), args := #[Operand.tmp 92, Operand.const (Value.int IntKind.i64 4)], argTypes := #[30, 3] }, type := 2, pos := "law.go:167", after := #[{ on := 23, ground := Ground.data }, { on := 21, ground := Ground.chain }, { on := 21, ground := Ground.guard }], guard := some (21, false) }) rfl (fun K hK => ?_) AllReadyH.nil
              go_simp
              refine (H3.out _ (by first | assumption | exact IsR.below (by assumption) (cvW_below s _))).mono ?_; rintro e w3 ⟨rfl, r3, o3⟩; have hB3 := thenB (by first | assumption | exact belowCv (by assumption)) o3
              try go_wp2_with fail
              refine hK.out _ _ ?hS31 ?rest31
              case hS31 => (try dsimp only); first | exact mkS.out _ (by assumption) | exact mkS.out _ (belowCv (by assumption))
              clear hK K hHeld
              intro hHeld
              try simp only [Act.put, List.setIfInBounds_toArray, List.set_cons_zero, List.set_cons_succ]
              refine wpAnyH_ready (rs := [25]) (by kernel_rfl) (by simp) ?_
              refine AllReadyH.cons (o := { dst := some 94, op := Op.call { callee := Callee.value (Operand.func 16), args := #[Operand.tmp 91, Operand.tmp 93], argTypes := #[30, 3] }, type := 25, pos := "law.go:167", after := #[{ on := 22, ground := Ground.data }, { on := 24, ground := Ground.data }, { on := 24, ground := Ground.chain }, { on := 21, ground := Ground.guard }], guard := some (21, false) }) rfl (fun K hK => ?_) AllReadyH.nil
              go_simp
              refine (H4.out _ (by assumption)).mono ?_; rintro e w4 ⟨v4, rfl, ow4, r4, o4⟩; have hB4 := thenB (by assumption) o4; have cs4 := run_string (View.of_own ow4 hlby)
              try go_wp2_with fail
              refine hK.out _ _ ?hS32 ?rest32
              case hS32 => (try dsimp only); first | exact mkS.out _ (by assumption) | exact mkS.out _ (belowCv (by assumption))
              clear hK K hHeld
              intro hHeld
              try simp only [Act.put, List.setIfInBounds_toArray, List.set_cons_zero, List.set_cons_succ]
              refine wpAnyH_ready (rs := [26]) (by kernel_rfl) (by simp) ?_
              refine AllReadyH.cons (o := { dst := some 95, op := Op.convert 25 9 (Operand.tmp 94), type := 9, pos := "law.go:167", after := #[{ on := 25, ground := Ground.data }, { on := 21, ground := Ground.guard }], guard := some (21, false) }) rfl (fun K hK => ?_) AllReadyH.nil
              go_simp
              try go_wp2_with fail
              refine hK.out _ _ ?hS33 ?rest33
              case hS33 => (try dsimp only); first | exact mkS.out _ (by assumption) | exact mkS.out _ (belowCv (by assumption))
              clear hK K hHeld
              intro hHeld
              try simp only [Act.put, List.setIfInBounds_toArray, List.set_cons_zero, List.set_cons_succ]
              refine wpAnyH_take (i := 33) (oi := { dst := some 102, op := Op.binOp BinOp.neq 9 (Operand.tmp 95) (Operand.tmp 101) 9, type := 4, pos := "law.go:167", after := #[{ on := 26, ground := Ground.data }, { on := 32, ground := Ground.data }, { on := 21, ground := Ground.guard }], guard := some (21, false) }) (v := ?v34) rfl (by kernel_rfl) (by kernel_rfl) (by kernel_rfl) (fun _ _ _ h => h) (Or.inl ⟨by rfl, ?hy34⟩) (by assumption) ?rest34
              case hy34 => intro w hSw; (try dsimp only at hSw); go_simp; try with_reducible rfl
              try simp only [Act.put, List.setIfInBounds_toArray, List.set_cons_zero, List.set_cons_succ]
              refine wpAnyH_take (i := 34) (oi := { dst := some 103, op := Op.pick (Operand.tmp 90) (Operand.const (Value.bool true)) (Operand.tmp 102), type := 4, pos := "law.go:167", after := #[{ on := 21, ground := Ground.data }, { on := 33, ground := Ground.data }], guard := none }) (v := ?v35) rfl (by kernel_rfl) (by kernel_rfl) (by kernel_rfl) (fun _ _ _ h => h) (Or.inl ⟨by rfl, ?hy35⟩) (by assumption) ?rest35
              case hy35 => intro w hSw; (try dsimp only at hSw); go_simp; try with_reducible rfl
              try simp only [Act.put, List.setIfInBounds_toArray, List.set_cons_zero, List.set_cons_succ]
              refine wpAnyH_done (by kernel_rfl) ?_ _
              refine NoPanic.normal ?_
              go_wp2
              exact ⟨⟨j + 1, by go_num, by omega, by omega, r4, hB4⟩, by simp [intOf]; omega⟩
            · skip
              go_simp
              try go_wp2_with fail
              refine hK.out _ _ ?hS36 ?rest36
              case hS36 => (try dsimp only); first | exact mkS.out _ (by assumption) | exact mkS.out _ (belowCv (by assumption))
              clear hK K hHeld
              intro hHeld
              try simp only [Act.put, List.setIfInBounds_toArray, List.set_cons_zero, List.set_cons_succ]
              refine wpAnyH_ready (rs := [10, 17]) (by kernel_rfl) (by simp) ?_
              refine AllReadyH.cons (o := { dst := some 79, op := Op.call { callee := Callee.value (Operand.func 15), args := #[Operand.tmp 78], argTypes := #[30] }, type := 9, pos := "law.go:167", after := #[{ on := 9, ground := Ground.data }, { on := 8, ground := Ground.chain }, { on := 8, ground := Ground.guard }], guard := some (8, false) }) rfl (fun K hK => ?_) (AllReadyH.cons (o := { dst := some 86, op := Op.convert 46 9 (Operand.tmp 85), type := 9, pos := "law.go:167", after := #[{ on := 16, ground := Ground.data }, { on := 8, ground := Ground.guard }], guard := some (8, false) }) rfl (fun K hK => ?_) AllReadyH.nil)
              · skip
                go_simp
                refine (H2.out _ (by first | assumption | exact IsR.below (by assumption) (cvW_below s _))).mono ?_; rintro e w2 ⟨rfl, r2, o2⟩; have hB2 := thenB (by first | assumption | exact belowCv (by assumption)) o2; try have hcv3 := cv2 s _ w2 (o2.block _ (cvW_lt s _) (by have h9 := r1.lt; omega))
                try go_wp2_with fail
                refine hK.out _ _ ?hS37 ?rest37
                case hS37 => (try dsimp only); first | exact mkS.out _ (by assumption) | exact mkS.out _ (belowCv (by assumption))
                clear hK K hHeld
                intro hHeld
                try simp only [Act.put, List.setIfInBounds_toArray, List.set_cons_zero, List.set_cons_succ]
                refine wpAnyH_ready (rs := [17]) (by kernel_rfl) (by simp) ?_
                refine AllReadyH.cons (o := { dst := some 86, op := Op.convert 46 9 (Operand.tmp 85), type := 9, pos := "law.go:167", after := #[{ on := 16, ground := Ground.data }, { on := 8, ground := Ground.guard }], guard := some (8, false) }) rfl (fun K hK => ?_) AllReadyH.nil
                go_simp
                try go_wp2_with fail
                refine hK.out _ _ ?hS38 ?rest38
                case hS38 => (try dsimp only); first | exact mkS.out _ (by assumption) | exact mkS.out _ (belowCv (by assumption))
                clear hK K hHeld
                intro hHeld
                try simp only [Act.put, List.setIfInBounds_toArray, List.set_cons_zero, List.set_cons_succ]
                refine wpAnyH_ready (rs := [18]) (by kernel_rfl) (by simp) ?_
                refine AllReadyH.cons (o := { dst := some 87, op := Op.call { callee := Callee.value (Operand.func 36), args := #[Operand.tmp 86], argTypes := #[9] }, type := 9, pos := "law.go:167", after := #[{ on := 17, ground := Ground.data }, { on := 10, ground := Ground.chain }, { on := 8, ground := Ground.guard }], guard := some (8, false) }) rfl (fun K hK => ?_) AllReadyH.nil
                go_simp
                refine (HFew.out _).mono ?_; rintro e w9 ⟨rfl, hww⟩; cases hww
                try go_wp2_with fail
                refine hK.out _ _ ?hS39 ?rest39
                case hS39 => (try dsimp only); first | exact mkS.out _ (by assumption) | exact mkS.out _ (belowCv (by assumption))
                clear hK K hHeld
                intro hHeld
                try simp only [Act.put, List.setIfInBounds_toArray, List.set_cons_zero, List.set_cons_succ]
                refine wpAnyH_take (i := 19) (oi := { dst := some 88, op := Op.binOp BinOp.neq 9 (Operand.tmp 79) (Operand.tmp 87) 9, type := 4, pos := "law.go:167", after := #[{ on := 10, ground := Ground.data }, { on := 18, ground := Ground.data }, { on := 8, ground := Ground.guard }], guard := some (8, false) }) (v := ?v40) rfl (by kernel_rfl) (by kernel_rfl) (by kernel_rfl) (fun _ _ _ h => h) (Or.inl ⟨by rfl, ?hy40⟩) (by assumption) ?rest40
                case hy40 => intro w hSw; (try dsimp only at hSw); go_simp; try with_reducible rfl
                try simp only [Act.put, List.setIfInBounds_toArray, List.set_cons_zero, List.set_cons_succ]
                refine wpAnyH_take (i := 20) (oi := { dst := some 89, op := Op.pick (Operand.tmp 77) (Operand.const (Value.bool true)) (Operand.tmp 88), type := 4, pos := "law.go:167", after := #[{ on := 8, ground := Ground.data }, { on := 19, ground := Ground.data }], guard := none }) (v := ?v41) rfl (by kernel_rfl) (by kernel_rfl) (by kernel_rfl) (fun _ _ _ h => h) (Or.inl ⟨by rfl, ?hy41⟩) (by assumption) ?rest41
                case hy41 => intro w hSw; (try dsimp only at hSw); go_simp; try with_reducible rfl
                try simp only [Act.put, List.setIfInBounds_toArray, List.set_cons_zero, List.set_cons_succ]
                refine wpAnyH_take (i := 21) (oi := { dst := some 90, op := Op.move (Operand.tmp 89), type := 4, pos := "law.go:167", after := #[{ on := 20, ground := Ground.data }, { on := 18, ground := Ground.chain }], guard := none }) (v := ?v42) rfl (by kernel_rfl) (by kernel_rfl) (by kernel_rfl) (fun _ _ _ h => h) (Or.inl ⟨by rfl, ?hy42⟩) (by assumption) ?rest42
                case hy42 => intro w hSw; (try dsimp only at hSw); go_simp; try with_reducible rfl
                try simp only [Act.put, List.setIfInBounds_toArray, List.set_cons_zero, List.set_cons_succ]
                refine wpAnyH_take (i := 22) (oi := { dst := some 91, op := Op.move (Operand.tmp 5), type := 30, pos := "law.go:167", after := #[{ on := 21, ground := Ground.guard }], guard := some (21, false) }) (v := ?v43) rfl (by kernel_rfl) (by kernel_rfl) (by kernel_rfl) (fun _ _ _ h => h) (Or.inl ⟨by rfl, ?hy43⟩) (by assumption) ?rest43
                case hy43 => intro w hSw; (try dsimp only at hSw); go_simp; try with_reducible rfl
                try simp only [Act.put, List.setIfInBounds_toArray, List.set_cons_zero, List.set_cons_succ]
                refine wpAnyH_take (i := 23) (oi := { dst := some 92, op := Op.move (Operand.tmp 5), type := 30, pos := "law.go:167", after := #[{ on := 21, ground := Ground.guard }], guard := some (21, false) }) (v := ?v44) rfl (by kernel_rfl) (by kernel_rfl) (by kernel_rfl) (fun _ _ _ h => h) (Or.inl ⟨by rfl, ?hy44⟩) (by assumption) ?rest44
                case hy44 => intro w hSw; (try dsimp only at hSw); go_simp; try with_reducible rfl
                try simp only [Act.put, List.setIfInBounds_toArray, List.set_cons_zero, List.set_cons_succ]
                refine wpAnyH_take (i := 27) (oi := { dst := some 96, op := Op.move (Operand.tmp 0), type := 47, pos := "law.go:167", after := #[{ on := 21, ground := Ground.guard }], guard := some (21, false) }) (v := ?v45) rfl (by kernel_rfl) (by kernel_rfl) (by kernel_rfl) (fun _ _ _ h => h) (Or.inl ⟨by rfl, ?hy45⟩) (by assumption) ?rest45
                case hy45 => intro w hSw; (try dsimp only at hSw); go_simp; try with_reducible rfl
                try simp only [Act.put, List.setIfInBounds_toArray, List.set_cons_zero, List.set_cons_succ]
                refine wpAnyH_take (i := 28) (oi := { dst := some 97, op := Op.move (Operand.tmp 6), type := 3, pos := "law.go:167", after := #[{ on := 21, ground := Ground.guard }], guard := some (21, false) }) (v := ?v46) rfl (by kernel_rfl) (by kernel_rfl) (by kernel_rfl) (fun _ _ _ h => h) (Or.inl ⟨by rfl, ?hy46⟩) (by assumption) ?rest46
                case hy46 => intro w hSw; (try dsimp only at hSw); go_simp; try with_reducible rfl
                try simp only [Act.put, List.setIfInBounds_toArray, List.set_cons_zero, List.set_cons_succ]
                refine wpAnyH_take (i := 29) (oi := { dst := some 98, op := Op.indexAddr 47 (Operand.tmp 96) (Operand.tmp 97), type := 0, pos := "law.go:167", after := #[{ on := 27, ground := Ground.data }, { on := 28, ground := Ground.data }, { on := 21, ground := Ground.guard }], guard := some (21, false) }) (v := ?v47) rfl (by kernel_rfl) (by kernel_rfl) (by kernel_rfl) (fun _ _ _ h => h) (Or.inl ⟨by rfl, ?hy47⟩) (by assumption) ?rest47
                case hy47 => intro w hSw; (try dsimp only at hSw); go_simp; try with_reducible rfl
                try simp only [Act.put, List.setIfInBounds_toArray, List.set_cons_zero, List.set_cons_succ]
                refine wpAnyH_take (i := 30) (oi := { dst := some 99, op := Op.fieldAddr 49 (Operand.tmp 98) 4, type := 0, pos := "law.go:167", after := #[{ on := 29, ground := Ground.data }, { on := 21, ground := Ground.guard }], guard := some (21, false) }) (v := ?v48) rfl (by kernel_rfl) (by kernel_rfl) (by kernel_rfl) (fun _ _ _ h => h) (Or.inl ⟨by rfl, ?hy48⟩) (by assumption) ?rest48
                case hy48 => intro w hSw; (try dsimp only at hSw); go_simp; try with_reducible rfl
                try simp only [Act.put, List.setIfInBounds_toArray, List.set_cons_zero, List.set_cons_succ]
                refine wpAnyH_take (i := 31) (oi := { dst := some 100, op := Op.load 25 (Operand.tmp 99), type := 25, pos := "law.go:167", after := #[{ on := 30, ground := Ground.data }, { on := 21, ground := Ground.guard }], guard := some (21, false) }) (v := ?v49) rfl (by kernel_rfl) (by kernel_rfl) (by kernel_rfl) (fun _ _ _ h => h) (Or.inl ⟨by rfl, ?hy49⟩) (by assumption) ?rest49
                case hy49 => intro w hSw; (try dsimp only at hSw); go_simp; try with_reducible rfl
                try simp only [Act.put, List.setIfInBounds_toArray, List.set_cons_zero, List.set_cons_succ]
                refine wpAnyH_take (i := 32) (oi := { dst := some 101, op := Op.convert 25 9 (Operand.tmp 100), type := 9, pos := "law.go:167", after := #[{ on := 31, ground := Ground.data }, { on := 21, ground := Ground.guard }], guard := some (21, false) }) (v := ?v50) rfl (by kernel_rfl) (by kernel_rfl) (by kernel_rfl) (fun _ _ _ h => h) (Or.inl ⟨by rfl, ?hy50⟩) (by assumption) ?rest50
                case hy50 => intro w hSw; (try dsimp only at hSw); go_simp; try with_reducible rfl
                try simp only [Act.put, List.setIfInBounds_toArray, List.set_cons_zero, List.set_cons_succ]
                refine wpAnyH_ready (rs := [24]) (by kernel_rfl) (by simp) ?_
                refine AllReadyH.cons (o := { dst := some 93, op := Op.call { callee := Callee.value (Operand.func 27), args := #[Operand.tmp 92, Operand.const (Value.int IntKind.i64 4)], argTypes := #[30, 3] }, type := 2, pos := "law.go:167", after := #[{ on := 23, ground := Ground.data }, { on := 21, ground := Ground.chain }, { on := 21, ground := Ground.guard }], guard := some (21, false) }) rfl (fun K hK => ?_) AllReadyH.nil
                go_simp
                refine (H3.out _ (by first | assumption | exact IsR.below (by assumption) (cvW_below s _))).mono ?_; rintro e w3 ⟨rfl, r3, o3⟩; have hB3 := thenB (by first | assumption | exact belowCv (by assumption)) o3
                try go_wp2_with fail
                refine hK.out _ _ ?hS51 ?rest51
                case hS51 => (try dsimp only); first | exact mkS.out _ (by assumption) | exact mkS.out _ (belowCv (by assumption))
                clear hK K hHeld
                intro hHeld
                try simp only [Act.put, List.setIfInBounds_toArray, List.set_cons_zero, List.set_cons_succ]
                refine wpAnyH_ready (rs := [25]) (by kernel_rfl) (by simp) ?_
                refine AllReadyH.cons (o := { dst := some 94, op := Op.call { callee := Callee.value (Operand.func 16), args := #[Operand.tmp 91, Operand.tmp 93], argTypes := #[30, 3] }, type := 25, pos := "law.go:167", after := #[{ on := 22, ground := Ground.data }, { on := 24, ground := Ground.data }, { on := 24, ground := Ground.chain }, { on := 21, ground := Ground.guard }], guard := some (21, false) }) rfl (fun K hK => ?_) AllReadyH.nil
                go_simp
                refine (H4.out _ (by assumption)).mono ?_; rintro e w4 ⟨v4, rfl, ow4, r4, o4⟩; have hB4 := thenB (by assumption) o4; have cs4 := run_string (View.of_own ow4 hlby)
                try go_wp2_with fail
                refine hK.out _ _ ?hS52 ?rest52
                case hS52 => (try dsimp only); first | exact mkS.out _ (by assumption) | exact mkS.out _ (belowCv (by assumption))
                clear hK K hHeld
                intro hHeld
                try simp only [Act.put, List.setIfInBounds_toArray, List.set_cons_zero, List.set_cons_succ]
                refine wpAnyH_ready (rs := [26]) (by kernel_rfl) (by simp) ?_
                refine AllReadyH.cons (o := { dst := some 95, op := Op.convert 25 9 (Operand.tmp 94), type := 9, pos := "law.go:167", after := #[{ on := 25, ground := Ground.data }, { on := 21, ground := Ground.guard }], guard := some (21, false) }) rfl (fun K hK => ?_) AllReadyH.nil
                go_simp
                try go_wp2_with fail
                refine hK.out _ _ ?hS53 ?rest53
                case hS53 => (try dsimp only); first | exact mkS.out _ (by assumption) | exact mkS.out _ (belowCv (by assumption))
                clear hK K hHeld
                intro hHeld
                try simp only [Act.put, List.setIfInBounds_toArray, List.set_cons_zero, List.set_cons_succ]
                refine wpAnyH_take (i := 33) (oi := { dst := some 102, op := Op.binOp BinOp.neq 9 (Operand.tmp 95) (Operand.tmp 101) 9, type := 4, pos := "law.go:167", after := #[{ on := 26, ground := Ground.data }, { on := 32, ground := Ground.data }, { on := 21, ground := Ground.guard }], guard := some (21, false) }) (v := ?v54) rfl (by kernel_rfl) (by kernel_rfl) (by kernel_rfl) (fun _ _ _ h => h) (Or.inl ⟨by rfl, ?hy54⟩) (by assumption) ?rest54
                case hy54 => intro w hSw; (try dsimp only at hSw); go_simp; try with_reducible rfl
                try simp only [Act.put, List.setIfInBounds_toArray, List.set_cons_zero, List.set_cons_succ]
                refine wpAnyH_take (i := 34) (oi := { dst := some 103, op := Op.pick (Operand.tmp 90) (Operand.const (Value.bool true)) (Operand.tmp 102), type := 4, pos := "law.go:167", after := #[{ on := 21, ground := Ground.data }, { on := 33, ground := Ground.data }], guard := none }) (v := ?v55) rfl (by kernel_rfl) (by kernel_rfl) (by kernel_rfl) (fun _ _ _ h => h) (Or.inl ⟨by rfl, ?hy55⟩) (by assumption) ?rest55
                case hy55 => intro w hSw; (try dsimp only at hSw); go_simp; try with_reducible rfl
                try simp only [Act.put, List.setIfInBounds_toArray, List.set_cons_zero, List.set_cons_succ]
                refine wpAnyH_done (by kernel_rfl) ?_ _
                refine NoPanic.normal ?_
                go_wp2
                exact ⟨⟨j + 1, by go_num, by omega, by omega, r4, hB4⟩, by simp [intOf]; omega⟩
              · skip
                go_simp
                try go_wp2_with fail
                refine hK.out _ _ ?hS56 ?rest56
                case hS56 => (try dsimp only); first | exact mkS.out _ (by assumption) | exact mkS.out _ (belowCv (by assumption))
                clear hK K hHeld
                intro hHeld
                try simp only [Act.put, List.setIfInBounds_toArray, List.set_cons_zero, List.set_cons_succ]
                refine wpAnyH_ready (rs := [10]) (by kernel_rfl) (by simp) ?_
                refine AllReadyH.cons (o := { dst := some 79, op := Op.call { callee := Callee.value (Operand.func 15), args := #[Operand.tmp 78], argTypes := #[30] }, type := 9, pos := "law.go:167", after := #[{ on := 9, ground := Ground.data }, { on := 8, ground := Ground.chain }, { on := 8, ground := Ground.guard }], guard := some (8, false) }) rfl (fun K hK => ?_) AllReadyH.nil
                go_simp
                refine (H2.out _ (by first | assumption | exact IsR.below (by assumption) (cvW_below s _))).mono ?_; rintro e w2 ⟨rfl, r2, o2⟩; have hB2 := thenB (by first | assumption | exact belowCv (by assumption)) o2; try have hcv3 := cv2 s _ w2 (o2.block _ (cvW_lt s _) (by have h9 := r1.lt; omega))
                try go_wp2_with fail
                refine hK.out _ _ ?hS57 ?rest57
                case hS57 => (try dsimp only); first | exact mkS.out _ (by assumption) | exact mkS.out _ (belowCv (by assumption))
                clear hK K hHeld
                intro hHeld
                try simp only [Act.put, List.setIfInBounds_toArray, List.set_cons_zero, List.set_cons_succ]
                refine wpAnyH_ready (rs := [18]) (by kernel_rfl) (by simp) ?_
                refine AllReadyH.cons (o := { dst := some 87, op := Op.call { callee := Callee.value (Operand.func 36), args := #[Operand.tmp 86], argTypes := #[9] }, type := 9, pos := "law.go:167", after := #[{ on := 17, ground := Ground.data }, { on := 10, ground := Ground.chain }, { on := 8, ground := Ground.guard }], guard := some (8, false) }) rfl (fun K hK => ?_) AllReadyH.nil
                go_simp
                refine (HFew.out _).mono ?_; rintro e w9 ⟨rfl, hww⟩; cases hww
                try go_wp2_with fail
                refine hK.out _ _ ?hS58 ?rest58
                case hS58 => (try dsimp only); first | exact mkS.out _ (by assumption) | exact mkS.out _ (belowCv (by assumption))
                clear hK K hHeld
                intro hHeld
                try simp only [Act.put, List.setIfInBounds_toArray, List.set_cons_zero, List.set_cons_succ]
                refine wpAnyH_take (i := 19) (oi := { dst := some 88, op := Op.binOp BinOp.neq 9 (Operand.tmp 79) (Operand.tmp 87) 9, type := 4, pos := "law.go:167", after := #[{ on := 10, ground := Ground.data }, { on := 18, ground := Ground.data }, { on := 8, ground := Ground.guard }], guard := some (8, false) }) (v := ?v59) rfl (by kernel_rfl) (by kernel_rfl) (by kernel_rfl) (fun _ _ _ h => h) (Or.inl ⟨by rfl, ?hy59⟩) (by assumption) ?rest59
                case hy59 => intro w hSw; (try dsimp only at hSw); go_simp; try with_reducible rfl
                try simp only [Act.put, List.setIfInBounds_toArray, List.set_cons_zero, List.set_cons_succ]
                refine wpAnyH_take (i := 20) (oi := { dst := some 89, op := Op.pick (Operand.tmp 77) (Operand.const (Value.bool true)) (Operand.tmp 88), type := 4, pos := "law.go:167", after := #[{ on := 8, ground := Ground.data }, { on := 19, ground := Ground.data }], guard := none }) (v := ?v60) rfl (by kernel_rfl) (by kernel_rfl) (by kernel_rfl) (fun _ _ _ h => h) (Or.inl ⟨by rfl, ?hy60⟩) (by assumption) ?rest60
                case hy60 => intro w hSw; (try dsimp only at hSw); go_simp; try with_reducible rfl
                try simp only [Act.put, List.setIfInBounds_toArray, List.set_cons_zero, List.set_cons_succ]
                refine wpAnyH_take (i := 21) (oi := { dst := some 90, op := Op.move (Operand.tmp 89), type := 4, pos := "law.go:167", after := #[{ on := 20, ground := Ground.data }, { on := 18, ground := Ground.chain }], guard := none }) (v := ?v61) rfl (by kernel_rfl) (by kernel_rfl) (by kernel_rfl) (fun _ _ _ h => h) (Or.inl ⟨by rfl, ?hy61⟩) (by assumption) ?rest61
                case hy61 => intro w hSw; (try dsimp only at hSw); go_simp; try with_reducible rfl
                try simp only [Act.put, List.setIfInBounds_toArray, List.set_cons_zero, List.set_cons_succ]
                refine wpAnyH_take (i := 22) (oi := { dst := some 91, op := Op.move (Operand.tmp 5), type := 30, pos := "law.go:167", after := #[{ on := 21, ground := Ground.guard }], guard := some (21, false) }) (v := ?v62) rfl (by kernel_rfl) (by kernel_rfl) (by kernel_rfl) (fun _ _ _ h => h) (Or.inl ⟨by rfl, ?hy62⟩) (by assumption) ?rest62
                case hy62 => intro w hSw; (try dsimp only at hSw); go_simp; try with_reducible rfl
                try simp only [Act.put, List.setIfInBounds_toArray, List.set_cons_zero, List.set_cons_succ]
                refine wpAnyH_take (i := 23) (oi := { dst := some 92, op := Op.move (Operand.tmp 5), type := 30, pos := "law.go:167", after := #[{ on := 21, ground := Ground.guard }], guard := some (21, false) }) (v := ?v63) rfl (by kernel_rfl) (by kernel_rfl) (by kernel_rfl) (fun _ _ _ h => h) (Or.inl ⟨by rfl, ?hy63⟩) (by assumption) ?rest63
                case hy63 => intro w hSw; (try dsimp only at hSw); go_simp; try with_reducible rfl
                try simp only [Act.put, List.setIfInBounds_toArray, List.set_cons_zero, List.set_cons_succ]
                refine wpAnyH_take (i := 27) (oi := { dst := some 96, op := Op.move (Operand.tmp 0), type := 47, pos := "law.go:167", after := #[{ on := 21, ground := Ground.guard }], guard := some (21, false) }) (v := ?v64) rfl (by kernel_rfl) (by kernel_rfl) (by kernel_rfl) (fun _ _ _ h => h) (Or.inl ⟨by rfl, ?hy64⟩) (by assumption) ?rest64
                case hy64 => intro w hSw; (try dsimp only at hSw); go_simp; try with_reducible rfl
                try simp only [Act.put, List.setIfInBounds_toArray, List.set_cons_zero, List.set_cons_succ]
                refine wpAnyH_take (i := 28) (oi := { dst := some 97, op := Op.move (Operand.tmp 6), type := 3, pos := "law.go:167", after := #[{ on := 21, ground := Ground.guard }], guard := some (21, false) }) (v := ?v65) rfl (by kernel_rfl) (by kernel_rfl) (by kernel_rfl) (fun _ _ _ h => h) (Or.inl ⟨by rfl, ?hy65⟩) (by assumption) ?rest65
                case hy65 => intro w hSw; (try dsimp only at hSw); go_simp; try with_reducible rfl
                try simp only [Act.put, List.setIfInBounds_toArray, List.set_cons_zero, List.set_cons_succ]
                refine wpAnyH_take (i := 29) (oi := { dst := some 98, op := Op.indexAddr 47 (Operand.tmp 96) (Operand.tmp 97), type := 0, pos := "law.go:167", after := #[{ on := 27, ground := Ground.data }, { on := 28, ground := Ground.data }, { on := 21, ground := Ground.guard }], guard := some (21, false) }) (v := ?v66) rfl (by kernel_rfl) (by kernel_rfl) (by kernel_rfl) (fun _ _ _ h => h) (Or.inl ⟨by rfl, ?hy66⟩) (by assumption) ?rest66
                case hy66 => intro w hSw; (try dsimp only at hSw); go_simp; try with_reducible rfl
                try simp only [Act.put, List.setIfInBounds_toArray, List.set_cons_zero, List.set_cons_succ]
                refine wpAnyH_take (i := 30) (oi := { dst := some 99, op := Op.fieldAddr 49 (Operand.tmp 98) 4, type := 0, pos := "law.go:167", after := #[{ on := 29, ground := Ground.data }, { on := 21, ground := Ground.guard }], guard := some (21, false) }) (v := ?v67) rfl (by kernel_rfl) (by kernel_rfl) (by kernel_rfl) (fun _ _ _ h => h) (Or.inl ⟨by rfl, ?hy67⟩) (by assumption) ?rest67
                case hy67 => intro w hSw; (try dsimp only at hSw); go_simp; try with_reducible rfl
                try simp only [Act.put, List.setIfInBounds_toArray, List.set_cons_zero, List.set_cons_succ]
                refine wpAnyH_take (i := 31) (oi := { dst := some 100, op := Op.load 25 (Operand.tmp 99), type := 25, pos := "law.go:167", after := #[{ on := 30, ground := Ground.data }, { on := 21, ground := Ground.guard }], guard := some (21, false) }) (v := ?v68) rfl (by kernel_rfl) (by kernel_rfl) (by kernel_rfl) (fun _ _ _ h => h) (Or.inl ⟨by rfl, ?hy68⟩) (by assumption) ?rest68
                case hy68 => intro w hSw; (try dsimp only at hSw); go_simp; try with_reducible rfl
                try simp only [Act.put, List.setIfInBounds_toArray, List.set_cons_zero, List.set_cons_succ]
                refine wpAnyH_take (i := 32) (oi := { dst := some 101, op := Op.convert 25 9 (Operand.tmp 100), type := 9, pos := "law.go:167", after := #[{ on := 31, ground := Ground.data }, { on := 21, ground := Ground.guard }], guard := some (21, false) }) (v := ?v69) rfl (by kernel_rfl) (by kernel_rfl) (by kernel_rfl) (fun _ _ _ h => h) (Or.inl ⟨by rfl, ?hy69⟩) (by assumption) ?rest69
                case hy69 => intro w hSw; (try dsimp only at hSw); go_simp; try with_reducible rfl
                try simp only [Act.put, List.setIfInBounds_toArray, List.set_cons_zero, List.set_cons_succ]
                refine wpAnyH_ready (rs := [24]) (by kernel_rfl) (by simp) ?_
                refine AllReadyH.cons (o := { dst := some 93, op := Op.call { callee := Callee.value (Operand.func 27), args := #[Operand.tmp 92, Operand.const (Value.int IntKind.i64 4)], argTypes := #[30, 3] }, type := 2, pos := "law.go:167", after := #[{ on := 23, ground := Ground.data }, { on := 21, ground := Ground.chain }, { on := 21, ground := Ground.guard }], guard := some (21, false) }) rfl (fun K hK => ?_) AllReadyH.nil
                go_simp
                refine (H3.out _ (by first | assumption | exact IsR.below (by assumption) (cvW_below s _))).mono ?_; rintro e w3 ⟨rfl, r3, o3⟩; have hB3 := thenB (by first | assumption | exact belowCv (by assumption)) o3
                try go_wp2_with fail
                refine hK.out _ _ ?hS70 ?rest70
                case hS70 => (try dsimp only); first | exact mkS.out _ (by assumption) | exact mkS.out _ (belowCv (by assumption))
                clear hK K hHeld
                intro hHeld
                try simp only [Act.put, List.setIfInBounds_toArray, List.set_cons_zero, List.set_cons_succ]
                refine wpAnyH_ready (rs := [25]) (by kernel_rfl) (by simp) ?_
                refine AllReadyH.cons (o := { dst := some 94, op := Op.call { callee := Callee.value (Operand.func 16), args := #[Operand.tmp 91, Operand.tmp 93], argTypes := #[30, 3] }, type := 25, pos := "law.go:167", after := #[{ on := 22, ground := Ground.data }, { on := 24, ground := Ground.data }, { on := 24, ground := Ground.chain }, { on := 21, ground := Ground.guard }], guard := some (21, false) }) rfl (fun K hK => ?_) AllReadyH.nil
                go_simp
                refine (H4.out _ (by assumption)).mono ?_; rintro e w4 ⟨v4, rfl, ow4, r4, o4⟩; have hB4 := thenB (by assumption) o4; have cs4 := run_string (View.of_own ow4 hlby)
                try go_wp2_with fail
                refine hK.out _ _ ?hS71 ?rest71
                case hS71 => (try dsimp only); first | exact mkS.out _ (by assumption) | exact mkS.out _ (belowCv (by assumption))
                clear hK K hHeld
                intro hHeld
                try simp only [Act.put, List.setIfInBounds_toArray, List.set_cons_zero, List.set_cons_succ]
                refine wpAnyH_ready (rs := [26]) (by kernel_rfl) (by simp) ?_
                refine AllReadyH.cons (o := { dst := some 95, op := Op.convert 25 9 (Operand.tmp 94), type := 9, pos := "law.go:167", after := #[{ on := 25, ground := Ground.data }, { on := 21, ground := Ground.guard }], guard := some (21, false) }) rfl (fun K hK => ?_) AllReadyH.nil
                go_simp
                try go_wp2_with fail
                refine hK.out _ _ ?hS72 ?rest72
                case hS72 => (try dsimp only); first | exact mkS.out _ (by assumption) | exact mkS.out _ (belowCv (by assumption))
                clear hK K hHeld
                intro hHeld
                try simp only [Act.put, List.setIfInBounds_toArray, List.set_cons_zero, List.set_cons_succ]
                refine wpAnyH_take (i := 33) (oi := { dst := some 102, op := Op.binOp BinOp.neq 9 (Operand.tmp 95) (Operand.tmp 101) 9, type := 4, pos := "law.go:167", after := #[{ on := 26, ground := Ground.data }, { on := 32, ground := Ground.data }, { on := 21, ground := Ground.guard }], guard := some (21, false) }) (v := ?v73) rfl (by kernel_rfl) (by kernel_rfl) (by kernel_rfl) (fun _ _ _ h => h) (Or.inl ⟨by rfl, ?hy73⟩) (by assumption) ?rest73
                case hy73 => intro w hSw; (try dsimp only at hSw); go_simp; try with_reducible rfl
                try simp only [Act.put, List.setIfInBounds_toArray, List.set_cons_zero, List.set_cons_succ]
                refine wpAnyH_take (i := 34) (oi := { dst := some 103, op := Op.pick (Operand.tmp 90) (Operand.const (Value.bool true)) (Operand.tmp 102), type := 4, pos := "law.go:167", after := #[{ on := 21, ground := Ground.data }, { on := 33, ground := Ground.data }], guard := none }) (v := ?v74) rfl (by kernel_rfl) (by kernel_rfl) (by kernel_rfl) (fun _ _ _ h => h) (Or.inl ⟨by rfl, ?hy74⟩) (by assumption) ?rest74
                case hy74 => intro w hSw; (try dsimp only at hSw); go_simp; try with_reducible rfl
                try simp only [Act.put, List.setIfInBounds_toArray, List.set_cons_zero, List.set_cons_succ]
                refine wpAnyH_done (by kernel_rfl) ?_ _
                refine NoPanic.normal ?_
                go_wp2
                exact ⟨⟨j + 1, by go_num, by omega, by omega, r4, hB4⟩, by simp [intOf]; omega⟩
          · have hje : ps.take j = ps.take 30 := by
              by_cases h30 : j = 30
              · rw [h30]
              · rw [List.take_of_length_le (by omega), List.take_of_length_le (by omega)]
            rw [hje, hL] at hR
            have hend : endZ L L.length 0 = (0, 0) := by unfold endZ; rw [if_neg (by simp), if_neg (by omega)]
            have hexit2 : ¬ (j : Int) < (ps.length : Int) ∨ ((j : Int) < (ps.length : Int) ∧ ¬ (j : Int) < 30) := by omega
            rcases hexit2 with he5 | ⟨he5, he6⟩
            · go_wp2_with fail
              refine (end_any pr vr L L.length 0 _ hR).mono ?_
              rw [hend]
              rintro e w5 ⟨rfl, q5, rfl⟩
              have B5 := below_drewN hbw q5
              have z5 := B5.size
              go_wp2_with fail
              refine (known_any _ (hT.below B5)).mono ?_
              rintro e w6 ⟨rfl, b6⟩
              go_wp2
              go_ret
              exact ⟨rfl, B5.trans (b6.mono z5)⟩
            · go_wp2_with fail
              refine (end_any pr vr L L.length 0 _ hR).mono ?_
              rw [hend]
              rintro e w5 ⟨rfl, q5, rfl⟩
              have B5 := below_drewN hbw q5
              have z5 := B5.size
              go_wp2_with fail
              refine (known_any _ (hT.below B5)).mono ?_
              rintro e w6 ⟨rfl, b6⟩
              go_wp2
              go_ret
              exact ⟨rfl, B5.trans (b6.mono z5)⟩
      · go_wp2_with fail
        refine (done_any w.heap.size w.heap.size vw L wr hW hab (by omega)).mono ?_
        rintro e w2 ⟨b2, vd, rfl, od⟩
        have B2 := hbw.trans (b2.mono hzw)
        have z2 := B2.size
        have hbz2 := b2.size
        go_wp2_with fail
        refine (newR_any vd L w2 (View.of_own od hab) (by omega)).mono ?_
        rintro e w3 ⟨b3, pr, vr, rfl, hpr, R3, -⟩
        have B3 := B2.trans (b3.mono z2)
        have hpr0 : w.heap.size ≤ pr := by omega
        clear b2 b3 od B2 hW hbw hbz2 hpr
        go_wp2
        go_loopw [6] (fun i wr => ∃ (k : Nat), i = .int .i64 (k : Int) ∧ k ≤ ps.length ∧ k ≤ 30 ∧ IsR pr wr vr L (recs (ps.take k)).length 0 ∧ Below w.heap.size w wr) (fun i _ => 30 - (intOf i).toNat)
        case atStart => exact ⟨0, rfl, Nat.zero_le _, Nat.zero_le _, by simpa [recs] using R3, B3⟩
        case round =>
          clear R3 B3
          obtain ⟨j, rfl, hj, hj30, hR, hbw⟩ := hrel
          by_cases hlt2 : j < ps.length ∧ j < 30
          · obtain ⟨hlt2, hlt30⟩ := hlt2
            obtain ⟨g, off, rfl, hpa⟩ : ∃ g off, ao = some ⟨g, off, none⟩ ∧ ∀ i p, ps[i]? = some p → PartAt w g (off + i * 5) p := by
              rcases hps with e | h
              · rw [e] at hlt2; simp at hlt2
              · exact h
            have hpt := hpa j ps[j] (by simp [hlt2])
            have HL := recs_at ps j hlt2 hlt30
            rw [hL, rec_split] at HL
            have HSN : Hid ((recs (ps.take (j + 1))).length = (recs (ps.take j)).length + (recZ ps[j]).length) := by
              show _ = _
              rw [List.take_succ_eq_append_getElem hlt2, recs_snoc, List.length_append]
            generalize ps[j] = p at *
            generalize recs (ps.take j) = A at *
            generalize recs ((ps.take 30).drop (j + 1)) = Y at *
            obtain ⟨kind, bytes, n, s, vrw, lr⟩ := p
            have hlr := hpt.rsz
            have hss := hpt.ssz
            have hn0 := hpt.nlo
            have hn1 := hpt.nhi
            simp only at hlr hss hn0 hn1 HL
            have hraw0 : View w vrw lr := hpt.raw
            obtain ⟨aor, capr, rfl, -⟩ := id hraw0
            have hlby : AllBytes lr := by obtain ⟨_, _, _, _, _, h, _⟩ := hraw0; exact h
            -- the four readings, wherever the reader stands in memory
            have H1 : Hid (∀ W, IsR pr W vr L A.length 0 → Calls Tryd.prog 27 #[.pointer (some ⟨pr, 0, none⟩), .int .i64 8] W fun e w' => e = .returned (.int .i64 n) ∧ IsR pr w' vr L (A.length + 8) 0 ∧ Only pr W w') := by
              intro W hr
              have := rnum8_at pr vr A _ n W (by rw [← HL]; exact hr) hn0 hn1
              rwa [← HL] at this
            have H2 : Hid (∀ W, IsR pr W vr L (A.length + 8) 0 → Calls Tryd.prog 15 #[.pointer (some ⟨pr, 0, none⟩)] W fun e w' => e = .returned (.string (fewZ (reStr s))) ∧ IsR pr w' vr L (A.length + 8 + (wtextZ (fewZ (reStr s))).length) 0 ∧ Only pr W w') := by
              intro W hr
              have e : L = (A ++ be n 8) ++ (wtextZ (fewZ (reStr s)) ++ (be (lr.length : Nat) 4 ++ (lr ++ Y))) := by rw [HL]; simp
              have := rtext_at_any pr vr (A ++ be n 8) _ s W (by rw [← e]; rw [List.length_append, be_len]; exact hr)
              rw [← e, List.length_append, be_len] at this
              exact this
            have H3 : Hid (∀ W, IsR pr W vr L (A.length + 8 + (wtextZ (fewZ (reStr s))).length) 0 → Calls Tryd.prog 27 #[.pointer (some ⟨pr, 0, none⟩), .int .i64 4] W fun e w' => e = .returned (.int .i64 (lr.length : Int)) ∧ IsR pr w' vr L (A.length + 8 + (wtextZ (fewZ (reStr s))).length + 4) 0 ∧ Only pr W w') := by
              intro W hr
              have e : L = ((A ++ be n 8) ++ wtextZ (fewZ (reStr s))) ++ (be (lr.length : Nat) 4 ++ (lr ++ Y)) := by rw [HL]; simp
              have := rnum4_at pr vr ((A ++ be n 8) ++ wtextZ (fewZ (reStr s))) _ lr.length W (by rw [← e]; simp only [List.length_append, be_len]; exact hr) hlr
              rw [← e] at this
              simp only [List.length_append, be_len] at this
              exact this
            have H4 : Hid (∀ W, IsR pr W vr L (A.length + 8 + (wtextZ (fewZ (reStr s))).length + 4) 0 → Calls Tryd.prog 16 #[.pointer (some ⟨pr, 0, none⟩), .int .i64 (lr.length : Int)] W fun e w' => ∃ v', e = .returned v' ∧ w'.ownsRow W.heap.size 5 1 v' lr.length (bcells lr) ∧ IsR pr w' vr L (recs (ps.take (j + 1))).length 0 ∧ Only pr W w') := by
              intro W hr
              have e : L = (((A ++ be n 8) ++ wtextZ (fewZ (reStr s))) ++ be (lr.length : Nat) 4) ++ (lr ++ Y) := by rw [HL]; simp
              have := rbytes_at pr vr (((A ++ be n 8) ++ wtextZ (fewZ (reStr s))) ++ be (lr.length : Nat) 4) lr Y W (by rw [← e]; simp only [List.length_append, be_len]; exact hr) (by rw [← e]; omega)
              rw [← e] at this
              rw [HSN.out]
              unfold recZ
              simp only [List.length_append, be_len] at this ⊢
              simpa [Nat.add_assoc] using this
            have hcv1 := cv1 s (by omega)
            have hcv2 : ∀ wx, (convert 46 9 (cvV s wx)).run Tryd.prog (cvW s wx) = .ok (.string (reStr s)) (cvW s wx) := fun wx => cv2 s wx _ rfl
            have mkS : Hid (∀ w', Below w.heap.size w w' → w'.cell? ⟨g, off + j * 5 + 2, none⟩ = some (.int .i64 n) ∧ w'.cell? ⟨g, off + j * 5 + 3, none⟩ = some (.string s) ∧ w'.cell? ⟨g, off + j * 5 + 4, none⟩ = some (.slice aor lr.length capr) ∧ (convert 25 9 (.slice aor lr.length capr)).run Tryd.prog w' = .ok (.string (strOfNums lr)) w') := by
              intro w' hb
              have hq := hpt.below' hb
              exact ⟨hq.c2, hq.c3, hq.c4, run_string (hraw0.below hb)⟩
            have hj1' : (j : Int) < (ps.length : Int) := by omega
            have hj2' : (j : Int) < 30 := by omega
            have hzw2 := hbw.size
            clear hpa hps HL hL hpt
            have HFew : Hid (∀ W, Calls Tryd.prog 36 #[.string (reStr s)] W fun e w' => e = .returned (.string (fewZ (reStr s))) ∧ w' = W) := fun W => few_any (reStr s) W
            generalize hF : fewZ (reStr s) = F at *
            have HF := hidIt hF
            clear hF
            have hRd : IsR pr wr.drew vr L A.length 0 := ⟨hR.blk, hR.view, hR.le⟩
            have hBd : Below w.heap.size w wr.drew := hbw.drew
            have hprlt := hR.lt
            have thenB : ∀ {W w' : World}, Below w.heap.size w W → Only pr W w' → Below w.heap.size w w' := fun hb o => hb.trans (o.below hb.size hpr0)
            have belowCv : ∀ {W : World}, Below w.heap.size w W → Below w.heap.size w (cvW s W) := fun hb => hb.trans ((cvW_below s _).mono hb.size)
            clear hR hbw
            go_wp2
            refine wp_region_noPanic ?_
            refine wp_region_held_drew (S := (fun w' => w'.cell? ⟨g, off + j * 5 + 2, none⟩ = some (.int .i64 n) ∧ w'.cell? ⟨g, off + j * 5 + 3, none⟩ = some (.string s) ∧ w'.cell? ⟨g, off + j * 5 + 4, none⟩ = some (.slice aor lr.length capr) ∧ (convert 25 9 (.slice aor lr.length capr)).run Tryd.prog w' = .ok (.string (strOfNums lr)) w')) (by kernel_rfl) ?_ (fun hHeld => ?_)
            · (try dsimp only); first | exact mkS.out _ (by assumption) | exact mkS.out _ (belowCv (by assumption))
            refine wpAnyH_take (i := 0) (oi := { dst := some 69, op := Op.move (Operand.tmp 5), type := 30, pos := "law.go:167", after := #[], guard := none }) (v := ?v75) rfl (by kernel_rfl) (by kernel_rfl) (by kernel_rfl) (fun _ _ _ h => h) (Or.inl ⟨by rfl, ?hy75⟩) (by assumption) ?rest75
            case hy75 => intro w hSw; (try dsimp only at hSw); go_simp; try with_reducible rfl
            try simp only [Act.put, List.setIfInBounds_toArray, List.set_cons_zero, List.set_cons_succ]
            refine wpAnyH_take (i := 2) (oi := { dst := some 71, op := Op.move (Operand.tmp 0), type := 47, pos := "law.go:167", after := #[], guard := none }) (v := ?v76) rfl (by kernel_rfl) (by kernel_rfl) (by kernel_rfl) (fun _ _ _ h => h) (Or.inl ⟨by rfl, ?hy76⟩) (by assumption) ?rest76
            case hy76 => intro w hSw; (try dsimp only at hSw); go_simp; try with_reducible rfl
            try simp only [Act.put, List.setIfInBounds_toArray, List.set_cons_zero, List.set_cons_succ]
            refine wpAnyH_take (i := 3) (oi := { dst := some 72, op := Op.move (Operand.tmp 6), type := 3, pos := "law.go:167", after := #[], guard := none }) (v := ?v77) rfl (by kernel_rfl) (by kernel_rfl) (by kernel_rfl) (fun _ _ _ h => h) (Or.inl ⟨by rfl, ?hy77⟩) (by assumption) ?rest77
            case hy77 => intro w hSw; (try dsimp only at hSw); go_simp; try with_reducible rfl
            try simp only [Act.put, List.setIfInBounds_toArray, List.set_cons_zero, List.set_cons_succ]
            refine wpAnyH_take (i := 4) (oi := { dst := some 73, op := Op.indexAddr 47 (Operand.tmp 71) (Operand.tmp 72), type := 0, pos := "law.go:167", after := #[{ on := 2, ground := Ground.data }, { on := 3, ground := Ground.data }], guard := none }) (v := ?v78) rfl (by kernel_rfl) (by kernel_rfl) (by kernel_rfl) (fun _ _ _ h => h) (Or.inl ⟨by rfl, ?hy78⟩) (by assumption) ?rest78
            case hy78 => intro w hSw; (try dsimp only at hSw); go_simp; try with_reducible rfl
            try simp only [Act.put, List.setIfInBounds_toArray, List.set_cons_zero, List.set_cons_succ]
            refine wpAnyH_take (i := 5) (oi := { dst := some 74, op := Op.fieldAddr 49 (Operand.tmp 73) 2, type := 0, pos := "law.go:167", after := #[{ on := 4, ground := Ground.data }], guard := none }) (v := ?v79) rfl (by kernel_rfl) (by kernel_rfl) (by kernel_rfl) (fun _ _ _ h => h) (Or.inl ⟨by rfl, ?hy79⟩) (by assumption) ?rest79
            case hy79 => intro w hSw; (try dsimp only at hSw); go_simp; try with_reducible rfl
            try simp only [Act.put, List.setIfInBounds_toArray, List.set_cons_zero, List.set_cons_succ]
            refine wpAnyH_take (i := 6) (oi := { dst := some 75, op := Op.load 2 (Operand.tmp 74), type := 2, pos := "law.go:167", after := #[{ on := 5, ground := Ground.data }], guard := none }) (v := ?v80) rfl (by kernel_rfl) (by kernel_rfl) (by kernel_rfl) (fun _ _ _ h => h) (Or.inl ⟨by rfl, ?hy80⟩) (by assumption) ?rest80
            case hy80 => intro w hSw; (try dsimp only at hSw); go_simp; try with_reducible rfl
            try simp only [Act.put, List.setIfInBounds_toArray, List.set_cons_zero, List.set_cons_succ]
            refine wpAnyH_ready (rs := [1]) (by kernel_rfl) (by simp) ?_
            refine AllReadyH.cons (o := { dst := some 70, op := Op.call { callee := Callee.value (Operand.func 27), args := #[Operand.tmp 69, Operand.const (Value.int IntKind.i64 8)], argTypes := #[30, 3] }, type := 2, pos := "law.go:167", after := #[{ on := 0, ground := Ground.data }], guard := none }) rfl (fun K hK => ?_) AllReadyH.nil
            go_simp
            refine (H1.out _ (by assumption)).mono ?_; rintro e w1 ⟨rfl, r1, o1⟩; have hB1 := thenB hBd o1; have hz1 := o1.size
            try go_wp2_with fail
            refine hK.out _ _ ?hS81 ?rest81
            case hS81 => (try dsimp only); first | exact mkS.out _ (by assumption) | exact mkS.out _ (belowCv (by assumption))
            clear hK K hHeld
            intro hHeld
            try simp only [Act.put, List.setIfInBounds_toArray, List.set_cons_zero, List.set_cons_succ]
            refine wpAnyH_take (i := 7) (oi := { dst := some 76, op := Op.binOp BinOp.neq 2 (Operand.tmp 70) (Operand.tmp 75) 2, type := 4, pos := "law.go:167", after := #[{ on := 1, ground := Ground.data }, { on := 6, ground := Ground.data }], guard := none }) (v := ?v82) rfl (by kernel_rfl) (by kernel_rfl) (by kernel_rfl) (fun _ _ _ h => h) (Or.inl ⟨by rfl, ?hy82⟩) (by assumption) ?rest82
            case hy82 => intro w hSw; (try dsimp only at hSw); go_simp; try with_reducible rfl
            try simp only [Act.put, List.setIfInBounds_toArray, List.set_cons_zero, List.set_cons_succ]
            refine wpAnyH_take (i := 8) (oi := { dst := some 77, op := Op.move (Operand.tmp 76), type := 4, pos := "law.go:167", after := #[{ on := 7, ground := Ground.data }, { on := 1, ground := Ground.chain }], guard := none }) (v := ?v83) rfl (by kernel_rfl) (by kernel_rfl) (by kernel_rfl) (fun _ _ _ h => h) (Or.inl ⟨by rfl, ?hy83⟩) (by assumption) ?rest83
            case hy83 => intro w hSw; (try dsimp only at hSw); go_simp; try with_reducible rfl
            try simp only [Act.put, List.setIfInBounds_toArray, List.set_cons_zero, List.set_cons_succ]
            refine wpAnyH_take (i := 9) (oi := { dst := some 78, op := Op.move (Operand.tmp 5), type := 30, pos := "law.go:167", after := #[{ on := 8, ground := Ground.guard }], guard := some (8, false) }) (v := ?v84) rfl (by kernel_rfl) (by kernel_rfl) (by kernel_rfl) (fun _ _ _ h => h) (Or.inl ⟨by rfl, ?hy84⟩) (by assumption) ?rest84
            case hy84 => intro w hSw; (try dsimp only at hSw); go_simp; try with_reducible rfl
            try simp only [Act.put, List.setIfInBounds_toArray, List.set_cons_zero, List.set_cons_succ]
            refine wpAnyH_take (i := 11) (oi := { dst := some 80, op := Op.move (Operand.tmp 0), type := 47, pos := "law.go:167", after := #[{ on := 8, ground := Ground.guard }], guard := some (8, false) }) (v := ?v85) rfl (by kernel_rfl) (by kernel_rfl) (by kernel_rfl) (fun _ _ _ h => h) (Or.inl ⟨by rfl, ?hy85⟩) (by assumption) ?rest85
            case hy85 => intro w hSw; (try dsimp only at hSw); go_simp; try with_reducible rfl
            try simp only [Act.put, List.setIfInBounds_toArray, List.set_cons_zero, List.set_cons_succ]
            refine wpAnyH_take (i := 12) (oi := { dst := some 81, op := Op.move (Operand.tmp 6), type := 3, pos := "law.go:167", after := #[{ on := 8, ground := Ground.guard }], guard := some (8, false) }) (v := ?v86) rfl (by kernel_rfl) (by kernel_rfl) (by kernel_rfl) (fun _ _ _ h => h) (Or.inl ⟨by rfl, ?hy86⟩) (by assumption) ?rest86
            case hy86 => intro w hSw; (try dsimp only at hSw); go_simp; try with_reducible rfl
            try simp only [Act.put, List.setIfInBounds_toArray, List.set_cons_zero, List.set_cons_succ]
            refine wpAnyH_take (i := 13) (oi := { dst := some 82, op := Op.indexAddr 47 (Operand.tmp 80) (Operand.tmp 81), type := 0, pos := "law.go:167", after := #[{ on := 11, ground := Ground.data }, { on := 12, ground := Ground.data }, { on := 8, ground := Ground.guard }], guard := some (8, false) }) (v := ?v87) rfl (by kernel_rfl) (by kernel_rfl) (by kernel_rfl) (fun _ _ _ h => h) (Or.inl ⟨by rfl, ?hy87⟩) (by assumption) ?rest87
            case hy87 => intro w hSw; (try dsimp only at hSw); go_simp; try with_reducible rfl
            try simp only [Act.put, List.setIfInBounds_toArray, List.set_cons_zero, List.set_cons_succ]
            refine wpAnyH_take (i := 14) (oi := { dst := some 83, op := Op.fieldAddr 49 (Operand.tmp 82) 3, type := 0, pos := "law.go:167", after := #[{ on := 13, ground := Ground.data }, { on := 8, ground := Ground.guard }], guard := some (8, false) }) (v := ?v88) rfl (by kernel_rfl) (by kernel_rfl) (by kernel_rfl) (fun _ _ _ h => h) (Or.inl ⟨by rfl, ?hy88⟩) (by assumption) ?rest88
            case hy88 => intro w hSw; (try dsimp only at hSw); go_simp; try with_reducible rfl
            try simp only [Act.put, List.setIfInBounds_toArray, List.set_cons_zero, List.set_cons_succ]
            refine wpAnyH_take (i := 15) (oi := { dst := some 84, op := Op.load 9 (Operand.tmp 83), type := 9, pos := "law.go:167", after := #[{ on := 14, ground := Ground.data }, { on := 8, ground := Ground.guard }], guard := some (8, false) }) (v := ?v89) rfl (by kernel_rfl) (by kernel_rfl) (by kernel_rfl) (fun _ _ _ h => h) (Or.inl ⟨by rfl, ?hy89⟩) (by assumption) ?rest89
            case hy89 => intro w hSw; (try dsimp only at hSw); go_simp; try with_reducible rfl
            try simp only [Act.put, List.setIfInBounds_toArray, List.set_cons_zero, List.set_cons_succ]
            refine wpAnyH_ready (rs := [10, 16]) (by kernel_rfl) (by simp) ?_
            refine AllReadyH.cons (o := { dst := some 79, op := Op.call { callee := Callee.value (Operand.func 15), args := #[Operand.tmp 78], argTypes := #[30] }, type := 9, pos := "law.go:167", after := #[{ on := 9, ground := Ground.data }, { on := 8, ground := Ground.chain }, { on := 8, ground := Ground.guard }], guard := some (8, false) }) rfl (fun K hK => ?_) (AllReadyH.cons (o := { dst := some 85, op := Op.convert 9 46 (Operand.tmp 84), type := 46, pos := "law.go:167", after := #[{ on := 15, ground := Ground.data }, { on := 8, ground := Ground.guard }], guard := some (8, false) }) rfl (fun K hK => ?_) AllReadyH.nil)
            · skip
              go_simp
              refine (H2.out _ (by first | assumption | exact IsR.below (by assumption) (cvW_below s _))).mono ?_; rintro e w2 ⟨rfl, r2, o2⟩; have hB2 := thenB (by first | assumption | exact belowCv (by assumption)) o2; try have hcv3 := cv2 s _ w2 (o2.block _ (cvW_lt s _) (by have h9 := r1.lt; omega))
              try go_wp2_with fail
              refine hK.out _ _ ?hS90 ?rest90
              case hS90 => (try dsimp only); first | exact mkS.out _ (by assumption) | exact mkS.out _ (belowCv (by assumption))
              clear hK K hHeld
              intro hHeld
              try simp only [Act.put, List.setIfInBounds_toArray, List.set_cons_zero, List.set_cons_succ]
              refine wpAnyH_ready (rs := [16]) (by kernel_rfl) (by simp) ?_
              refine AllReadyH.cons (o := { dst := some 85, op := Op.convert 9 46 (Operand.tmp 84), type := 46, pos := "law.go:167", after := #[{ on := 15, ground := Ground.data }, { on := 8, ground := Ground.guard }], guard := some (8, false) }) rfl (fun K hK => ?_) AllReadyH.nil
              go_simp
              try go_wp2_with fail
              refine hK.out _ _ ?hS91 ?rest91
              case hS91 => (try dsimp only); first | exact mkS.out _ (by assumption) | exact mkS.out _ (belowCv (by assumption))
              clear hK K hHeld
              intro hHeld
              try simp only [Act.put, List.setIfInBounds_toArray, List.set_cons_zero, List.set_cons_succ]
              refine wpAnyH_ready (rs := [17]) (by kernel_rfl) (by simp) ?_
              refine AllReadyH.cons (o := { dst := some 86, op := Op.convert 46 9 (Operand.tmp 85), type := 9, pos := "law.go:167", after := #[{ on := 16, ground := Ground.data }, { on := 8, ground := Ground.guard }], guard := some (8, false) }) rfl (fun K hK => ?_) AllReadyH.nil
              go_simp
              try go_wp2_with fail
              refine hK.out _ _ ?hS92 ?rest92
              case hS92 => (try dsimp only); first | exact mkS.out _ (by assumption) | exact mkS.out _ (belowCv (by assumption))
              clear hK K hHeld
              intro hHeld
              try simp only [Act.put, List.setIfInBounds_toArray, List.set_cons_zero, List.set_cons_succ]
              refine wpAnyH_ready (rs := [18]) (by kernel_rfl) (by simp) ?_
              refine AllReadyH.cons (o := { dst := some 87, op := Op.call { callee := Callee.value (Operand.func 36), args := #[Operand.tmp 86], argTypes := #[9] }, type := 9, pos := "law.go:167", after := #[{ on := 17, ground := Ground.data }, { on := 10, ground := Ground.chain }, { on := 8, ground := Ground.guard }], guard := some (8, false) }) rfl (fun K hK => ?_) AllReadyH.nil
              go_simp
              refine (HFew.out _).mono ?_; rintro e w9 ⟨rfl, hww⟩; cases hww
              try go_wp2_with fail
              refine hK.out _ _ ?hS93 ?rest93
              case hS93 => (try dsimp only); first | exact mkS.out _ (by assumption) | exact mkS.out _ (belowCv (by assumption))
              clear hK K hHeld
              intro hHeld
              try simp only [Act.put, List.setIfInBounds_toArray, List.set_cons_zero, List.set_cons_succ]
              refine wpAnyH_take (i := 19) (oi := { dst := some 88, op := Op.binOp BinOp.neq 9 (Operand.tmp 79) (Operand.tmp 87) 9, type := 4, pos := "law.go:167", after := #[{ on := 10, ground := Ground.data }, { on := 18, ground := Ground.data }, { on := 8, ground := Ground.guard }], guard := some (8, false) }) (v := ?v94) rfl (by kernel_rfl) (by kernel_rfl) (by kernel_rfl) (fun _ _ _ h => h) (Or.inl ⟨by rfl, ?hy94⟩) (by assumption) ?rest94
              case hy94 => intro w hSw; (try dsimp only at hSw); go_simp; try with_reducible rfl
              try simp only [Act.put, List.setIfInBounds_toArray, List.set_cons_zero, List.set_cons_succ]
              refine wpAnyH_take (i := 20) (oi := { dst := some 89, op := Op.pick (Operand.tmp 77) (Operand.const (Value.bool true)) (Operand.tmp 88), type := 4, pos := "law.go:167", after := #[{ on := 8, ground := Ground.data }, { on := 19, ground := Ground.data }], guard := none }) (v := ?v95) rfl (by kernel_rfl) (by kernel_rfl) (by kernel_rfl) (fun _ _ _ h => h) (Or.inl ⟨by rfl, ?hy95⟩) (by assumption) ?rest95
              case hy95 => intro w hSw; (try dsimp only at hSw); go_simp; try with_reducible rfl
              try simp only [Act.put, List.setIfInBounds_toArray, List.set_cons_zero, List.set_cons_succ]
              refine wpAnyH_take (i := 21) (oi := { dst := some 90, op := Op.move (Operand.tmp 89), type := 4, pos := "law.go:167", after := #[{ on := 20, ground := Ground.data }, { on := 18, ground := Ground.chain }], guard := none }) (v := ?v96) rfl (by kernel_rfl) (by kernel_rfl) (by kernel_rfl) (fun _ _ _ h => h) (Or.inl ⟨by rfl, ?hy96⟩) (by assumption) ?rest96
              case hy96 => intro w hSw; (try dsimp only at hSw); go_simp; try with_reducible rfl
              try simp only [Act.put, List.setIfInBounds_toArray, List.set_cons_zero, List.set_cons_succ]
              refine wpAnyH_take (i := 22) (oi := { dst := some 91, op := Op.move (Operand.tmp 5), type := 30, pos := "law.go:167", after := #[{ on := 21, ground := Ground.guard }], guard := some (21, false) }) (v := ?v97) rfl (by kernel_rfl) (by kernel_rfl) (by kernel_rfl) (fun _ _ _ h => h) (Or.inl ⟨by rfl, ?hy97⟩) (by assumption) ?rest97
              case hy97 => intro w hSw; (try dsimp only at hSw); go_simp; try with_reducible rfl
              try simp only [Act.put, List.setIfInBounds_toArray, List.set_cons_zero, List.set_cons_succ]
              refine wpAnyH_take (i := 23) (oi := { dst := some 92, op := Op.move (Operand.tmp 5), type := 30, pos := "law.go:167", after := #[{ on := 21, ground := Ground.guard }], guard := some (21, false) }) (v := ?v98) rfl (by kernel_rfl) (by kernel_rfl) (by kernel_rfl) (fun _ _ _ h => h) (Or.inl ⟨by rfl, ?hy98⟩) (by assumption) ?rest98
              case hy98 => intro w hSw; (try dsimp only at hSw); go_simp; try with_reducible rfl
              try simp only [Act.put, List.setIfInBounds_toArray, List.set_cons_zero, List.set_cons_succ]
              refine wpAnyH_take (i := 27) (oi := { dst := some 96, op := Op.move (Operand.tmp 0), type := 47, pos := "law.go:167", after := #[{ on := 21, ground := Ground.guard }], guard := some (21, false) }) (v := ?v99) rfl (by kernel_rfl) (by kernel_rfl) (by kernel_rfl) (fun _ _ _ h => h) (Or.inl ⟨by rfl, ?hy99⟩) (by assumption) ?rest99
              case hy99 => intro w hSw; (try dsimp only at hSw); go_simp; try with_reducible rfl
              try simp only [Act.put, List.setIfInBounds_toArray, List.set_cons_zero, List.set_cons_succ]
              refine wpAnyH_take (i := 28) (oi := { dst := some 97, op := Op.move (Operand.tmp 6), type := 3, pos := "law.go:167", after := #[{ on := 21, ground := Ground.guard }], guard := some (21, false) }) (v := ?v100) rfl (by kernel_rfl) (by kernel_rfl) (by kernel_rfl) (fun _ _ _ h => h) (Or.inl ⟨by rfl, ?hy100⟩) (by assumption) ?rest100
              case hy100 => intro w hSw; (try dsimp only at hSw); go_simp; try with_reducible rfl
              try simp only [Act.put, List.setIfInBounds_toArray, List.set_cons_zero, List.set_cons_succ]
              refine wpAnyH_take (i := 29) (oi := { dst := some 98, op := Op.indexAddr 47 (Operand.tmp 96) (Operand.tmp 97), type := 0, pos := "law.go:167", after := #[{ on := 27, ground := Ground.data }, { on := 28, ground := Ground.data }, { on := 21, ground := Ground.guard }], guard := some (21, false) }) (v := ?v101) rfl (by kernel_rfl) (by kernel_rfl) (by kernel_rfl) (fun _ _ _ h => h) (Or.inl ⟨by rfl, ?hy101⟩) (by assumption) ?rest101
              case hy101 => intro w hSw; (try dsimp only at hSw); go_simp; try with_reducible rfl
              try simp only [Act.put, List.setIfInBounds_toArray, List.set_cons_zero, List.set_cons_succ]
              refine wpAnyH_take (i := 30) (oi := { dst := some 99, op := Op.fieldAddr 49 (Operand.tmp 98) 4, type := 0, pos := "law.go:167", after := #[{ on := 29, ground := Ground.data }, { on := 21, ground := Ground.guard }], guard := some (21, false) }) (v := ?v102) rfl (by kernel_rfl) (by kernel_rfl) (by kernel_rfl) (fun _ _ _ h => h) (Or.inl ⟨by rfl, ?hy102⟩) (by assumption) ?rest102
              case hy102 => intro w hSw; (try dsimp only at hSw); go_simp; try with_reducible rfl
              try simp only [Act.put, List.setIfInBounds_toArray, List.set_cons_zero, List.set_cons_succ]
              refine wpAnyH_take (i := 31) (oi := { dst := some 100, op := Op.load 25 (Operand.tmp 99), type := 25, pos := "law.go:167", after := #[{ on := 30, ground := Ground.data }, { on := 21, ground := Ground.guard }], guard := some (21, false) }) (v := ?v103) rfl (by kernel_rfl) (by kernel_rfl) (by kernel_rfl) (fun _ _ _ h => h) (Or.inl ⟨by rfl, ?hy103⟩) (by assumption) ?rest103
              case hy103 => intro w hSw; (try dsimp only at hSw); go_simp; try with_reducible rfl
              try simp only [Act.put, List.setIfInBounds_toArray, List.set_cons_zero, List.set_cons_succ]
              refine wpAnyH_take (i := 32) (oi := { dst := some 101, op := Op.convert 25 9 (Operand.tmp 100), type := 9, pos := "law.go:167", after := #[{ on := 31, ground := Ground.data }, { on := 21, ground := Ground.guard }], guard := some (21, false) }) (v := ?v104) rfl (by kernel_rfl) (by kernel_rfl) (by kernel_rfl) (fun _ _ _ h => h) (Or.inl ⟨by rfl, ?hy104⟩) (by assumption) ?rest104
              case hy104 => intro w hSw; (try dsimp only at hSw); go_simp; try with_reducible rfl
              try simp only [Act.put, List.setIfInBounds_toArray, List.set_cons_zero, List.set_cons_succ]
              refine wpAnyH_ready (rs := [24]) (by kernel_rfl) (by simp) ?_
              refine AllReadyH.cons (o := { dst := some 93, op := Op.call { callee := Callee.value (Operand.func 27), args := #[Operand.tmp 92, Operand.const (Value.int IntKind.i64 4)], argTypes := #[30, 3] }, type := 2, pos := "law.go:167", after := #[{ on := 23, ground := Ground.data }, { on := 21, ground := Ground.chain }, { on := 21, ground := Ground.guard }], guard := some (21, false) }) rfl (fun K hK => ?_) AllReadyH.nil
              go_simp
              refine (H3.out _ (by first | assumption | exact IsR.below (by assumption) (cvW_below s _))).mono ?_; rintro e w3 ⟨rfl, r3, o3⟩; have hB3 := thenB (by first | assumption | exact belowCv (by assumption)) o3
              try go_wp2_with fail
              refine hK.out _ _ ?hS105 ?rest105
              case hS105 => (try dsimp only); first | exact mkS.out _ (by assumption) | exact mkS.out _ (belowCv (by assumption))
              clear hK K hHeld
              intro hHeld
              try simp only [Act.put, List.setIfInBounds_toArray, List.set_cons_zero, List.set_cons_succ]
              refine wpAnyH_ready (rs := [25]) (by kernel_rfl) (by simp) ?_
              refine AllReadyH.cons (o := { dst := some 94, op := Op.call { callee := Callee.value (Operand.func 16), args := #[Operand.tmp 91, Operand.tmp 93], argTypes := #[30, 3] }, type := 25, pos := "law.go:167", after := #[{ on := 22, ground := Ground.data }, { on := 24, ground := Ground.data }, { on := 24, ground := Ground.chain }, { on := 21, ground := Ground.guard }], guard := some (21, false) }) rfl (fun K hK => ?_) AllReadyH.nil
              go_simp
              refine (H4.out _ (by assumption)).mono ?_; rintro e w4 ⟨v4, rfl, ow4, r4, o4⟩; have hB4 := thenB (by assumption) o4; have cs4 := run_string (View.of_own ow4 hlby)
              try go_wp2_with fail
              refine hK.out _ _ ?hS106 ?rest106
              case hS106 => (try dsimp only); first | exact mkS.out _ (by assumption) | exact mkS.out _ (belowCv (by assumption))
              clear hK K hHeld
              intro hHeld
              try simp only [Act.put, List.setIfInBounds_toArray, List.set_cons_zero, List.set_cons_succ]
              refine wpAnyH_ready (rs := [26]) (by kernel_rfl) (by simp) ?_
              refine AllReadyH.cons (o := { dst := some 95, op := Op.convert 25 9 (Operand.tmp 94), type := 9, pos := "law.go:167", after := #[{ on := 25, ground := Ground.data }, { on := 21, ground := Ground.guard }], guard := some (21, false) }) rfl (fun K hK => ?_) AllReadyH.nil
              go_simp
              try go_wp2_with fail
              refine hK.out _ _ ?hS107 ?rest107
              case hS107 => (try dsimp only); first | exact mkS.out _ (by assumption) | exact mkS.out _ (belowCv (by assumption))
              clear hK K hHeld
              intro hHeld
              try simp only [Act.put, List.setIfInBounds_toArray, List.set_cons_zero, List.set_cons_succ]
              refine wpAnyH_take (i := 33) (oi := { dst := some 102, op := Op.binOp BinOp.neq 9 (Operand.tmp 95) (Operand.tmp 101) 9, type := 4, pos := "law.go:167", after := #[{ on := 26, ground := Ground.data }, { on := 32, ground := Ground.data }, { on := 21, ground := Ground.guard }], guard := some (21, false) }) (v := ?v108) rfl (by kernel_rfl) (by kernel_rfl) (by kernel_rfl) (fun _ _ _ h => h) (Or.inl ⟨by rfl, ?hy108⟩) (by assumption) ?rest108
              case hy108 => intro w hSw; (try dsimp only at hSw); go_simp; try with_reducible rfl
              try simp only [Act.put, List.setIfInBounds_toArray, List.set_cons_zero, List.set_cons_succ]
              refine wpAnyH_take (i := 34) (oi := { dst := some 103, op := Op.pick (Operand.tmp 90) (Operand.const (Value.bool true)) (Operand.tmp 102), type := 4, pos := "law.go:167", after := #[{ on := 21, ground := Ground.data }, { on := 33, ground := Ground.data }], guard := none }) (v := ?v109) rfl (by kernel_rfl) (by kernel_rfl) (by kernel_rfl) (fun _ _ _ h => h) (Or.inl ⟨by rfl, ?hy109⟩) (by assumption) ?rest109
              case hy109 => intro w hSw; (try dsimp only at hSw); go_simp; try with_reducible rfl
              try simp only [Act.put, List.setIfInBounds_toArray, List.set_cons_zero, List.set_cons_succ]
              refine wpAnyH_done (by kernel_rfl) ?_ _
              refine NoPanic.normal ?_
              go_wp2
              exact ⟨⟨j + 1, by go_num, by omega, by omega, r4, hB4⟩, by simp [intOf]; omega⟩
            · skip
              go_simp
              try go_wp2_with fail
              refine hK.out _ _ ?hS110 ?rest110
              case hS110 => (try dsimp only); first | exact mkS.out _ (by assumption) | exact mkS.out _ (belowCv (by assumption))
              clear hK K hHeld
              intro hHeld
              try simp only [Act.put, List.setIfInBounds_toArray, List.set_cons_zero, List.set_cons_succ]
              refine wpAnyH_ready (rs := [10, 17]) (by kernel_rfl) (by simp) ?_
              refine AllReadyH.cons (o := { dst := some 79, op := Op.call { callee := Callee.value (Operand.func 15), args := #[Operand.tmp 78], argTypes := #[30] }, type := 9, pos := "law.go:167", after := #[{ on := 9, ground := Ground.data }, { on := 8, ground := Ground.chain }, { on := 8, ground := Ground.guard }], guard := some (8, false) }) rfl (fun K hK => ?_) (AllReadyH.cons (o := { dst := some 86, op := Op.convert 46 9 (Operand.tmp 85), type := 9, pos := "law.go:167", after := #[{ on := 16, ground := Ground.data }, { on := 8, ground := Ground.guard }], guard := some (8, false) }) rfl (fun K hK => ?_) AllReadyH.nil)
              · skip
                go_simp
                refine (H2.out _ (by first | assumption | exact IsR.below (by assumption) (cvW_below s _))).mono ?_; rintro e w2 ⟨rfl, r2, o2⟩; have hB2 := thenB (by first | assumption | exact belowCv (by assumption)) o2; try have hcv3 := cv2 s _ w2 (o2.block _ (cvW_lt s _) (by have h9 := r1.lt; omega))
                try go_wp2_with fail
                refine hK.out _ _ ?hS111 ?rest111
                case hS111 => (try dsimp only); first | exact mkS.out _ (by assumption) | exact mkS.out _ (belowCv (by assumption))
                clear hK K hHeld
                intro hHeld
                try simp only [Act.put, List.setIfInBounds_toArray, List.set_cons_zero, List.set_cons_succ]
                refine wpAnyH_ready (rs := [17]) (by kernel_rfl) (by simp) ?_
                refine AllReadyH.cons (o := { dst := some 86, op := Op.convert 46 9 (Operand.tmp 85), type := 9, pos := "law.go:167", after := #[{ on := 16, ground := Ground.data }, { on := 8, ground := Ground.guard }], guard := some (8, false) }) rfl (fun K hK => ?_) AllReadyH.nil
                go_simp
                try go_wp2_with fail
                refine hK.out _ _ ?hS112 ?rest112
                case hS112 => (try dsimp only); first | exact mkS.out _ (by assumption) | exact mkS.out _ (belowCv (by assumption))
                clear hK K hHeld
                intro hHeld
                try simp only [Act.put, List.setIfInBounds_toArray, List.set_cons_zero, List.set_cons_succ]
                refine wpAnyH_ready (rs := [18]) (by kernel_rfl) (by simp) ?_
                refine AllReadyH.cons (o := { dst := some 87, op := Op.call { callee := Callee.value (Operand.func 36), args := #[Operand.tmp 86], argTypes := #[9] }, type := 9, pos := "law.go:167", after := #[{ on := 17, ground := Ground.data }, { on := 10, ground := Ground.chain }, { on := 8, ground := Ground.guard }], guard := some (8, false) }) rfl (fun K hK => ?_) AllReadyH.nil
                go_simp
                refine (HFew.out _).mono ?_; rintro e w9 ⟨rfl, hww⟩; cases hww
                try go_wp2_with fail
                refine hK.out _ _ ?hS113 ?rest113
                case hS113 => (try dsimp only); first | exact mkS.out _ (by assumption) | exact mkS.out _ (belowCv (by assumption))
                clear hK K hHeld
                intro hHeld
                try simp only [Act.put, List.setIfInBounds_toArray, List.set_cons_zero, List.set_cons_succ]
                refine wpAnyH_take (i := 19) (oi := { dst := some 88, op := Op.binOp BinOp.neq 9 (Operand.tmp 79) (Operand.tmp 87) 9, type := 4, pos := "law.go:167", after := #[{ on := 10, ground := Ground.data }, { on := 18, ground := Ground.data }, { on := 8, ground := Ground.guard }], guard := some (8, false) }) (v := ?v114) rfl (by kernel_rfl) (by kernel_rfl) (by kernel_rfl) (fun _ _ _ h => h) (Or.inl ⟨by rfl, ?hy114⟩) (by assumption) ?rest114
                case hy114 => intro w hSw; (try dsimp only at hSw); go_simp; try with_reducible rfl
                try simp only [Act.put, List.setIfInBounds_toArray, List.set_cons_zero, List.set_cons_succ]
                refine wpAnyH_take (i := 20) (oi := { dst := some 89, op := Op.pick (Operand.tmp 77) (Operand.const (Value.bool true)) (Operand.tmp 88), type := 4, pos := "law.go:167", after := #[{ on := 8, ground := Ground.data }, { on := 19, ground := Ground.data }], guard := none }) (v := ?v115) rfl (by kernel_rfl) (by kernel_rfl) (by kernel_rfl) (fun _ _ _ h => h) (Or.inl ⟨by rfl, ?hy115⟩) (by assumption) ?rest115
                case hy115 => intro w hSw; (try dsimp only at hSw); go_simp; try with_reducible rfl
                try simp only [Act.put, List.setIfInBounds_toArray, List.set_cons_zero, List.set_cons_succ]
                refine wpAnyH_take (i := 21) (oi := { dst := some 90, op := Op.move (Operand.tmp 89), type := 4, pos := "law.go:167", after := #[{ on := 20, ground := Ground.data }, { on := 18, ground := Ground.chain }], guard := none }) (v := ?v116) rfl (by kernel_rfl) (by kernel_rfl) (by kernel_rfl) (fun _ _ _ h => h) (Or.inl ⟨by rfl, ?hy116⟩) (by assumption) ?rest116
                case hy116 => intro w hSw; (try dsimp only at hSw); go_simp; try with_reducible rfl
                try simp only [Act.put, List.setIfInBounds_toArray, List.set_cons_zero, List.set_cons_succ]
                refine wpAnyH_take (i := 22) (oi := { dst := some 91, op := Op.move (Operand.tmp 5), type := 30, pos := "law.go:167", after := #[{ on := 21, ground := Ground.guard }], guard := some (21, false) }) (v := ?v117) rfl (by kernel_rfl) (by kernel_rfl) (by kernel_rfl) (fun _ _ _ h => h) (Or.inl ⟨by rfl, ?hy117⟩) (by assumption) ?rest117
                case hy117 => intro w hSw; (try dsimp only at hSw); go_simp; try with_reducible rfl
                try simp only [Act.put, List.setIfInBounds_toArray, List.set_cons_zero, List.set_cons_succ]
                refine wpAnyH_take (i := 23) (oi := { dst := some 92, op := Op.move (Operand.tmp 5), type := 30, pos := "law.go:167", after := #[{ on := 21, ground := Ground.guard }], guard := some (21, false) }) (v := ?v118) rfl (by kernel_rfl) (by kernel_rfl) (by kernel_rfl) (fun _ _ _ h => h) (Or.inl ⟨by rfl, ?hy118⟩) (by assumption) ?rest118
                case hy118 => intro w hSw; (try dsimp only at hSw); go_simp; try with_reducible rfl
                try simp only [Act.put, List.setIfInBounds_toArray, List.set_cons_zero, List.set_cons_succ]
                refine wpAnyH_take (i := 27) (oi := { dst := some 96, op := Op.move (Operand.tmp 0), type := 47, pos := "law.go:167", after := #[{ on := 21, ground := Ground.guard }], guard := some (21, false) }) (v := ?v119) rfl (by kernel_rfl) (by kernel_rfl) (by kernel_rfl) (fun _ _ _ h => h) (Or.inl ⟨by rfl, ?hy119⟩) (by assumption) ?rest119
                case hy119 => intro w hSw; (try dsimp only at hSw); go_simp; try with_reducible rfl
                try simp only [Act.put, List.setIfInBounds_toArray, List.set_cons_zero, List.set_cons_succ]
                refine wpAnyH_take (i := 28) (oi := { dst := some 97, op := Op.move (Operand.tmp 6), type := 3, pos := "law.go:167", after := #[{ on := 21, ground := Ground.guard }], guard := some (21, false) }) (v := ?v120) rfl (by kernel_rfl) (by kernel_rfl) (by kernel_rfl) (fun _ _ _ h => h) (Or.inl ⟨by rfl, ?hy120⟩) (by assumption) ?rest120
                case hy120 => intro w hSw; (try dsimp only at hSw); go_simp; try with_reducible rfl
                try simp only [Act.put, List.setIfInBounds_toArray, List.set_cons_zero, List.set_cons_succ]
                refine wpAnyH_take (i := 29) (oi := { dst := some 98, op := Op.indexAddr 47 (Operand.tmp 96) (Operand.tmp 97), type := 0, pos := "law.go:167", after := #[{ on := 27, ground := Ground.data }, { on := 28, ground := Ground.data }, { on := 21, ground := Ground.guard }], guard := some (21, false) }) (v := ?v121) rfl (by kernel_rfl) (by kernel_rfl) (by kernel_rfl) (fun _ _ _ h => h) (Or.inl ⟨by rfl, ?hy121⟩) (by assumption) ?rest121
                case hy121 => intro w hSw; (try dsimp only at hSw); go_simp; try with_reducible rfl
                try simp only [Act.put, List.setIfInBounds_toArray, List.set_cons_zero, List.set_cons_succ]
                refine wpAnyH_take (i := 30) (oi := { dst := some 99, op := Op.fieldAddr 49 (Operand.tmp 98) 4, type := 0, pos := "law.go:167", after := #[{ on := 29, ground := Ground.data }, { on := 21, ground := Ground.guard }], guard := some (21, false) }) (v := ?v122) rfl (by kernel_rfl) (by kernel_rfl) (by kernel_rfl) (fun _ _ _ h => h) (Or.inl ⟨by rfl, ?hy122⟩) (by assumption) ?rest122
                case hy122 => intro w hSw; (try dsimp only at hSw); go_simp; try with_reducible rfl
                try simp only [Act.put, List.setIfInBounds_toArray, List.set_cons_zero, List.set_cons_succ]
                refine wpAnyH_take (i := 31) (oi := { dst := some 100, op := Op.load 25 (Operand.tmp 99), type := 25, pos := "law.go:167", after := #[{ on := 30, ground := Ground.data }, { on := 21, ground := Ground.guard }], guard := some (21, false) }) (v := ?v123) rfl (by kernel_rfl) (by kernel_rfl) (by kernel_rfl) (fun _ _ _ h => h) (Or.inl ⟨by rfl, ?hy123⟩) (by assumption) ?rest123
                case hy123 => intro w hSw; (try dsimp only at hSw); go_simp; try with_reducible rfl
                try simp only [Act.put, List.setIfInBounds_toArray, List.set_cons_zero, List.set_cons_succ]
                refine wpAnyH_take (i := 32) (oi := { dst := some 101, op := Op.convert 25 9 (Operand.tmp 100), type := 9, pos := "law.go:167", after := #[{ on := 31, ground := Ground.data }, { on := 21, ground := Ground.guard }], guard := some (21, false) }) (v := ?v124) rfl (by kernel_rfl) (by kernel_rfl) (by kernel_rfl) (fun _ _ _ h => h) (Or.inl ⟨by rfl, ?hy124⟩) (by assumption) ?rest124
                case hy124 => intro w hSw; (try dsimp only at hSw); go_simp; try with_reducible rfl
                try simp only [Act.put, List.setIfInBounds_toArray, List.set_cons_zero, List.set_cons_succ]
                refine wpAnyH_ready (rs := [24]) (by kernel_rfl) (by simp) ?_
                refine AllReadyH.cons (o := { dst := some 93, op := Op.call { callee := Callee.value (Operand.func 27), args := #[Operand.tmp 92, Operand.const (Value.int IntKind.i64 4)], argTypes := #[30, 3] }, type := 2, pos := "law.go:167", after := #[{ on := 23, ground := Ground.data }, { on := 21, ground := Ground.chain }, { on := 21, ground := Ground.guard }], guard := some (21, false) }) rfl (fun K hK => ?_) AllReadyH.nil
                go_simp
                refine (H3.out _ (by first | assumption | exact IsR.below (by assumption) (cvW_below s _))).mono ?_; rintro e w3 ⟨rfl, r3, o3⟩; have hB3 := thenB (by first | assumption | exact belowCv (by assumption)) o3
                try go_wp2_with fail
                refine hK.out _ _ ?hS125 ?rest125
                case hS125 => (try dsimp only); first | exact mkS.out _ (by assumption) | exact mkS.out _ (belowCv (by assumption))
                clear hK K hHeld
                intro hHeld
                try simp only [Act.put, List.setIfInBounds_toArray, List.set_cons_zero, List.set_cons_succ]
                refine wpAnyH_ready (rs := [25]) (by kernel_rfl) (by simp) ?_
                refine AllReadyH.cons (o := { dst := some 94, op := Op.call { callee := Callee.value (Operand.func 16), args := #[Operand.tmp 91, Operand.tmp 93], argTypes := #[30, 3] }, type := 25, pos := "law.go:167", after := #[{ on := 22, ground := Ground.data }, { on := 24, ground := Ground.data }, { on := 24, ground := Ground.chain }, { on := 21, ground := Ground.guard }], guard := some (21, false) }) rfl (fun K hK => ?_) AllReadyH.nil
                go_simp
                refine (H4.out _ (by assumption)).mono ?_; rintro e w4 ⟨v4, rfl, ow4, r4, o4⟩; have hB4 := thenB (by assumption) o4; have cs4 := run_string (View.of_own ow4 hlby)
                try go_wp2_with fail
                refine hK.out _ _ ?hS126 ?rest126
                case hS126 => (try dsimp only); first | exact mkS.out _ (by assumption) | exact mkS.out _ (belowCv (by assumption))
                clear hK K hHeld
                intro hHeld
                try simp only [Act.put, List.setIfInBounds_toArray, List.set_cons_zero, List.set_cons_succ]
                refine wpAnyH_ready (rs := [26]) (by kernel_rfl) (by simp) ?_
                refine AllReadyH.cons (o := { dst := some 95, op := Op.convert 25 9 (Operand.tmp 94), type := 9, pos := "law.go:167", after := #[{ on := 25, ground := Ground.data }, { on := 21, ground := Ground.guard }], guard := some (21, false) }) rfl (fun K hK => ?_) AllReadyH.nil
                go_simp
                try go_wp2_with fail
                refine hK.out _ _ ?hS127 ?rest127
                case hS127 => (try dsimp only); first | exact mkS.out _ (by assumption) | exact mkS.out _ (belowCv (by assumption))
                clear hK K hHeld
                intro hHeld
                try simp only [Act.put, List.setIfInBounds_toArray, List.set_cons_zero, List.set_cons_succ]
                refine wpAnyH_take (i := 33) (oi := { dst := some 102, op := Op.binOp BinOp.neq 9 (Operand.tmp 95) (Operand.tmp 101) 9, type := 4, pos := "law.go:167", after := #[{ on := 26, ground := Ground.data }, { on := 32, ground := Ground.data }, { on := 21, ground := Ground.guard }], guard := some (21, false) }) (v := ?v128) rfl (by kernel_rfl) (by kernel_rfl) (by kernel_rfl) (fun _ _ _ h => h) (Or.inl ⟨by rfl, ?hy128⟩) (by assumption) ?rest128
                case hy128 => intro w hSw; (try dsimp only at hSw); go_simp; try with_reducible rfl
                try simp only [Act.put, List.setIfInBounds_toArray, List.set_cons_zero, List.set_cons_succ]
                refine wpAnyH_take (i := 34) (oi := { dst := some 103, op := Op.pick (Operand.tmp 90) (Operand.const (Value.bool true)) (Operand.tmp 102), type := 4, pos := "law.go:167", after := #[{ on := 21, ground := Ground.data }, { on := 33, ground := Ground.data }], guard := none }) (v := ?v129) rfl (by kernel_rfl) (by kernel_rfl) (by kernel_rfl) (fun _ _ _ h => h) (Or.inl ⟨by rfl, ?hy129⟩) (by assumption) ?rest129
                case hy129 => intro w hSw; (try dsimp only at hSw); go_simp; try with_reducible rfl
                try simp only [Act.put, List.setIfInBounds_toArray, List.set_cons_zero, List.set_cons_succ]
                refine wpAnyH_done (by kernel_rfl) ?_ _
                refine NoPanic.normal ?_
                go_wp2
                exact ⟨⟨j + 1, by go_num, by omega, by omega, r4, hB4⟩, by simp [intOf]; omega⟩
              · skip
                go_simp
                try go_wp2_with fail
                refine hK.out _ _ ?hS130 ?rest130
                case hS130 => (try dsimp only); first | exact mkS.out _ (by assumption) | exact mkS.out _ (belowCv (by assumption))
                clear hK K hHeld
                intro hHeld
                try simp only [Act.put, List.setIfInBounds_toArray, List.set_cons_zero, List.set_cons_succ]
                refine wpAnyH_ready (rs := [10]) (by kernel_rfl) (by simp) ?_
                refine AllReadyH.cons (o := { dst := some 79, op := Op.call { callee := Callee.value (Operand.func 15), args := #[Operand.tmp 78], argTypes := #[30] }, type := 9, pos := "law.go:167", after := #[{ on := 9, ground := Ground.data }, { on := 8, ground := Ground.chain }, { on := 8, ground := Ground.guard }], guard := some (8, false) }) rfl (fun K hK => ?_) AllReadyH.nil
                go_simp
                refine (H2.out _ (by first | assumption | exact IsR.below (by assumption) (cvW_below s _))).mono ?_; rintro e w2 ⟨rfl, r2, o2⟩; have hB2 := thenB (by first | assumption | exact belowCv (by assumption)) o2; try have hcv3 := cv2 s _ w2 (o2.block _ (cvW_lt s _) (by have h9 := r1.lt; omega))
                try go_wp2_with fail
                refine hK.out _ _ ?hS131 ?rest131
                case hS131 => (try dsimp only); first | exact mkS.out _ (by assumption) | exact mkS.out _ (belowCv (by assumption))
                clear hK K hHeld
                intro hHeld
                try simp only [Act.put, List.setIfInBounds_toArray, List.set_cons_zero, List.set_cons_succ]
                refine wpAnyH_ready (rs := [18]) (by kernel_rfl) (by simp) ?_
                refine AllReadyH.cons (o := { dst := some 87, op := Op.call { callee := Callee.value (Operand.func 36), args := #[Operand.tmp 86], argTypes := #[9] }, type := 9, pos := "law.go:167", after := #[{ on := 17, ground := Ground.data }, { on := 10, ground := Ground.chain }, { on := 8, ground := Ground.guard }], guard := some (8, false) }) rfl (fun K hK => ?_) AllReadyH.nil
                go_simp
                refine (HFew.out _).mono ?_; rintro e w9 ⟨rfl, hww⟩; cases hww
                try go_wp2_with fail
                refine hK.out _ _ ?hS132 ?rest132
                case hS132 => (try dsimp only); first | exact mkS.out _ (by assumption) | exact mkS.out _ (belowCv (by assumption))
                clear hK K hHeld
                intro hHeld
                try simp only [Act.put, List.setIfInBounds_toArray, List.set_cons_zero, List.set_cons_succ]
                refine wpAnyH_take (i := 19) (oi := { dst := some 88, op := Op.binOp BinOp.neq 9 (Operand.tmp 79) (Operand.tmp 87) 9, type := 4, pos := "law.go:167", after := #[{ on := 10, ground := Ground.data }, { on := 18, ground := Ground.data }, { on := 8, ground := Ground.guard }], guard := some (8, false) }) (v := ?v133) rfl (by kernel_rfl) (by kernel_rfl) (by kernel_rfl) (fun _ _ _ h => h) (Or.inl ⟨by rfl, ?hy133⟩) (by assumption) ?rest133
                case hy133 => intro w hSw; (try dsimp only at hSw); go_simp; try with_reducible rfl
                try simp only [Act.put, List.setIfInBounds_toArray, List.set_cons_zero, List.set_cons_succ]
                refine wpAnyH_take (i := 20) (oi := { dst := some 89, op := Op.pick (Operand.tmp 77) (Operand.const (Value.bool true)) (Operand.tmp 88), type := 4, pos := "law.go:167", after := #[{ on := 8, ground := Ground.data }, { on := 19, ground := Ground.data }], guard := none }) (v := ?v134) rfl (by kernel_rfl) (by kernel_rfl) (by kernel_rfl) (fun _ _ _ h => h) (Or.inl ⟨by rfl, ?hy134⟩) (by assumption) ?rest134
                case hy134 => intro w hSw; (try dsimp only at hSw); go_simp; try with_reducible rfl
                try simp only [Act.put, List.setIfInBounds_toArray, List.set_cons_zero, List.set_cons_succ]
                refine wpAnyH_take (i := 21) (oi := { dst := some 90, op := Op.move (Operand.tmp 89), type := 4, pos := "law.go:167", after := #[{ on := 20, ground := Ground.data }, { on := 18, ground := Ground.chain }], guard := none }) (v := ?v135) rfl (by kernel_rfl) (by kernel_rfl) (by kernel_rfl) (fun _ _ _ h => h) (Or.inl ⟨by rfl, ?hy135⟩) (by assumption) ?rest135
                case hy135 => intro w hSw; (try dsimp only at hSw); go_simp; try with_reducible rfl
                try simp only [Act.put, List.setIfInBounds_toArray, List.set_cons_zero, List.set_cons_succ]
                refine wpAnyH_take (i := 22) (oi := { dst := some 91, op := Op.move (Operand.tmp 5), type := 30, pos := "law.go:167", after := #[{ on := 21, ground := Ground.guard }], guard := some (21, false) }) (v := ?v136) rfl (by kernel_rfl) (by kernel_rfl) (by kernel_rfl) (fun _ _ _ h => h) (Or.inl ⟨by rfl, ?hy136⟩) (by assumption) ?rest136
                case hy136 => intro w hSw; (try dsimp only at hSw); go_simp; try with_reducible rfl
                try simp only [Act.put, List.setIfInBounds_toArray, List.set_cons_zero, List.set_cons_succ]
                refine wpAnyH_take (i := 23) (oi := { dst := some 92, op := Op.move (Operand.tmp 5), type := 30, pos := "law.go:167", after := #[{ on := 21, ground := Ground.guard }], guard := some (21, false) }) (v := ?v137) rfl (by kernel_rfl) (by kernel_rfl) (by kernel_rfl) (fun _ _ _ h => h) (Or.inl ⟨by rfl, ?hy137⟩) (by assumption) ?rest137
                case hy137 => intro w hSw; (try dsimp only at hSw); go_simp; try with_reducible rfl
                try simp only [Act.put, List.setIfInBounds_toArray, List.set_cons_zero, List.set_cons_succ]
                refine wpAnyH_take (i := 27) (oi := { dst := some 96, op := Op.move (Operand.tmp 0), type := 47, pos := "law.go:167", after := #[{ on := 21, ground := Ground.guard }], guard := some (21, false) }) (v := ?v138) rfl (by kernel_rfl) (by kernel_rfl) (by kernel_rfl) (fun _ _ _ h => h) (Or.inl ⟨by rfl, ?hy138⟩) (by assumption) ?rest138
                case hy138 => intro w hSw; (try dsimp only at hSw); go_simp; try with_reducible rfl
                try simp only [Act.put, List.setIfInBounds_toArray, List.set_cons_zero, List.set_cons_succ]
                refine wpAnyH_take (i := 28) (oi := { dst := some 97, op := Op.move (Operand.tmp 6), type := 3, pos := "law.go:167", after := #[{ on := 21, ground := Ground.guard }], guard := some (21, false) }) (v := ?v139) rfl (by kernel_rfl) (by kernel_rfl) (by kernel_rfl) (fun _ _ _ h => h) (Or.inl ⟨by rfl, ?hy139⟩) (by assumption) ?rest139
                case hy139 => intro w hSw; (try dsimp only at hSw); go_simp; try with_reducible rfl
                try simp only [Act.put, List.setIfInBounds_toArray, List.set_cons_zero, List.set_cons_succ]
                refine wpAnyH_take (i := 29) (oi := { dst := some 98, op := Op.indexAddr 47 (Operand.tmp 96) (Operand.tmp 97), type := 0, pos := "law.go:167", after := #[{ on := 27, ground := Ground.data }, { on := 28, ground := Ground.data }, { on := 21, ground := Ground.guard }], guard := some (21, false) }) (v := ?v140) rfl (by kernel_rfl) (by kernel_rfl) (by kernel_rfl) (fun _ _ _ h => h) (Or.inl ⟨by rfl, ?hy140⟩) (by assumption) ?rest140
                case hy140 => intro w hSw; (try dsimp only at hSw); go_simp; try with_reducible rfl
                try simp only [Act.put, List.setIfInBounds_toArray, List.set_cons_zero, List.set_cons_succ]
                refine wpAnyH_take (i := 30) (oi := { dst := some 99, op := Op.fieldAddr 49 (Operand.tmp 98) 4, type := 0, pos := "law.go:167", after := #[{ on := 29, ground := Ground.data }, { on := 21, ground := Ground.guard }], guard := some (21, false) }) (v := ?v141) rfl (by kernel_rfl) (by kernel_rfl) (by kernel_rfl) (fun _ _ _ h => h) (Or.inl ⟨by rfl, ?hy141⟩) (by assumption) ?rest141
                case hy141 => intro w hSw; (try dsimp only at hSw); go_simp; try with_reducible rfl
                try simp only [Act.put, List.setIfInBounds_toArray, List.set_cons_zero, List.set_cons_succ]
                refine wpAnyH_take (i := 31) (oi := { dst := some 100, op := Op.load 25 (Operand.tmp 99), type := 25, pos := "law.go:167", after := #[{ on := 30, ground := Ground.data }, { on := 21, ground := Ground.guard }], guard := some (21, false) }) (v := ?v142) rfl (by kernel_rfl) (by kernel_rfl) (by kernel_rfl) (fun _ _ _ h => h) (Or.inl ⟨by rfl, ?hy142⟩) (by assumption) ?rest142
                case hy142 => intro w hSw; (try dsimp only at hSw); go_simp; try with_reducible rfl
                try simp only [Act.put, List.setIfInBounds_toArray, List.set_cons_zero, List.set_cons_succ]
                refine wpAnyH_take (i := 32) (oi := { dst := some 101, op := Op.convert 25 9 (Operand.tmp 100), type := 9, pos := "law.go:167", after := #[{ on := 31, ground := Ground.data }, { on := 21, ground := Ground.guard }], guard := some (21, false) }) (v := ?v143) rfl (by kernel_rfl) (by kernel_rfl) (by kernel_rfl) (fun _ _ _ h => h) (Or.inl ⟨by rfl, ?hy143⟩) (by assumption) ?rest143
                case hy143 => intro w hSw; (try dsimp only at hSw); go_simp; try with_reducible rfl
                try simp only [Act.put, List.setIfInBounds_toArray, List.set_cons_zero, List.set_cons_succ]
                refine wpAnyH_ready (rs := [24]) (by kernel_rfl) (by simp) ?_
                refine AllReadyH.cons (o := { dst := some 93, op := Op.call { callee := Callee.value (Operand.func 27), args := #[Operand.tmp 92, Operand.const (Value.int IntKind.i64 4)], argTypes := #[30, 3] }, type := 2, pos := "law.go:167", after := #[{ on := 23, ground := Ground.data }, { on := 21, ground := Ground.chain }, { on := 21, ground := Ground.guard }], guard := some (21, false) }) rfl (fun K hK => ?_) AllReadyH.nil
                go_simp
                refine (H3.out _ (by first | assumption | exact IsR.below (by assumption) (cvW_below s _))).mono ?_; rintro e w3 ⟨rfl, r3, o3⟩; have hB3 := thenB (by first | assumption | exact belowCv (by assumption)) o3
                try go_wp2_with fail
                refine hK.out _ _ ?hS144 ?rest144
                case hS144 => (try dsimp only); first | exact mkS.out _ (by assumption) | exact mkS.out _ (belowCv (by assumption))
                clear hK K hHeld
                intro hHeld
                try simp only [Act.put, List.setIfInBounds_toArray, List.set_cons_zero, List.set_cons_succ]
                refine wpAnyH_ready (rs := [25]) (by kernel_rfl) (by simp) ?_
                refine AllReadyH.cons (o := { dst := some 94, op := Op.call { callee := Callee.value (Operand.func 16), args := #[Operand.tmp 91, Operand.tmp 93], argTypes := #[30, 3] }, type := 25, pos := "law.go:167", after := #[{ on := 22, ground := Ground.data }, { on := 24, ground := Ground.data }, { on := 24, ground := Ground.chain }, { on := 21, ground := Ground.guard }], guard := some (21, false) }) rfl (fun K hK => ?_) AllReadyH.nil
                go_simp
                refine (H4.out _ (by assumption)).mono ?_; rintro e w4 ⟨v4, rfl, ow4, r4, o4⟩; have hB4 := thenB (by assumption) o4; have cs4 := run_string (View.of_own ow4 hlby)
                try go_wp2_with fail
                refine hK.out _ _ ?hS145 ?rest145
                case hS145 => (try dsimp only); first | exact mkS.out _ (by assumption) | exact mkS.out _ (belowCv (by assumption))
                clear hK K hHeld
                intro hHeld
                try simp only [Act.put, List.setIfInBounds_toArray, List.set_cons_zero, List.set_cons_succ]
                refine wpAnyH_ready (rs := [26]) (by kernel_rfl) (by simp) ?_
                refine AllReadyH.cons (o := { dst := some 95, op := Op.convert 25 9 (Operand.tmp 94), type := 9, pos := "law.go:167", after := #[{ on := 25, ground := Ground.data }, { on := 21, ground := Ground.guard }], guard := some (21, false) }) rfl (fun K hK => ?_) AllReadyH.nil
                go_simp
                try go_wp2_with fail
                refine hK.out _ _ ?hS146 ?rest146
                case hS146 => (try dsimp only); first | exact mkS.out _ (by assumption) | exact mkS.out _ (belowCv (by assumption))
                clear hK K hHeld
                intro hHeld
                try simp only [Act.put, List.setIfInBounds_toArray, List.set_cons_zero, List.set_cons_succ]
                refine wpAnyH_take (i := 33) (oi := { dst := some 102, op := Op.binOp BinOp.neq 9 (Operand.tmp 95) (Operand.tmp 101) 9, type := 4, pos := "law.go:167", after := #[{ on := 26, ground := Ground.data }, { on := 32, ground := Ground.data }, { on := 21, ground := Ground.guard }], guard := some (21, false) }) (v := ?v147) rfl (by kernel_rfl) (by kernel_rfl) (by kernel_rfl) (fun _ _ _ h => h) (Or.inl ⟨by rfl, ?hy147⟩) (by assumption) ?rest147
                case hy147 => intro w hSw; (try dsimp only at hSw); go_simp; try with_reducible rfl
                try simp only [Act.put, List.setIfInBounds_toArray, List.set_cons_zero, List.set_cons_succ]
                refine wpAnyH_take (i := 34) (oi := { dst := some 103, op := Op.pick (Operand.tmp 90) (Operand.const (Value.bool true)) (Operand.tmp 102), type := 4, pos := "law.go:167", after := #[{ on := 21, ground := Ground.data }, { on := 33, ground := Ground.data }], guard := none }) (v := ?v148) rfl (by kernel_rfl) (by kernel_rfl) (by kernel_rfl) (fun _ _ _ h => h) (Or.inl ⟨by rfl, ?hy148⟩) (by assumption) ?rest148
                case hy148 => intro w hSw; (try dsimp only at hSw); go_simp; try with_reducible rfl
                try simp only [Act.put, List.setIfInBounds_toArray, List.set_cons_zero, List.set_cons_succ]
                refine wpAnyH_done (by kernel_rfl) ?_ _
                refine NoPanic.normal ?_
                go_wp2
                exact ⟨⟨j + 1, by go_num, by omega, by omega, r4, hB4⟩, by simp [intOf]; omega⟩
          · have hje : ps.take j = ps.take 30 := by
              by_cases h30 : j = 30
              · rw [h30]
              · rw [List.take_of_length_le (by omega), List.take_of_length_le (by omega)]
            rw [hje, hL] at hR
            have hend : endZ L L.length 0 = (0, 0) := by unfold endZ; rw [if_neg (by simp), if_neg (by omega)]
            have hexit2 : ¬ (j : Int) < (ps.length : Int) ∨ ((j : Int) < (ps.length : Int) ∧ ¬ (j : Int) < 30) := by omega
            rcases hexit2 with he5 | ⟨he5, he6⟩
            · go_wp2_with fail
              refine (end_any pr vr L L.length 0 _ hR).mono ?_
              rw [hend]
              rintro e w5 ⟨rfl, q5, rfl⟩
              have B5 := below_drewN hbw q5
              have z5 := B5.size
              go_wp2_with fail
              refine (known_any _ (hT.below B5)).mono ?_
              rintro e w6 ⟨rfl, b6⟩
              go_wp2
              go_ret
              exact ⟨rfl, B5.trans (b6.mono z5)⟩
            · go_wp2_with fail
              refine (end_any pr vr L L.length 0 _ hR).mono ?_
              rw [hend]
              rintro e w5 ⟨rfl, q5, rfl⟩
              have B5 := below_drewN hbw q5
              have z5 := B5.size
              go_wp2_with fail
              refine (known_any _ (hT.below B5)).mono ?_
              rintro e w6 ⟨rfl, b6⟩
              go_wp2
              go_ret
              exact ⟨rfl, B5.trans (b6.mono z5)⟩
end Go.Proofs.YtnnoifofgbibmaaDoor
