/- LoaderSteady: walked. -/
import Derived.Test.YtacmooknfbjpeaaLOa
namespace Go.Proofs.Ytacmooknfbjpeaa.J
open Go.RowKit Go.MapKept Go.ChangeMaps
set_option linter.unusedVariables false
set_option maxRecDepth 8000 in
set_option maxHeartbeats 4000000 in
theorem steady_any (v : Value) (l : List Ak) (w : World) (hv : AkV w v l) : Calls Try.prog 5 #[v] w fun e w' => e = .returned (.bool true) ∧ Below w.heap.size w w' := by
  obtain ⟨ao, cap, rfl, hcap, hmax, hid, hrows⟩ := hv
  have HID := hidIt hid
  have HROW := hidIt hrows
  clear hid hrows
  have hlm : (l.length : Int) ≤ 9223372036854775807 := by unfold maxLen at hmax; omega
  go_enter Try.func5, Try.ntmps5
  go_wp2_with (go_at_call 8; refine (at_new _).mono ?_; rintro e w1 ⟨bp, rfl, hl, hb⟩; have A0 := hidIt (show StI w.heap.size w bp 0 (.slice none 0 0) (.slice none 0 0) w1 from ⟨_, [], [], Nat.le_refl _, Nat.le_refl _, hl, Sdy.start, World.ownsRow_nil _ _ _ _, World.ownsRow_nil _ _ _ _, hb⟩); clear hl hb)
  generalize hln : l.length = ln at *
  go_loopw [4, 5, 6] (fun hv pv iv wr => ∃ i : Nat, iv = .int .i64 (i : Int) ∧ i ≤ 60 ∧ StI w.heap.size w bp i hv pv wr) (fun _ _ iv _ => 60 - (intOf iv).toNat)
  case atStart => exact ⟨0, rfl, by omega, A0.out⟩
  case round =>
    clear A0
    obtain ⟨i, rfl, hi, hst⟩ := hrel
    by_cases hlt : i < ln ∧ i < 60
    · have hlt1 : (i : Int) < (ln : Int) := by omega
      have hlt2 : (i : Int) < 60 := by omega
      obtain ⟨⟨kk, xn, xm, xid, xnm, xsp⟩, hx⟩ : ∃ x, l[i]? = some x := ⟨_, List.getElem?_eq_getElem (by omega)⟩
      obtain ⟨S, hl, pl, hn1, hn2, hla, hsd, ho1, ho2, hbb⟩ := hst
      obtain ⟨oh, ch, rfl⟩ := own_slice ho1
      obtain ⟨op, cp, rfl⟩ := own_slice ho2
      rcases HROW.out with rfl | ⟨g, off, rfl, hg, hc⟩
      · simp at hx
      have hcx : Hid (∀ W, Below w.heap.size w W → W.cell? ⟨g, off + i * 6, none⟩ = some (.int .i64 kk) ∧ W.cell? ⟨g, off + i * 6 + 1, none⟩ = some (.int .i64 xn) ∧ W.cell? ⟨g, off + i * 6 + 2, none⟩ = some (.int .i64 xm) ∧ W.cell? ⟨g, off + i * 6 + 3, none⟩ = some (.int .i64 xid) ∧ W.cell? ⟨g, off + i * 6 + 4, none⟩ = some (.string xnm) ∧ W.cell? ⟨g, off + i * 6 + 5, none⟩ = some (.string xsp)) := hidIt fun W hW =>
        ⟨(hW.cell hg).trans (hc i _ hx 0 _ rfl), (hW.cell hg).trans (hc i _ hx 1 _ rfl), (hW.cell hg).trans (hc i _ hx 2 _ rfl), (hW.cell hg).trans (hc i _ hx 3 _ rfl), (hW.cell hg).trans (hc i _ hx 4 _ rfl), (hW.cell hg).trans (hc i _ hx 5 _ rfl)⟩
      obtain ⟨x0, x1, x2, x3, x4, x5⟩ := hcx.out wr hbb
      have NA := hidIt (fun W => name0_any xid (HID.out _ (List.mem_of_getElem? hx)) W)
      have L := hidIt hla
      have SD := hidIt hsd
      have O1 := hidIt ho1
      have O2 := hidIt ho2
      have BB := hidIt hbb
      clear hla hsd ho1 ho2 hbb hc hx hcx
      go_upto_block 2 with (go_at_call 16; refine (NA.out _).mono ?_; rintro e w2 ⟨nm, rfl, hb2⟩; have B2 := hidIt hb2; have BX := hidIt (show Blk w2 wr.heap.size #[.int .i64 kk, .int .i64 xn, .int .i64 xm, .int .i64 xid, .string xnm, .string xsp] 38 from (Blk.new wr _ _).kept (hb2.block _ (by simp))); have d0 := BX.out.cell 0; simp only [List.getElem?_toArray, List.getElem?_cons_zero] at d0; clear hb2)
      have BW : Hid (Below w.heap.size w w2) := hidIt ((BB.out.trans ((balloc wr (.cells #[.int .i64 kk, .int .i64 xn, .int .i64 xm, .int .i64 xid, .string xnm, .string xsp] 38)).mono BB.out.size)).trans (B2.out.mono (by have := BB.out.size; simp; omega)))
      have BY : Hid (Below wr.heap.size wr w2) := hidIt ((balloc wr (.cells #[.int .i64 kk, .int .i64 xn, .int .i64 xm, .int .i64 xid, .string xnm, .string xsp] 38)).trans (B2.out.mono (by simp)))
      have L2 := hidIt (L.out.below BY.out)
      have P1 := hidIt (own_below O1.out BY.out)
      have P2 := hidIt (own_below O2.out BY.out)
      have XC : Hid (∀ W, LStp w.heap.size w2 W → W.cell? ⟨wr.heap.size, 0, none⟩ = some (.int .i64 kk) ∧ W.cell? ⟨wr.heap.size, 1, none⟩ = some (.int .i64 xn) ∧ W.cell? ⟨wr.heap.size, 2, none⟩ = some (.int .i64 xm) ∧ W.cell? ⟨wr.heap.size, 3, none⟩ = some (.int .i64 xid)) := hidIt fun W hW => by
        have hk := BX.out.kept (hW.keep wr.heap.size _ 38 (0, 0) (by decide) (by decide) (by decide) BX.out)
        exact ⟨hk.cell 0, hk.cell 1, hk.cell 2, hk.cell 3⟩
      clear x0 x1 x2 x3 x4 x5 L O1 O2 NA B2 BY BX
      obtain ⟨d0', d1, d2, d3⟩ := XC.out w2 (LStp.refl _ _)
      clear d0'
      go_cut [4, 5] from 42 to 96 (fun hv pv wx => StI w.heap.size w bp (i + 1) hv pv wx)
      case first =>
        by_cases k1 : kk = 1
        · subst k1
          have HC := hidIt (at_child L2.out xn)
          have FIN : Hid (∀ W, LAt w.heap.size bp W (S.child xn).1 → LStp w.heap.size w2 W → StI w.heap.size w bp (i + 1) (.slice oh hl.length ch) (.slice op pl.length cp) W) := hidIt fun W h1 h2 =>
            ⟨_, hl, pl, by omega, by omega, h1, SD.out.child xn, own_stp P1.out h2 (by decide) (by decide) (by decide), own_stp P2.out h2 (by decide) (by decide) (by decide), BW.out.trans h2.below⟩
          go_wp2_with (go_at_call 9; refine HC.out.mono ?_; rintro e w3 ⟨rfl, h1, h2⟩; have F := hidIt (FIN.out w3 h1 h2); clear h1 h2)
          go_meet
          exact F.out
        · have e1 : (kk == 1) = false := by simp [k1]
          by_cases k2 : kk = 2
          · subst k2
            clear e1 k1
            have HC := hidIt (at_offer L2.out xn nm ⟨#[]⟩ xid)
            have FIN : Hid (∀ W, LAt w.heap.size bp W (S.offer xn nm ⟨#[]⟩ xid).1 → LStp w.heap.size w2 W → StI w.heap.size w bp (i + 1) (.slice oh hl.length ch) (.slice op pl.length cp) W) := hidIt fun W h1 h2 =>
              ⟨_, hl, pl, by omega, by omega, h1, SD.out.offer xn nm xid, own_stp P1.out h2 (by decide) (by decide) (by decide), own_stp P2.out h2 (by decide) (by decide) (by decide), BW.out.trans h2.below⟩
            go_wp2_with (go_at_call 11; refine HC.out.mono ?_; rintro e w3 ⟨rfl, h1, h2⟩; have F := hidIt (FIN.out w3 h1 h2); clear h1 h2)
            go_meet
            exact F.out
          · have e2 : (kk == 2) = false := by simp [k2]
            by_cases k3 : kk = 3
            · subst k3
              clear e1 e2 k1 k2
              obtain ⟨⟨S', rid, rd, er⟩, hr, hs1, hs2⟩ := SD.out.load L2.out.par.1 xn nm
              have HC := hidIt (at_load4 L2.out hr)
              have HS1 := hidIt hs1
              have HS2 := hidIt hs2
              clear hr hs1 hs2
              by_cases he : er = 0
              · subst he
                have FIN : Hid (∀ w3 ao' cap' W, LAt w.heap.size bp w3 S' → LStp w.heap.size w2 w3 → W.ownsRow w.heap.size 49 3 (.slice ao' (hl.length + 1) cap') (hl.length + 1) (gotC hl ++ [.int .i64 xn, .int .i64 rid, .string nm]) → Step (.slice oh hl.length ch) (w3.alloc (.cells #[.int .i64 xn, .int .i64 rid, .string nm] 49)) (.slice ao' (hl.length + 1) cap') W → StI w.heap.size w bp (i + 1) (.slice ao' (hl.length + 1) cap') (.slice op pl.length cp) W) := hidIt fun w3 ao' cap' W h1 h2 ho st => by
                  have q1 := own_stp P1.out h2 (by decide) (by decide) (by decide)
                  have q2 := own_stp P2.out h2 (by decide) (by decide) (by decide)
                  have b3 := BW.out.trans h2.below
                  refine ⟨S', hl ++ [(xn, rid, nm)], pl, by simp; omega, by omega, h1.grown q1 (row := [.int .i64 xn, .int .i64 rid, .string nm]) st (by decide) (by decide) (by decide), HS2.out rfl, ?_, own_grown q2 q1 (row := [.int .i64 xn, .int .i64 rid, .string nm]) st (by decide), b3.trans (below_app (row := [.int .i64 xn, .int .i64 rid, .string nm]) st b3.size fun k hk => (q1.lt k hk).1)⟩
                  rw [gotC_snoc, List.length_append]
                  exact ho
                have OWN : Hid (∀ w3, LStp w.heap.size w2 w3 → w3.ownsRow w.heap.size 49 3 (.slice oh hl.length ch) hl.length (gotC hl) ∧ w.heap.size ≤ w3.heap.size) := hidIt fun w3 h2 => ⟨own_stp P1.out h2 (by decide) (by decide) (by decide), (BW.out.trans h2.below).size⟩
                have hhl : hl.length ≤ 1000000 := by omega
                clear HS1 HS2
                generalize hl.length = hn at *
                go_wp2_with (first
                  | (go_at_call 12; refine HC.out.mono ?_; rintro e w3 ⟨rfl, h1, h2⟩; obtain ⟨f0, f1, f2, f3⟩ := XC.out w3 h2; have OW := hidIt (OWN.out w3 h2); have osz := OW.out.2; have H1 := hidIt h1; have H2 := hidIt h2; clear h1 h2)
                  | (at_builtin; refine wpList_sapp Try.infoGot rfl (by decide) (by decide) Try.underlying47 rfl _ _ rfl [.int .i64 xn, .int .i64 rid, .string nm] rfl (by simp [Value.oneCell']) w.heap.size _ _ _ OW.out.1 rfl rfl rfl hhl osz ?_; intro ao' cap' W' ho' st; have F := hidIt (FIN.out _ _ _ _ H1.out H2.out ho' st); clear ho' st))
                go_meet
                exact F.out
              · have he' : (er == 0) = false := by simp [he]
                have FIN : Hid (∀ W, LAt w.heap.size bp W S' → LStp w.heap.size w2 W → StI w.heap.size w bp (i + 1) (.slice oh hl.length ch) (.slice op pl.length cp) W) := hidIt fun W h1 h2 =>
                  ⟨S', hl, pl, by omega, by omega, h1, HS1.out, own_stp P1.out h2 (by decide) (by decide) (by decide), own_stp P2.out h2 (by decide) (by decide) (by decide), BW.out.trans h2.below⟩
                go_wp2_with (go_at_call 12; refine HC.out.mono ?_; rintro e w3 ⟨rfl, h1, h2⟩; have F := hidIt (FIN.out w3 h1 h2); clear h1 h2)
                go_meet
                exact F.out
            · have e3 : (kk == 3) = false := by simp [k3]
              by_cases k4 : kk = 4
              · subst k4
                clear e1 e2 e3 k1 k2 k3
                obtain ⟨hs1, hs2⟩ := SD.out.agree L2.out.par.2.1 L2.out.par.2.2 xn xm nm
                obtain ⟨S', er, hr⟩ : ∃ S' er, S.agree xn xm nm = (S', er) := ⟨_, _, rfl⟩
                rw [hr] at hs1 hs2
                have HC := hidIt (at_agree2 L2.out hr)
                have HS1 := hidIt hs1
                have HS2 := hidIt hs2
                clear hr hs1 hs2
                by_cases he : er = 0
                · subst he
                  have FIN : Hid (∀ w3 ao' cap' W, LAt w.heap.size bp w3 S' → LStp w.heap.size w2 w3 → W.ownsRow w.heap.size 38 6 (.slice ao' (pl.length + 1) cap') (pl.length + 1) (pacC pl ++ [.int .i64 0, .int .i64 xn, .int .i64 xm, .int .i64 0, .string nm, .string ⟨#[]⟩]) → Step (.slice op pl.length cp) (w3.alloc (.cells #[.int .i64 0, .int .i64 xn, .int .i64 xm, .int .i64 0, .string nm, .string ⟨#[]⟩] 38)) (.slice ao' (pl.length + 1) cap') W → StI w.heap.size w bp (i + 1) (.slice oh hl.length ch) (.slice ao' (pl.length + 1) cap') W) := hidIt fun w3 ao' cap' W h1 h2 ho st => by
                    have q1 := own_stp P1.out h2 (by decide) (by decide) (by decide)
                    have q2 := own_stp P2.out h2 (by decide) (by decide) (by decide)
                    have b3 := BW.out.trans h2.below
                    refine ⟨S', hl, pl ++ [(xn, xm, nm)], by omega, by simp; omega, h1.grown q2 (row := [.int .i64 0, .int .i64 xn, .int .i64 xm, .int .i64 0, .string nm, .string ⟨#[]⟩]) st (by decide) (by decide) (by decide), HS2.out rfl, own_grown q1 q2 (row := [.int .i64 0, .int .i64 xn, .int .i64 xm, .int .i64 0, .string nm, .string ⟨#[]⟩]) st (by decide), ?_, b3.trans (below_app (row := [.int .i64 0, .int .i64 xn, .int .i64 xm, .int .i64 0, .string nm, .string ⟨#[]⟩]) st b3.size fun k hk => (q2.lt k hk).1)⟩
                    rw [pacC_snoc, List.length_append]
                    exact ho
                  have OWN : Hid (∀ w3, LStp w.heap.size w2 w3 → w3.ownsRow w.heap.size 38 6 (.slice op pl.length cp) pl.length (pacC pl) ∧ w.heap.size ≤ w3.heap.size) := hidIt fun w3 h2 => ⟨own_stp P2.out h2 (by decide) (by decide) (by decide), (BW.out.trans h2.below).size⟩
                  have hpl : pl.length ≤ 1000000 := by omega
                  clear HS1 HS2
                  generalize pl.length = pn at *
                  go_wp2_with (first
                    | (go_at_call 10; refine HC.out.mono ?_; rintro e w3 ⟨rfl, h1, h2⟩; obtain ⟨f0, f1, f2, f3⟩ := XC.out w3 h2; have OW := hidIt (OWN.out w3 h2); have osz := OW.out.2; have H1 := hidIt h1; have H2 := hidIt h2; clear h1 h2)
                    | (at_builtin; refine wpList_sapp Try.infoAsk rfl (by decide) (by decide) Try.underlying34 rfl _ _ rfl [.int .i64 0, .int .i64 xn, .int .i64 xm, .int .i64 0, .string nm, .string ⟨#[]⟩] rfl (by simp [Value.oneCell']) w.heap.size _ _ _ OW.out.1 rfl rfl rfl hpl osz ?_; intro ao' cap' W' ho' st; have F := hidIt (FIN.out _ _ _ _ H1.out H2.out ho' st); clear ho' st))
                  go_meet
                  exact F.out
                · have he' : (er == 0) = false := by simp [he]
                  have FIN : Hid (∀ W, LAt w.heap.size bp W S' → LStp w.heap.size w2 W → StI w.heap.size w bp (i + 1) (.slice oh hl.length ch) (.slice op pl.length cp) W) := hidIt fun W h1 h2 =>
                    ⟨S', hl, pl, by omega, by omega, h1, HS1.out, own_stp P1.out h2 (by decide) (by decide) (by decide), own_stp P2.out h2 (by decide) (by decide) (by decide), BW.out.trans h2.below⟩
                  go_wp2_with (go_at_call 10; refine HC.out.mono ?_; rintro e w3 ⟨rfl, h1, h2⟩; have F := hidIt (FIN.out w3 h1 h2); clear h1 h2)
                  go_meet
                  exact F.out
              · have e4 : (kk == 4) = false := by simp [k4]
                have F : Hid (StI w.heap.size w bp (i + 1) (.slice oh hl.length ch) (.slice op pl.length cp) w2) := hidIt ⟨S, hl, pl, by omega, by omega, L2.out, SD.out, P1.out, P2.out, BW.out⟩
                go_wp2_with fail
                go_meet
                exact F.out
      case rest =>
        clear d0 d1 d2 d3 XC BW L2 SD P1 P2 hn1 hn2
        obtain ⟨T, hs, ps, hn1, hn2, hla, hsd, ho1, ho2, hbb⟩ := hcut
        obtain ⟨oh, ch, rfl⟩ := own_slice ho1
        obtain ⟨op, cp, rfl⟩ := own_slice ho2
        have L := hidIt hla
        have SD := hidIt hsd
        have O1 := hidIt ho1
        have O2 := hidIt ho2
        have BB := hidIt hbb
        clear hla hsd ho1 ho2 hbb
        go_wp2_with fail
        have hB0 : Hid (Below wc.heap.size wc wc) := hidIt (Below.refl _ _)
        go_loopw [12] (fun kv wr => ∃ k : Nat, kv = .int .i64 (k : Int) ∧ k ≤ hs.length ∧ Below wc.heap.size wc wr) (fun kv _ => hs.length - (intOf kv).toNat)
        case atStart => exact ⟨0, rfl, Nat.zero_le _, hB0.out⟩
        case round =>
          clear hB0
          obtain ⟨k, rfl, hk, hb⟩ := hrel
          have HB := hidIt hb
          clear hb
          by_cases hkl : k < hs.length
          · have hkl' : (k : Int) < (hs.length : Int) := by omega
            obtain ⟨g3, hg3⟩ : ∃ q, hs[k]? = some q := ⟨_, List.getElem?_eq_getElem hkl⟩
            obtain ⟨c, hc1, hc2⟩ := SD.out.had g3 (List.mem_of_getElem? hg3)
            have gq := own_below O1.out HB.out
            obtain ⟨gb, rfl, -, hgl, g0, -⟩ := own_cellk gq (gotC_at hs k g3 0 hg3 (by omega))
            obtain ⟨_, ee, -, -, g1, -⟩ := own_cellk gq (gotC_at hs k g3 1 hg3 (by omega))
            cases ee
            obtain ⟨_, ee, -, -, g2, -⟩ := own_cellk gq (gotC_at hs k g3 2 hg3 (by omega))
            cases ee
            rw [Nat.add_zero] at g0
            have CB : Hid (∀ W, Below wr.heap.size wr W → W.cell? ⟨gb, k * 3, none⟩ = some (.int .i64 g3.1) ∧ W.cell? ⟨gb, k * 3 + 1, none⟩ = some (.int .i64 g3.2.1) ∧ W.cell? ⟨gb, k * 3 + 2, none⟩ = some (.string g3.2.2)) := hidIt fun W hW => ⟨(hW.cell hgl).trans g0, (hW.cell hgl).trans g1, (hW.cell hgl).trans g2⟩
            have GLD : Hid (∀ W, Below wr.heap.size wr W → Calls Try.prog 13 #[.pointer (some ⟨bp, 0, none⟩), .int .i64 g3.1, .string g3.2.2] W fun e w' => e = .returned (.tuple #[.int .i64 g3.2.1, .bool true]) ∧ Below wr.heap.size wr w') := hidIt fun W hW => (at_loaded2 ((L.out.below HB.out).below hW) hc1).mono fun e w' ⟨a, _, b⟩ => ⟨by rw [a, ← hc2]; rfl, hW.trans (b.mono hW.size)⟩
            have S0 := hidIt (CB.out wr (Below.refl _ _))
            have SB : Hid (∀ q, Below wr.heap.size wr (wr.drewN q)) := hidIt (fun q => below_drewN (Below.refl _ _) q)
            clear hc1 hc2 gq g0 g1 g2 hg3 hgl
            generalize hs.length = hn at *
            generalize ps.length = pn at *
            go_wp2_with fail
            obtain ⟨g0, g1, g2⟩ := S0.out
            go_region_held3 (fun W => W.cell? ⟨gb, k * 3, none⟩ = some (.int .i64 g3.1) ∧ W.cell? ⟨gb, k * 3 + 1, none⟩ = some (.int .i64 g3.2.1) ∧ W.cell? ⟨gb, k * 3 + 2, none⟩ = some (.string g3.2.2)) (first | exact S0.out | exact CB.out _ (SB.out _) | exact CB.out _ (by assumption))
              (first | (go_at_call 13; refine (GLD.out _ (by first | exact SB.out _ | assumption)).mono ?_; rintro e w6 ⟨rfl, hb6⟩))
            all_goals
              obtain ⟨f0, f1, f2⟩ := CB.out _ hb6
              have HB6 := hidIt (HB.out.trans (hb6.mono HB.out.size))
              clear g0 g1 g2 hb6 CB GLD S0 SB
              go_wp2_with fail
              exact ⟨⟨k + 1, by go_num, by omega, HB6.out⟩, by simp [intOf]; omega⟩
          · have hkl' : ¬ (k : Int) < (hs.length : Int) := by omega
            go_wp2_with fail
            clear hkl hkl'
            have hB1 : Hid (Below wc.heap.size wc wr) := HB
            go_loopw [15] (fun kv wr => ∃ k : Nat, kv = .int .i64 (k : Int) ∧ k ≤ ps.length ∧ Below wc.heap.size wc wr) (fun kv _ => ps.length - (intOf kv).toNat)
            case atStart => exact ⟨0, rfl, Nat.zero_le _, hB1.out⟩
            case round =>
              clear hB1 HB hk
              obtain ⟨k, rfl, hk, hb⟩ := hrel
              have HB := hidIt hb
              clear hb
              by_cases hkl : k < ps.length
              · have hkl' : (k : Int) < (ps.length : Int) := by omega
                obtain ⟨g3, hg3⟩ : ∃ q, ps[k]? = some q := ⟨_, List.getElem?_eq_getElem hkl⟩
                have gq := own_below O2.out HB.out
                obtain ⟨gb, rfl, -, hgl, g0, -⟩ := own_cellk gq (pacC_at ps k g3 1 hg3 (by omega))
                obtain ⟨_, ee, -, -, g1, -⟩ := own_cellk gq (pacC_at ps k g3 2 hg3 (by omega))
                cases ee
                obtain ⟨_, ee, -, -, g2, -⟩ := own_cellk gq (pacC_at ps k g3 4 hg3 (by omega))
                cases ee
                have CB : Hid (∀ W, Below wr.heap.size wr W → W.cell? ⟨gb, k * 6 + 1, none⟩ = some (.int .i64 g3.1) ∧ W.cell? ⟨gb, k * 6 + 2, none⟩ = some (.int .i64 g3.2.1) ∧ W.cell? ⟨gb, k * 6 + 4, none⟩ = some (.string g3.2.2)) := hidIt fun W hW => ⟨(hW.cell hgl).trans g0, (hW.cell hgl).trans g1, (hW.cell hgl).trans g2⟩
                obtain ⟨o1, hq1⟩ : ∃ o, T.ldd g3.1 g3.2.2 = o := ⟨_, rfl⟩
                obtain ⟨o2, hq2⟩ : ∃ o, T.ldd g3.2.1 g3.2.2 = o := ⟨_, rfl⟩
                have TW : Hid (o1.isSome = true → o2.isSome = true → (o1.getD (0, 0)).1 = (o2.getD (0, 0)).1) := hidIt fun h1 h2 => by
                  obtain ⟨c, hc⟩ := Option.isSome_iff_exists.1 h1
                  obtain ⟨d, hd⟩ := Option.isSome_iff_exists.1 h2
                  rw [hc] at hq1 ⊢
                  rw [hd] at hq2 ⊢
                  exact SD.out.two (List.mem_of_getElem? hg3) hq1 hq2
                have GL1 : Hid (∀ W, Below wr.heap.size wr W → Calls Try.prog 13 #[.pointer (some ⟨bp, 0, none⟩), .int .i64 g3.1, .string g3.2.2] W fun e w' => e = .returned (.tuple #[.int .i64 (o1.getD (0, 0)).1, .bool o1.isSome]) ∧ Below wr.heap.size wr w') := hidIt fun W hW => (at_loaded2 ((L.out.below HB.out).below hW) hq1).mono fun e w' ⟨a, _, b⟩ => ⟨a, hW.trans (b.mono hW.size)⟩
                have GL2 : Hid (∀ W, Below wr.heap.size wr W → Calls Try.prog 13 #[.pointer (some ⟨bp, 0, none⟩), .int .i64 g3.2.1, .string g3.2.2] W fun e w' => e = .returned (.tuple #[.int .i64 (o2.getD (0, 0)).1, .bool o2.isSome]) ∧ Below wr.heap.size wr w') := hidIt fun W hW => (at_loaded2 ((L.out.below HB.out).below hW) hq2).mono fun e w' ⟨a, _, b⟩ => ⟨a, hW.trans (b.mono hW.size)⟩
                have S0 := hidIt (CB.out wr (Below.refl _ _))
                have SB : Hid (∀ q, Below wr.heap.size wr (wr.drewN q)) := hidIt (fun q => below_drewN (Below.refl _ _) q)
                clear gq g0 g1 g2 hg3 hgl hq1 hq2
                generalize o1.isSome = t1 at *
                generalize o2.isSome = t2 at *
                generalize (o1.getD (0, 0)).1 = z1 at *
                generalize (o2.getD (0, 0)).1 = z2 at *
                generalize hs.length = hn at *
                generalize ps.length = pn at *
                go_wp2_with fail
                obtain ⟨g0, g1, g2⟩ := S0.out
                go_region_held3 (fun W => W.cell? ⟨gb, k * 6 + 1, none⟩ = some (.int .i64 g3.1) ∧ W.cell? ⟨gb, k * 6 + 2, none⟩ = some (.int .i64 g3.2.1) ∧ W.cell? ⟨gb, k * 6 + 4, none⟩ = some (.string g3.2.2)) (first | exact S0.out | exact CB.out _ (SB.out _) | exact CB.out _ (by assumption))
                  (first | (go_at_call 13; refine (GL1.out _ (by first | exact SB.out _ | assumption)).mono ?_; rintro e w6 ⟨rfl, hb6⟩))
                all_goals
                  clear GL1 g0 g1 g2 S0
                  have S6 := hidIt (CB.out _ hb6)
                  obtain ⟨g0, g1, g2⟩ := S6.out
                  have SB6 := hidIt (fun q => below_drewN hb6 q)
                  go_wp2_with fail
                  go_region_held3 (fun W => W.cell? ⟨gb, k * 6 + 1, none⟩ = some (.int .i64 g3.1) ∧ W.cell? ⟨gb, k * 6 + 2, none⟩ = some (.int .i64 g3.2.1) ∧ W.cell? ⟨gb, k * 6 + 4, none⟩ = some (.string g3.2.2)) (first | exact S6.out | exact CB.out _ (SB6.out _) | exact CB.out _ (by assumption))
                    (first | (go_at_call 13; refine (GL2.out _ (by first | exact SB6.out _ | assumption)).mono ?_; rintro e w7 ⟨rfl, hb7⟩))
                  all_goals
                    have HB7 := hidIt (HB.out.trans (hb7.mono HB.out.size))
                    clear GL2 g0 g1 g2 S6 SB6 SB CB hb6 hb7
                    have TWO := TW.out
                    cases t1 with
                    | false =>
                      clear TW TWO
                      go_wp2_with fail
                      exact ⟨⟨k + 1, by go_num, by omega, HB7.out⟩, by simp [intOf]; omega⟩
                    | true =>
                      cases t2 with
                      | false =>
                        clear TW TWO
                        go_wp2_with fail
                        exact ⟨⟨k + 1, by go_num, by omega, HB7.out⟩, by simp [intOf]; omega⟩
                      | true =>
                        obtain rfl := TWO rfl rfl
                        clear TW TWO
                        go_wp2_with fail
                        exact ⟨⟨k + 1, by go_num, by omega, HB7.out⟩, by simp [intOf]; omega⟩
              · have hkl' : ¬ (k : Int) < (ps.length : Int) := by omega
                go_wp2_with fail
                exact ⟨⟨i + 1, by go_num, by omega, T, hs, ps, hn1, hn2, L.out.below HB.out, SD.out, own_below O1.out HB.out, own_below O2.out HB.out, BB.out.trans (HB.out.mono BB.out.size)⟩, by simp [intOf]; omega⟩
    · have hcs : ¬ (i : Int) < (ln : Int) ∨ ((i : Int) < (ln : Int) ∧ ¬ (i : Int) < 60) := by omega
      obtain ⟨S, hl, pl, -, -, -, -, -, -, hbb⟩ := hst
      have BB := hidIt hbb
      clear hbb hlt
      rcases hcs with h1 | ⟨h1, h2⟩
      · go_wp2_with (go_at_call 14; refine (known_any _).mono ?_; rintro e w9 ⟨rfl, hb⟩; have BK := hidIt (BB.out.trans (hb.mono BB.out.size)); clear hb)
        go_ret
        exact ⟨rfl, BK.out⟩
      · go_wp2_with (go_at_call 14; refine (known_any _).mono ?_; rintro e w9 ⟨rfl, hb⟩; have BK := hidIt (BB.out.trans (hb.mono BB.out.size)); clear hb)
        go_ret
        exact ⟨rfl, BK.out⟩
theorem steady_w (v : Value) (l : List Ak) (w : World) (hv : AkV w v l) : Calls Try.prog 5 #[v] w fun e w' => e = .returned (.bool true) ∧ Below w.heap.size w w' := steady_any v l w hv
end Go.Proofs.Ytacmooknfbjpeaa.J
