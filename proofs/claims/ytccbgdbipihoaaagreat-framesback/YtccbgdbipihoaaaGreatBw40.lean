/- Texts FBd. -/
import Derived.Test.YtccbgdbipihoaaaGreatBw39
import Derived.Deep.CutRange
import Derived.Deep.RegionHeld3
import Derived.BigQuiet
namespace Go.Proofs.YtccbgdbipihoaaaGreat.Fr
open Go.RowKit Q Q.D K T

set_option maxRecDepth 8000 in
set_option maxHeartbeats 20000000 in
theorem back_any (w : World) (vr : Value) (rl : List Int) (va : Value) (f : RD) (ol : Option Addr) (cl : Nat) (l : List ByteArray) (n : Int) (hr : M.NV w.heap.size w.heap.size w vr rl) (hv : FrV w va f) (hl : LAt 1 TextR w ol cl l)
    (n1 : f.loc.length ≤ 8796093021952) (n2 : f.stk.length ≤ 8796093021952) (z1 : ∀ s ∈ f.loc, s.size ≤ 9223372036854775000) (z2 : ∀ s ∈ f.stk, s.size ≤ 9223372036854775000) (hn : -9223372036854775808 ≤ n ∧ n ≤ 9223372036854775807) :
    Calls Tryz.prog 4 #[vr, va, .slice ol l.length cl, .int .i64 n] w fun e w' => e = .returned (.bool true) ∧ Below w.heap.size w w' := by
  have HV := D.hidIt hv
  have HL := D.hidIt hl
  have HR := D.hidIt hr
  obtain ⟨aor, capr, rfl⟩ : ∃ ao cap, vr = .slice ao rl.length cap := by obtain ⟨ao, cap, e, _⟩ := hr; exact ⟨ao, cap, e⟩
  obtain ⟨o1, c1, o2, c2, rfl, _, _⟩ := hv
  obtain ⟨aT, loc, stk⟩ := f
  simp only at *
  clear hl hr
  have B0 := balloc w (.cells #[.int .i64 aT, .slice o1 loc.length c1, .slice o2 stk.length c2] 25)
  have A0 := D.hidIt (Blk.new w #[.int .i64 aT, .slice o1 loc.length c1, .slice o2 stk.length c2] 25)
  have HB0 := D.hidIt B0
  have hz0 : w.heap.size < (w.alloc (.cells #[.int .i64 aT, .slice o1 loc.length c1, .slice o2 stk.length c2] 25)).heap.size := by simp
  clear B0
  have Z1 := D.hidIt z1
  have Z2 := D.hidIt z2
  clear z1 z2
  go_enter Tryz.func4, Tryz.ntmps4
  go_wp2_with fail
  generalize w.alloc (.cells #[.int .i64 aT, .slice o1 loc.length c1, .slice o2 stk.length c2] 25) = w0 at *
  refine (new_any w0).mono ?_
  rintro e w1 ⟨pk, mb, v, R, rfl, KO, hR, B1⟩
  have B01 := HB0.out.trans (B1.mono HB0.out.size)
  have HMC := D.hidIt (M.classes_any _ rl w1 (nv_up HR.out B01 B01.size))
  clear B01
  go_wp2_with fail
  refine HMC.out.mono ?_
  intro e w2 hq
  obtain ⟨g, cA, cB, cT, cC, rfl, hg, hrow, b2, mA, mB, mT, mC⟩ := made_rows hq
  have hR0 : R.reverse.map Mem.k = objectK :: givenK.tail := by rw [hR]; rfl
  have KO2 := KO.below b2
  have HAV := D.hidIt (fun (r : Array Value) (hr : r = cA ∨ r = cB ∨ r = cT ∨ r = cC) => asked_view KO2 hR0 (show Asked w0.heap.size w2 r by rcases hr with rfl | rfl | rfl | rfl <;> exact maked_asked (by assumption)))
  have H4 := D.hidIt (cells4 (maked_asked (n0 := 0) mA).1 (maked_asked (n0 := 0) mB).1 (maked_asked (n0 := 0) mT).1 (cC := cC))
  have HI0 := D.hidIt (BackI.start KO hR B1 b2 hrow)
  clear hq hR0 KO2 KO hR B1 b2 hrow mA mB mT mC HMC HR
  generalize cA ++ cB ++ cT ++ cC = cells at *
  go_wp2_with fail
  go_loopw [11] (fun iv wr => ∃ (i : Nat) (vv : Value) (RR : List Mem), iv = .int .i64 (i : Int) ∧ i ≤ 4 ∧ BackI w0.heap.size pk mb v w0 w2 g cells vv RR wr) (fun iv _ => 4 - (intOf iv).toNat)
  case atStart => exact ⟨0, v, R, rfl, Nat.zero_le _, HI0.out⟩
  case round =>
    clear HI0
    obtain ⟨i, vv, RR, rfl, hi, hI⟩ := hrel
    have HI := D.hidIt hI
    clear hI
    by_cases hlt : i < 4
    · have hlt' : (i : Int) < 4 := by omega
      obtain ⟨r, hr, hcell⟩ := H4.out i hlt
      obtain ⟨k, hk⟩ := HAV.out r hr
      have hcv := ClassV.ext (ext_off HI.out.sz HI.out.off) hk
      have hcv' := hcv
      obtain ⟨q1, e1, q2, e2, q3, e3, er, _⟩ := hcv'
      cases er
      have hB : Blk wr g cells 43 := HI.out.row
      have d0 := hB.cell (i * 5 + 0)
      have d1 := hB.cell (i * 5 + 1)
      have d2 := hB.cell (i * 5 + 2)
      have d3 := hB.cell (i * 5 + 3)
      have d4 := hB.cell (i * 5 + 4)
      rw [hcell 0 (by omega)] at d0
      rw [hcell 1 (by omega)] at d1
      rw [hcell 2 (by omega)] at d2
      rw [hcell 3 (by omega)] at d3
      rw [hcell 4 (by omega)] at d4
      simp at d0 d1 d2 d3 d4
      have A := D.hidIt (add_core w0.heap.size wr pk mb vv RR HI.out.ko k _ hcv)
      clear hcell hk hcv hr hB
      go_wp2_with fail
      refine A.out.mono ?_
      rintro e w4 ⟨rfl, hA⟩
      clear A d0 d1 d2 d3 d4
      by_cases hz : refZ RR k = 0
      · rw [if_pos hz] at hA
        obtain ⟨v', bb, KO', st, hown⟩ := hA
        have HI2 := D.hidIt (HI.out.add hz KO' st hown)
        clear KO' st hown hz
        go_wp2
        go_roundw
        case rel => exact ⟨i + 1, _, _, by go_num, by omega, HI2.out⟩
        case measure => simp [intOf]; omega
      · rw [if_neg hz] at hA
        have HI2 := D.hidIt (HI.out.below hA)
        clear hA hz
        go_wp2
        go_roundw
        case rel => exact ⟨i + 1, _, _, by go_num, by omega, HI2.out⟩
        case measure => simp [intOf]; omega
    · have hlt' : ¬ (i : Int) < 4 := by omega
      obtain ⟨aon, cn, hvv, V⟩ := HI.out.ko.view
      have BW := HI.out.b
      have HKV := D.hidIt V
      have HA1 := D.hidIt (show Blk wr w.heap.size _ _ from (BW.block w.heap.size hz0).trans A0.out)
      have HBW := D.hidIt (HB0.out.trans (BW.mono HB0.out.size))
      have HV1 := D.hidIt (HV.out.below HBW.out)
      have HL1 := D.hidIt (HL.out.below HBW.out (fun _ _ h => h))
      clear hvv V BW HI HAV H4 HV HL A0 HB0 hz0
      by_cases h5 : 5 < l.length
      · have h5' : (l.length : Int) > 5 := by omega
        obtain ⟨b5, f5, e5, _⟩ := FrV.rows HL1.out (by omega)
        subst e5
        have hcl : ¬ cl = 0 := by have := HL1.out.1; omega
        have hcl5 : (5 : Int) ≤ (cl : Int) := by have := HL1.out.1; omega
        have HL5 := D.hidIt (HL1.out.take 5)
        have HLL : Hid ((l.take 5).length = 5) := by show _ = _; rw [List.length_take]; omega
        have Z1s := D.hidIt (FrV.small HV1.out).1
        have Z2s : Hid (∀ s ∈ stk ++ l.take 5, s.size ≤ 9223372036854775807) := fun s hs => by
          rcases List.mem_append.1 hs with h | h
          · exact (FrV.small HV1.out).2 s h
          · exact LAt.small HL5.out s h
        clear HL1
        go_upto_region 11 with (fail)
        have x0 := HA1.out.cell 0
        have x1 := HA1.out.cell 1
        have x2 := HA1.out.cell 2
        simp at x0 x1 x2
        obtain ⟨S, hS⟩ : ∃ S, S = (stk ++ (l.take 5)).length := ⟨_, rfl⟩
        have hSi : S ≤ 8796093022000 := by rw [hS, List.length_append, HLL.out]; omega
        have HS := D.hidIt hS
        clear hS
        have G1 := D.hidIt (push_ok wr _ _ HV1.out ((stk.length : Int) + (5 : Nat)) (some ⟨b5, f5, none⟩) cl (l.take 5) HL5.out (by simp only; omega) (by simp only; omega) (by rw [HLL.out]; omega) (by simp only [HLL.out]; omega))
        simp only [HLL.out] at G1
        go_upto_region 12 with (first
          | (go_at_call 22; refine G1.out.mono ?_; rintro e w3 ⟨v3, rfl, of3, b3⟩; have FV3 := of3.view Z1s.out Z2s.out; obtain ⟨a1, p1, a2, p2, e3, k1, k2⟩ := FV3; simp only at e3; rw [← HS.out] at e3; subst e3; have HK1 := D.hidIt k1; have HK2 := D.hidIt k2; clear k1 k2 of3)
          | (refine wpList_store_row rfl 25 _ _ rfl w3.heap.size #[.int .i64 aT, .slice a1 loc.length p1, .slice a2 S p2] rfl rfl 25 _ (Blk.new w3 _ _) (by kernel_rfl) rfl (by simp [Value.oneCell']) ?_))
        obtain ⟨FX, b4⟩ := boxed w3 #[.int .i64 aT, .slice a1 loc.length p1, .slice a2 S p2]
        have b5 := b3.trans (b4.mono b3.size)
        have HB5 := D.hidIt b5
        have HFX := D.hidIt FX
        have HFV : Hid (FrV _ (.agg #[.int .i64 aT, .slice a1 loc.length p1, .slice a2 S p2]) ⟨aT, loc, stk ++ (l.take 5)⟩) := ⟨a1, p1, a2, p2, by simp only; rw [← HS.out], HK1.out.below b4 (fun _ _ h => h), HK2.out.below b4 (fun _ _ h => h)⟩
        have HA5 := D.hidIt (HA1.out.below b5)
        have HV5 := D.hidIt (HV1.out.below b5)
        have HL5' := D.hidIt (HL5.out.below b5 (fun _ _ h => h))
        have HKV5 := D.hidIt (HKV.out.below b5)
        have HBW5 := D.hidIt (HBW.out.trans (b5.mono HBW.out.size))
        clear G1 x0 x1 x2 b3 b4 b5 FX HK1 HK2 HA1 HV1 HL5 HKV HBW HB5
        generalize (w3.alloc (.cells #[.int .i64 0, .slice none 0 0, .slice none 0 0] 25)).setRow w3.heap.size #[.int .i64 aT, .slice a1 loc.length p1, .slice a2 S p2] = W5 at *
        generalize w3.heap.size = bf at *
        have f0 := HFX.out.cell 0
        have f1 := HFX.out.cell 1
        have f2 := HFX.out.cell 2
        simp at f0 f1 f2
        have G2 := D.hidIt (pop_ok W5 _ _ HFV.out 5 stk.length (by simp only; omega) (by simp only; rw [← HS.out]; omega) (by simp only [List.length_append, HLL.out]))
        go_upto_region 15 with (first
          | (go_at_call 20; refine G2.out.mono ?_; intro e w6 hq; obtain ⟨g1, d1, g2, d2, g3, d3, he, gl1, gl2, gl3, b6⟩ := pop_lit hq ⟨Z1s.out, Z2s.out⟩; simp only [List.take_left, List.drop_left, HLL.out] at he gl1 gl2 gl3; clear hq; subst he; have HG1 := D.hidIt gl1; have HG2 := D.hidIt gl2; have HG3 := D.hidIt gl3; clear gl1 gl2 gl3)
          | (refine wpList_store_row rfl 25 _ _ rfl w6.heap.size #[.int .i64 aT, .slice g1 loc.length d1, .slice g2 stk.length d2] rfl rfl 25 _ (Blk.new w6 _ _) (by kernel_rfl) rfl (by simp [Value.oneCell']) ?_))
        obtain ⟨GX, b7⟩ := boxed w6 #[.int .i64 aT, .slice g1 loc.length d1, .slice g2 stk.length d2]
        have b8 := b6.trans (b7.mono b6.size)
        have HGX := D.hidIt GX
        have HA8 := D.hidIt (HA5.out.below b8)
        have HV8 := D.hidIt (HV5.out.below b8)
        have HL8 := D.hidIt (HL5'.out.below b8 (fun _ _ h => h))
        have HKV8 := D.hidIt (HKV5.out.below b8)
        have HBW8 := D.hidIt (HBW5.out.trans (b8.mono HBW5.out.size))
        have HGV8 : Hid (FrV _ (.agg #[.int .i64 aT, .slice g1 loc.length d1, .slice g2 stk.length d2]) ⟨aT, loc, stk⟩) := ⟨g1, d1, g2, d2, rfl, HG1.out.below b7 (fun _ _ h => h), HG2.out.below b7 (fun _ _ h => h)⟩
        have HP8 := D.hidIt (HG3.out.below b7 (fun _ _ h => h))
        clear G2 f0 f1 f2 b6 b7 b8 GX HG1 HG2 HG3 HFX HFV HA5 HV5 HL5' HKV5 HBW5
        generalize (w6.alloc (.cells #[.int .i64 0, .slice none 0 0, .slice none 0 0] 25)).setRow w6.heap.size #[.int .i64 aT, .slice g1 loc.length d1, .slice g2 stk.length d2] = W8 at *
        generalize w6.heap.size = bg at *
        have GS := D.hidIt (same_any g3 d3 (some ⟨b5, f5, none⟩) cl (l.take 5) W8 HP8.out HL8.out)
        rw [HLL.out] at GS
        have GF : Hid (∀ W, Below W8.heap.size W8 W → Calls Tryz.prog 26 #[.agg #[.int .i64 aT, .slice g1 loc.length d1, .slice g2 stk.length d2], .agg #[.int .i64 aT, .slice o1 loc.length c1, .slice o2 stk.length c2]] W fun e w' => e = .returned (.bool true) ∧ Below W.heap.size W w') := fun W hW => same_frame ⟨aT, loc, stk⟩ [.int .i64 aT, .slice g1 loc.length d1, .slice g2 stk.length d2] [.int .i64 aT, .slice o1 loc.length c1, .slice o2 stk.length c2] W (frame_row (HGV8.out.below hW)) (frame_row (HV8.out.below hW))
        go_upto_region 17 with (first
          | (go_at_call 14; refine GS.out.mono ?_; rintro e w9 ⟨rfl, b9⟩; have y0 := (HGX.out.below b9).cell 0; have y1 := (HGX.out.below b9).cell 1; have y2 := (HGX.out.below b9).cell 2; have x0 := (HA8.out.below b9).cell 0; have x1 := (HA8.out.below b9).cell 1; have x2 := (HA8.out.below b9).cell 2; simp at x0 x1 x2 y0 y1 y2)
          | (go_at_call 26; refine (GF.out _ b9).mono ?_; rintro e w10 ⟨rfl, b10⟩))
        have b11 := b9.trans (b10.mono b9.size)
        have HA := D.hidIt (HA8.out.below b11)
        have HV := D.hidIt (HV8.out.below b11)
        have HKV := D.hidIt (HKV8.out.below b11)
        have HBW := D.hidIt (HBW8.out.trans (b11.mono HBW8.out.size))
        clear GS GF x0 x1 x2 y0 y1 y2 HGX HA8 HV8 HL8 HKV8 HBW8 HGV8 HP8 b9 b10 b11
        have x0 := HA.out.cell 0
        have x1 := HA.out.cell 1
        have x2 := HA.out.cell 2
        simp at x0 x1 x2
        by_cases hin : 0 ≤ n ∧ n < (loc.length : Int)
        · obtain ⟨N, rfl⟩ : ∃ N : Nat, n = (N : Int) := ⟨n.toNat, by omega⟩
          have hN : N < loc.length := by omega
          have hNi : (N : Int) < (loc.length : Int) := by omega
          have hN0 : (N : Int) ≥ 0 := by omega
          have G := D.hidIt (set_ok w10 _ _ HV.out N ⟨#[73]⟩ (by simp only; omega) (by simp only; omega) hN)
          go_upto_region 18 with (first
            | (go_at_call 24; refine G.out.mono ?_; rintro e w11 ⟨v11, rfl, of11, b11⟩; obtain ⟨s1, t1, s2, t2, e11, k1, k2⟩ := of11.view (set_small Z1s.out) (FrV.small HV.out).2; simp only [List.length_set] at e11; subst e11; have HK1 := D.hidIt k1; clear k1 k2 of11)
            | (refine wpList_store_row rfl 25 _ _ rfl w11.heap.size #[.int .i64 aT, .slice s1 loc.length t1, .slice s2 stk.length t2] rfl rfl 25 _ (Blk.new w11 _ _) (by kernel_rfl) rfl (by simp [Value.oneCell']) ?_))
          obtain ⟨SX, b12⟩ := boxed w11 #[.int .i64 aT, .slice s1 loc.length t1, .slice s2 stk.length t2]
          have b13 := b11.trans (b12.mono b11.size)
          have HSX := D.hidIt SX
          have HA := D.hidIt (HA.out.below b13)
          have HV := D.hidIt (HV.out.below b13)
          have HKV := D.hidIt (HKV.out.below b13)
          have HBW := D.hidIt (HBW.out.trans (b13.mono HBW.out.size))
          have HS1 := D.hidIt (FrV.rows (HK1.out.below b12 (fun _ _ h => h)))
          obtain ⟨q1, q2, q3, q4, qe, qk, _⟩ := id HV.out
          cases qe
          have HO1 := D.hidIt (FrV.rows qk)
          clear G x0 x1 x2 b11 b12 b13 SX HK1 qk
          generalize (w11.alloc (.cells #[.int .i64 0, .slice none 0 0, .slice none 0 0] 25)).setRow w11.heap.size #[.int .i64 aT, .slice s1 loc.length t1, .slice s2 stk.length t2] = W12 at *
          generalize w11.heap.size = bs at *
          have x0 := HA.out.cell 0
          have x1 := HA.out.cell 1
          have x2 := HA.out.cell 2
          simp at x0 x1 x2
          go_wp2_with fail
          go_loopw [19] (fun iv wz => ∃ i : Nat, iv = .int .i64 (i : Int) ∧ i ≤ loc.length ∧ Below W12.heap.size W12 wz) (fun iv _ => loc.length - (intOf iv).toNat)
          case atStart => exact ⟨0, rfl, Nat.zero_le _, Below.refl _ _⟩
          case round =>
            obtain ⟨i, rfl, hi, hb⟩ := hrel
            have HB := D.hidIt hb
            have x0 := (HA.out.below hb).cell 0
            have x1 := (HA.out.below hb).cell 1
            have x2 := (HA.out.below hb).cell 2
            simp at x0 x1 x2
            by_cases hlt : i < loc.length
            · have hlt' : (i : Int) < (loc.length : Int) := by omega
              obtain ⟨bA, fA, eA, _, dA⟩ := HO1.out (by omega)
              obtain ⟨bS, fS, eS, _, dS⟩ := HS1.out (by rw [List.length_set]; omega)
              subst eA eS
              have cA1 := cell_later hb (dA i hlt)
              have cS1 := cell_later hb (dS i (by rw [List.length_set]; exact hlt))
              have s1c := (HSX.out.below hb).cell 1
              simp at s1c
              obtain ⟨y, hy⟩ : ∃ y, loc[i]? = some y := ⟨_, List.getElem?_eq_getElem hlt⟩
              rw [List.getD_eq_getElem?_getD, hy] at cA1
              rw [List.getD_eq_getElem?_getD, List.getElem?_set] at cS1
              simp only [Option.getD_some] at cA1
              clear dA dS hb
              by_cases hiN : N = i
              · subst hiN
                rw [if_pos rfl, if_pos hlt] at cS1
                simp only [Option.getD_some] at cS1
                clear hy
                go_wp2_with fail
                go_quiet (fail)
                go_wp2_with fail
                go_roundw
                · exact ⟨N + 1, by go_num, by omega, below_dn HB.out _⟩
                · simp [intOf]; omega
              · have hiN' : ¬ (i : Int) = (N : Int) := by omega
                rw [if_neg hiN, hy] at cS1
                simp only [Option.getD_some] at cS1
                clear hy
                go_wp2_with fail
                go_quiet (fail)
                go_wp2_with fail
                go_roundw
                · exact ⟨i + 1, by go_num, by omega, below_dn HB.out _⟩
                · simp [intOf]; omega
            · have hlt' : ¬ (i : Int) < (loc.length : Int) := by omega
              have HV := D.hidIt (HV.out.below hb)
              have HKV := D.hidIt (HKV.out.below hb)
              have HA := D.hidIt (HA.out.below hb)
              have HBW := D.hidIt (HBW.out.trans (hb.mono HBW.out.size))
              clear HSX HS1 HO1 HB hb
              go_upto_region 25 with (fail)
              have hS0 : Hid (wr.cell? ⟨w.heap.size, 0, none⟩ = some (.int .i64 aT) ∧ wr.cell? ⟨w.heap.size, 1, none⟩ = some (.slice o1 loc.length c1) ∧ wr.cell? ⟨w.heap.size, 2, none⟩ = some (.slice o2 stk.length c2)) := ⟨x0, x1, x2⟩
              have hS3 : Hid (∀ V, Below wr.heap.size wr V → V.cell? ⟨w.heap.size, 0, none⟩ = some (.int .i64 aT) ∧ V.cell? ⟨w.heap.size, 1, none⟩ = some (.slice o1 loc.length c1) ∧ V.cell? ⟨w.heap.size, 2, none⟩ = some (.slice o2 stk.length c2)) := fun V b => ⟨cell_later b x0, cell_later b x1, cell_later b x2⟩
              have hb0 : Hid (Below wr.heap.size wr wr.drew) := (Below.refl _ _).drew
              have GFi : Hid (∀ V, Below wr.heap.size wr V → Calls Tryz.prog 15 #[.pointer (some ⟨pk, 0, none⟩), .agg #[.int .i64 aT, .slice o1 loc.length c1, .slice o2 stk.length c2], .agg #[.int .i64 aT, .slice o1 loc.length c1, .slice o2 stk.length c2]] V fun e w' => e = .returned (.bool (loc.all (knownK (RR.map Mem.k)) && stk.all (knownK (RR.map Mem.k)))) ∧ Below wr.heap.size wr w') := fun V hV => by
                have := fitsF_any V pk RR mb aon cn (HKV.out.below hV) _ _ _ _ (HV.out.below hV) (HV.out.below hV) Z1.out Z2.out Z1.out Z2.out
                rw [fitL_self, fitL_self] at this
                refine this.mono ?_
                rintro e w' ⟨he, b⟩
                exact ⟨he, hV.trans (b.mono hV.size)⟩
              have GKn : Hid (∀ V, Below wr.heap.size wr V → Calls Tryz.prog 17 #[.pointer (some ⟨pk, 0, none⟩), .agg #[.int .i64 aT, .slice o1 loc.length c1, .slice o2 stk.length c2]] V fun e w' => e = .returned (.bool (loc.all (knownK (RR.map Mem.k)) && stk.all (knownK (RR.map Mem.k)))) ∧ Below wr.heap.size wr w') := fun V hV => (knownF_any V pk RR mb aon cn (HKV.out.below hV) _ _ (HV.out.below hV) Z1.out Z2.out).mono fun e w' h => ⟨h.1, hV.trans (h.2.mono hV.size)⟩
              generalize (loc.all (knownK (RR.map Mem.k)) && stk.all (knownK (RR.map Mem.k))) = Kb at *
              clear x0 x1 x2 HA HV HKV
              go_region_held3 (fun V => V.cell? ⟨w.heap.size, 0, none⟩ = some (.int .i64 aT) ∧ V.cell? ⟨w.heap.size, 1, none⟩ = some (.slice o1 loc.length c1) ∧ V.cell? ⟨w.heap.size, 2, none⟩ = some (.slice o2 stk.length c2)) (first | exact hS0.out | exact hS3.out _ hb0.out | exact hS3.out _ (by assumption))
                (first
                  | (go_at_call 15; refine (GFi.out _ (by first | exact hb0.out | assumption)).mono ?_; rintro e w13 ⟨rfl, b13⟩)
                  | (go_at_call 17; refine (GKn.out _ (by assumption)).mono ?_; rintro e w14 ⟨rfl, b14⟩)
                  | (go_at_call 27; refine (known_any _).mono ?_; rintro e w15 ⟨rfl, b15⟩; have b16 := b14.trans (b15.mono b14.size)))
              go_wp2_with fail
              go_ret
              exact ⟨by simp, HBW.out.trans (b16.mono HBW.out.size)⟩
        · have G := D.hidIt (set_no w10 _ _ HV.out n ⟨#[73]⟩ (by simp only; omega))
          unfold zeroF at G
          go_upto_region 18 with (first
            | (go_at_call 24; refine G.out.mono ?_; rintro e w11 ⟨rfl, b11⟩)
            | (refine wpList_store_row rfl 25 _ _ rfl w11.heap.size #[.int .i64 0, .slice none 0 0, .slice none 0 0] rfl rfl 25 _ (Blk.new w11 _ _) (by kernel_rfl) rfl (by simp [Value.oneCell']) ?_))
          obtain ⟨_, b12⟩ := boxed w11 #[.int .i64 0, .slice none 0 0, .slice none 0 0]
          have b13 := b11.trans (b12.mono b11.size)
          have HA := D.hidIt (HA.out.below b13)
          have HV := D.hidIt (HV.out.below b13)
          have HKV := D.hidIt (HKV.out.below b13)
          have HBW := D.hidIt (HBW.out.trans (b13.mono HBW.out.size))
          clear G x0 x1 x2 b11 b12 b13
          generalize (w11.alloc (.cells #[.int .i64 0, .slice none 0 0, .slice none 0 0] 25)).setRow w11.heap.size #[.int .i64 0, .slice none 0 0, .slice none 0 0] = W12 at *
          generalize w11.heap.size = bs at *
          have x0 := HA.out.cell 0
          have x1 := HA.out.cell 1
          have x2 := HA.out.cell 2
          simp at x0 x1 x2
          have hout : n < 0 ∨ (¬ n < 0 ∧ ¬ n < (loc.length : Int)) := by omega
          rcases hout with hn0 | ⟨hn0, hn1⟩
          all_goals
            first
              | have hn0' : ¬ n ≥ 0 := by omega
              | have hn0' : n ≥ 0 := by omega
            go_wp2_with fail
            go_loopw [19] (fun iv wz => iv = .int .i64 0 ∧ wz = W12) (fun _ _ => 0)
            case atStart => exact ⟨rfl, rfl⟩
            case round =>
              obtain ⟨rfl, hwz⟩ := hrel
              have hwz := hwz.symm
              subst hwz
              go_upto_region 25 with (fail)
              have hS0 : Hid (W12.cell? ⟨w.heap.size, 0, none⟩ = some (.int .i64 aT) ∧ W12.cell? ⟨w.heap.size, 1, none⟩ = some (.slice o1 loc.length c1) ∧ W12.cell? ⟨w.heap.size, 2, none⟩ = some (.slice o2 stk.length c2)) := ⟨x0, x1, x2⟩
              have hS3 : Hid (∀ V, Below W12.heap.size W12 V → V.cell? ⟨w.heap.size, 0, none⟩ = some (.int .i64 aT) ∧ V.cell? ⟨w.heap.size, 1, none⟩ = some (.slice o1 loc.length c1) ∧ V.cell? ⟨w.heap.size, 2, none⟩ = some (.slice o2 stk.length c2)) := fun V b => ⟨cell_later b x0, cell_later b x1, cell_later b x2⟩
              have hb0 : Hid (Below W12.heap.size W12 W12.drew) := (Below.refl _ _).drew
              have GFi : Hid (∀ V, Below W12.heap.size W12 V → Calls Tryz.prog 15 #[.pointer (some ⟨pk, 0, none⟩), .agg #[.int .i64 aT, .slice o1 loc.length c1, .slice o2 stk.length c2], .agg #[.int .i64 aT, .slice o1 loc.length c1, .slice o2 stk.length c2]] V fun e w' => e = .returned (.bool (loc.all (knownK (RR.map Mem.k)) && stk.all (knownK (RR.map Mem.k)))) ∧ Below W12.heap.size W12 w') := fun V hV => by
                have := fitsF_any V pk RR mb aon cn (HKV.out.below hV) _ _ _ _ (HV.out.below hV) (HV.out.below hV) Z1.out Z2.out Z1.out Z2.out
                rw [fitL_self, fitL_self] at this
                refine this.mono ?_
                rintro e w' ⟨he, b⟩
                exact ⟨he, hV.trans (b.mono hV.size)⟩
              have GKn : Hid (∀ V, Below W12.heap.size W12 V → Calls Tryz.prog 17 #[.pointer (some ⟨pk, 0, none⟩), .agg #[.int .i64 aT, .slice o1 loc.length c1, .slice o2 stk.length c2]] V fun e w' => e = .returned (.bool (loc.all (knownK (RR.map Mem.k)) && stk.all (knownK (RR.map Mem.k)))) ∧ Below W12.heap.size W12 w') := fun V hV => (knownF_any V pk RR mb aon cn (HKV.out.below hV) _ _ (HV.out.below hV) Z1.out Z2.out).mono fun e w' h => ⟨h.1, hV.trans (h.2.mono hV.size)⟩
              generalize (loc.all (knownK (RR.map Mem.k)) && stk.all (knownK (RR.map Mem.k))) = Kb at *
              clear x0 x1 x2 HA HV HKV
              go_region_held3 (fun V => V.cell? ⟨w.heap.size, 0, none⟩ = some (.int .i64 aT) ∧ V.cell? ⟨w.heap.size, 1, none⟩ = some (.slice o1 loc.length c1) ∧ V.cell? ⟨w.heap.size, 2, none⟩ = some (.slice o2 stk.length c2)) (first | exact hS0.out | exact hS3.out _ hb0.out | exact hS3.out _ (by assumption))
                (first
                  | (go_at_call 15; refine (GFi.out _ (by first | exact hb0.out | assumption)).mono ?_; rintro e w13 ⟨rfl, b13⟩)
                  | (go_at_call 17; refine (GKn.out _ (by assumption)).mono ?_; rintro e w14 ⟨rfl, b14⟩)
                  | (go_at_call 27; refine (known_any _).mono ?_; rintro e w15 ⟨rfl, b15⟩; have b16 := b14.trans (b15.mono b14.size)))
              go_wp2_with fail
              go_ret
              exact ⟨by simp, HBW.out.trans (b16.mono HBW.out.size)⟩
      · have h5' : ¬ (l.length : Int) > 5 := by omega
        have HL5 := D.hidIt HL1.out
        have h5n : l.length ≤ 5 := by omega
        have Z1s := D.hidIt (FrV.small HV1.out).1
        have Z2s : Hid (∀ s ∈ stk ++ l, s.size ≤ 9223372036854775807) := fun s hs => by
          rcases List.mem_append.1 hs with h | h
          · exact (FrV.small HV1.out).2 s h
          · exact LAt.small HL5.out s h
        clear HL1
        go_upto_region 11 with (fail)
        have x0 := HA1.out.cell 0
        have x1 := HA1.out.cell 1
        have x2 := HA1.out.cell 2
        simp at x0 x1 x2
        obtain ⟨S, hS⟩ : ∃ S, S = (stk ++ l).length := ⟨_, rfl⟩
        have hSi : S ≤ 8796093022000 := by rw [hS, List.length_append]; omega
        have HS := D.hidIt hS
        clear hS
        have G1 := D.hidIt (push_ok wr _ _ HV1.out ((stk.length : Int) + (l.length : Nat)) ol cl l HL5.out (by simp only; omega) (by simp only; omega) (by omega) (by simp only; omega))
        simp only at G1
        go_upto_region 12 with (first
          | (go_at_call 22; refine G1.out.mono ?_; rintro e w3 ⟨v3, rfl, of3, b3⟩; have FV3 := of3.view Z1s.out Z2s.out; obtain ⟨a1, p1, a2, p2, e3, k1, k2⟩ := FV3; simp only at e3; rw [← HS.out] at e3; subst e3; have HK1 := D.hidIt k1; have HK2 := D.hidIt k2; clear k1 k2 of3)
          | (refine wpList_store_row rfl 25 _ _ rfl w3.heap.size #[.int .i64 aT, .slice a1 loc.length p1, .slice a2 S p2] rfl rfl 25 _ (Blk.new w3 _ _) (by kernel_rfl) rfl (by simp [Value.oneCell']) ?_))
        obtain ⟨FX, b4⟩ := boxed w3 #[.int .i64 aT, .slice a1 loc.length p1, .slice a2 S p2]
        have b5 := b3.trans (b4.mono b3.size)
        have HB5 := D.hidIt b5
        have HFX := D.hidIt FX
        have HFV : Hid (FrV _ (.agg #[.int .i64 aT, .slice a1 loc.length p1, .slice a2 S p2]) ⟨aT, loc, stk ++ l⟩) := ⟨a1, p1, a2, p2, by simp only; rw [← HS.out], HK1.out.below b4 (fun _ _ h => h), HK2.out.below b4 (fun _ _ h => h)⟩
        have HA5 := D.hidIt (HA1.out.below b5)
        have HV5 := D.hidIt (HV1.out.below b5)
        have HL5' := D.hidIt (HL5.out.below b5 (fun _ _ h => h))
        have HKV5 := D.hidIt (HKV.out.below b5)
        have HBW5 := D.hidIt (HBW.out.trans (b5.mono HBW.out.size))
        clear G1 x0 x1 x2 b3 b4 b5 FX HK1 HK2 HA1 HV1 HL5 HKV HBW HB5
        generalize (w3.alloc (.cells #[.int .i64 0, .slice none 0 0, .slice none 0 0] 25)).setRow w3.heap.size #[.int .i64 aT, .slice a1 loc.length p1, .slice a2 S p2] = W5 at *
        generalize w3.heap.size = bf at *
        have f0 := HFX.out.cell 0
        have f1 := HFX.out.cell 1
        have f2 := HFX.out.cell 2
        simp at f0 f1 f2
        have G2 := D.hidIt (pop_ok W5 _ _ HFV.out l.length stk.length (by simp only; omega) (by simp only; rw [← HS.out]; omega) (by simp only [List.length_append]))
        go_upto_region 15 with (first
          | (go_at_call 20; refine G2.out.mono ?_; intro e w6 hq; obtain ⟨g1, d1, g2, d2, g3, d3, he, gl1, gl2, gl3, b6⟩ := pop_lit hq ⟨Z1s.out, Z2s.out⟩; simp only [List.take_left, List.drop_left] at he gl1 gl2 gl3; clear hq; subst he; have HG1 := D.hidIt gl1; have HG2 := D.hidIt gl2; have HG3 := D.hidIt gl3; clear gl1 gl2 gl3)
          | (refine wpList_store_row rfl 25 _ _ rfl w6.heap.size #[.int .i64 aT, .slice g1 loc.length d1, .slice g2 stk.length d2] rfl rfl 25 _ (Blk.new w6 _ _) (by kernel_rfl) rfl (by simp [Value.oneCell']) ?_))
        obtain ⟨GX, b7⟩ := boxed w6 #[.int .i64 aT, .slice g1 loc.length d1, .slice g2 stk.length d2]
        have b8 := b6.trans (b7.mono b6.size)
        have HGX := D.hidIt GX
        have HA8 := D.hidIt (HA5.out.below b8)
        have HV8 := D.hidIt (HV5.out.below b8)
        have HL8 := D.hidIt (HL5'.out.below b8 (fun _ _ h => h))
        have HKV8 := D.hidIt (HKV5.out.below b8)
        have HBW8 := D.hidIt (HBW5.out.trans (b8.mono HBW5.out.size))
        have HGV8 : Hid (FrV _ (.agg #[.int .i64 aT, .slice g1 loc.length d1, .slice g2 stk.length d2]) ⟨aT, loc, stk⟩) := ⟨g1, d1, g2, d2, rfl, HG1.out.below b7 (fun _ _ h => h), HG2.out.below b7 (fun _ _ h => h)⟩
        have HP8 := D.hidIt (HG3.out.below b7 (fun _ _ h => h))
        clear G2 f0 f1 f2 b6 b7 b8 GX HG1 HG2 HG3 HFX HFV HA5 HV5 HL5' HKV5 HBW5
        generalize (w6.alloc (.cells #[.int .i64 0, .slice none 0 0, .slice none 0 0] 25)).setRow w6.heap.size #[.int .i64 aT, .slice g1 loc.length d1, .slice g2 stk.length d2] = W8 at *
        generalize w6.heap.size = bg at *
        have GS := D.hidIt (same_any g3 d3 ol cl l W8 HP8.out HL8.out)
        have GF : Hid (∀ W, Below W8.heap.size W8 W → Calls Tryz.prog 26 #[.agg #[.int .i64 aT, .slice g1 loc.length d1, .slice g2 stk.length d2], .agg #[.int .i64 aT, .slice o1 loc.length c1, .slice o2 stk.length c2]] W fun e w' => e = .returned (.bool true) ∧ Below W.heap.size W w') := fun W hW => same_frame ⟨aT, loc, stk⟩ [.int .i64 aT, .slice g1 loc.length d1, .slice g2 stk.length d2] [.int .i64 aT, .slice o1 loc.length c1, .slice o2 stk.length c2] W (frame_row (HGV8.out.below hW)) (frame_row (HV8.out.below hW))
        go_upto_region 17 with (first
          | (go_at_call 14; refine GS.out.mono ?_; rintro e w9 ⟨rfl, b9⟩; have y0 := (HGX.out.below b9).cell 0; have y1 := (HGX.out.below b9).cell 1; have y2 := (HGX.out.below b9).cell 2; have x0 := (HA8.out.below b9).cell 0; have x1 := (HA8.out.below b9).cell 1; have x2 := (HA8.out.below b9).cell 2; simp at x0 x1 x2 y0 y1 y2)
          | (go_at_call 26; refine (GF.out _ b9).mono ?_; rintro e w10 ⟨rfl, b10⟩))
        have b11 := b9.trans (b10.mono b9.size)
        have HA := D.hidIt (HA8.out.below b11)
        have HV := D.hidIt (HV8.out.below b11)
        have HKV := D.hidIt (HKV8.out.below b11)
        have HBW := D.hidIt (HBW8.out.trans (b11.mono HBW8.out.size))
        clear GS GF x0 x1 x2 y0 y1 y2 HGX HA8 HV8 HL8 HKV8 HBW8 HGV8 HP8 b9 b10 b11
        have x0 := HA.out.cell 0
        have x1 := HA.out.cell 1
        have x2 := HA.out.cell 2
        simp at x0 x1 x2
        by_cases hin : 0 ≤ n ∧ n < (loc.length : Int)
        · obtain ⟨N, rfl⟩ : ∃ N : Nat, n = (N : Int) := ⟨n.toNat, by omega⟩
          have hN : N < loc.length := by omega
          have hNi : (N : Int) < (loc.length : Int) := by omega
          have hN0 : (N : Int) ≥ 0 := by omega
          have G := D.hidIt (set_ok w10 _ _ HV.out N ⟨#[73]⟩ (by simp only; omega) (by simp only; omega) hN)
          go_upto_region 18 with (first
            | (go_at_call 24; refine G.out.mono ?_; rintro e w11 ⟨v11, rfl, of11, b11⟩; obtain ⟨s1, t1, s2, t2, e11, k1, k2⟩ := of11.view (set_small Z1s.out) (FrV.small HV.out).2; simp only [List.length_set] at e11; subst e11; have HK1 := D.hidIt k1; clear k1 k2 of11)
            | (refine wpList_store_row rfl 25 _ _ rfl w11.heap.size #[.int .i64 aT, .slice s1 loc.length t1, .slice s2 stk.length t2] rfl rfl 25 _ (Blk.new w11 _ _) (by kernel_rfl) rfl (by simp [Value.oneCell']) ?_))
          obtain ⟨SX, b12⟩ := boxed w11 #[.int .i64 aT, .slice s1 loc.length t1, .slice s2 stk.length t2]
          have b13 := b11.trans (b12.mono b11.size)
          have HSX := D.hidIt SX
          have HA := D.hidIt (HA.out.below b13)
          have HV := D.hidIt (HV.out.below b13)
          have HKV := D.hidIt (HKV.out.below b13)
          have HBW := D.hidIt (HBW.out.trans (b13.mono HBW.out.size))
          have HS1 := D.hidIt (FrV.rows (HK1.out.below b12 (fun _ _ h => h)))
          obtain ⟨q1, q2, q3, q4, qe, qk, _⟩ := id HV.out
          cases qe
          have HO1 := D.hidIt (FrV.rows qk)
          clear G x0 x1 x2 b11 b12 b13 SX HK1 qk
          generalize (w11.alloc (.cells #[.int .i64 0, .slice none 0 0, .slice none 0 0] 25)).setRow w11.heap.size #[.int .i64 aT, .slice s1 loc.length t1, .slice s2 stk.length t2] = W12 at *
          generalize w11.heap.size = bs at *
          have x0 := HA.out.cell 0
          have x1 := HA.out.cell 1
          have x2 := HA.out.cell 2
          simp at x0 x1 x2
          go_wp2_with fail
          go_loopw [19] (fun iv wz => ∃ i : Nat, iv = .int .i64 (i : Int) ∧ i ≤ loc.length ∧ Below W12.heap.size W12 wz) (fun iv _ => loc.length - (intOf iv).toNat)
          case atStart => exact ⟨0, rfl, Nat.zero_le _, Below.refl _ _⟩
          case round =>
            obtain ⟨i, rfl, hi, hb⟩ := hrel
            have HB := D.hidIt hb
            have x0 := (HA.out.below hb).cell 0
            have x1 := (HA.out.below hb).cell 1
            have x2 := (HA.out.below hb).cell 2
            simp at x0 x1 x2
            by_cases hlt : i < loc.length
            · have hlt' : (i : Int) < (loc.length : Int) := by omega
              obtain ⟨bA, fA, eA, _, dA⟩ := HO1.out (by omega)
              obtain ⟨bS, fS, eS, _, dS⟩ := HS1.out (by rw [List.length_set]; omega)
              subst eA eS
              have cA1 := cell_later hb (dA i hlt)
              have cS1 := cell_later hb (dS i (by rw [List.length_set]; exact hlt))
              have s1c := (HSX.out.below hb).cell 1
              simp at s1c
              obtain ⟨y, hy⟩ : ∃ y, loc[i]? = some y := ⟨_, List.getElem?_eq_getElem hlt⟩
              rw [List.getD_eq_getElem?_getD, hy] at cA1
              rw [List.getD_eq_getElem?_getD, List.getElem?_set] at cS1
              simp only [Option.getD_some] at cA1
              clear dA dS hb
              by_cases hiN : N = i
              · subst hiN
                rw [if_pos rfl, if_pos hlt] at cS1
                simp only [Option.getD_some] at cS1
                clear hy
                go_wp2_with fail
                go_quiet (fail)
                go_wp2_with fail
                go_roundw
                · exact ⟨N + 1, by go_num, by omega, below_dn HB.out _⟩
                · simp [intOf]; omega
              · have hiN' : ¬ (i : Int) = (N : Int) := by omega
                rw [if_neg hiN, hy] at cS1
                simp only [Option.getD_some] at cS1
                clear hy
                go_wp2_with fail
                go_quiet (fail)
                go_wp2_with fail
                go_roundw
                · exact ⟨i + 1, by go_num, by omega, below_dn HB.out _⟩
                · simp [intOf]; omega
            · have hlt' : ¬ (i : Int) < (loc.length : Int) := by omega
              have HV := D.hidIt (HV.out.below hb)
              have HKV := D.hidIt (HKV.out.below hb)
              have HA := D.hidIt (HA.out.below hb)
              have HBW := D.hidIt (HBW.out.trans (hb.mono HBW.out.size))
              clear HSX HS1 HO1 HB hb
              go_upto_region 25 with (fail)
              have hS0 : Hid (wr.cell? ⟨w.heap.size, 0, none⟩ = some (.int .i64 aT) ∧ wr.cell? ⟨w.heap.size, 1, none⟩ = some (.slice o1 loc.length c1) ∧ wr.cell? ⟨w.heap.size, 2, none⟩ = some (.slice o2 stk.length c2)) := ⟨x0, x1, x2⟩
              have hS3 : Hid (∀ V, Below wr.heap.size wr V → V.cell? ⟨w.heap.size, 0, none⟩ = some (.int .i64 aT) ∧ V.cell? ⟨w.heap.size, 1, none⟩ = some (.slice o1 loc.length c1) ∧ V.cell? ⟨w.heap.size, 2, none⟩ = some (.slice o2 stk.length c2)) := fun V b => ⟨cell_later b x0, cell_later b x1, cell_later b x2⟩
              have hb0 : Hid (Below wr.heap.size wr wr.drew) := (Below.refl _ _).drew
              have GFi : Hid (∀ V, Below wr.heap.size wr V → Calls Tryz.prog 15 #[.pointer (some ⟨pk, 0, none⟩), .agg #[.int .i64 aT, .slice o1 loc.length c1, .slice o2 stk.length c2], .agg #[.int .i64 aT, .slice o1 loc.length c1, .slice o2 stk.length c2]] V fun e w' => e = .returned (.bool (loc.all (knownK (RR.map Mem.k)) && stk.all (knownK (RR.map Mem.k)))) ∧ Below wr.heap.size wr w') := fun V hV => by
                have := fitsF_any V pk RR mb aon cn (HKV.out.below hV) _ _ _ _ (HV.out.below hV) (HV.out.below hV) Z1.out Z2.out Z1.out Z2.out
                rw [fitL_self, fitL_self] at this
                refine this.mono ?_
                rintro e w' ⟨he, b⟩
                exact ⟨he, hV.trans (b.mono hV.size)⟩
              have GKn : Hid (∀ V, Below wr.heap.size wr V → Calls Tryz.prog 17 #[.pointer (some ⟨pk, 0, none⟩), .agg #[.int .i64 aT, .slice o1 loc.length c1, .slice o2 stk.length c2]] V fun e w' => e = .returned (.bool (loc.all (knownK (RR.map Mem.k)) && stk.all (knownK (RR.map Mem.k)))) ∧ Below wr.heap.size wr w') := fun V hV => (knownF_any V pk RR mb aon cn (HKV.out.below hV) _ _ (HV.out.below hV) Z1.out Z2.out).mono fun e w' h => ⟨h.1, hV.trans (h.2.mono hV.size)⟩
              generalize (loc.all (knownK (RR.map Mem.k)) && stk.all (knownK (RR.map Mem.k))) = Kb at *
              clear x0 x1 x2 HA HV HKV
              go_region_held3 (fun V => V.cell? ⟨w.heap.size, 0, none⟩ = some (.int .i64 aT) ∧ V.cell? ⟨w.heap.size, 1, none⟩ = some (.slice o1 loc.length c1) ∧ V.cell? ⟨w.heap.size, 2, none⟩ = some (.slice o2 stk.length c2)) (first | exact hS0.out | exact hS3.out _ hb0.out | exact hS3.out _ (by assumption))
                (first
                  | (go_at_call 15; refine (GFi.out _ (by first | exact hb0.out | assumption)).mono ?_; rintro e w13 ⟨rfl, b13⟩)
                  | (go_at_call 17; refine (GKn.out _ (by assumption)).mono ?_; rintro e w14 ⟨rfl, b14⟩)
                  | (go_at_call 27; refine (known_any _).mono ?_; rintro e w15 ⟨rfl, b15⟩; have b16 := b14.trans (b15.mono b14.size)))
              go_wp2_with fail
              go_ret
              exact ⟨by simp, HBW.out.trans (b16.mono HBW.out.size)⟩
        · have G := D.hidIt (set_no w10 _ _ HV.out n ⟨#[73]⟩ (by simp only; omega))
          unfold zeroF at G
          go_upto_region 18 with (first
            | (go_at_call 24; refine G.out.mono ?_; rintro e w11 ⟨rfl, b11⟩)
            | (refine wpList_store_row rfl 25 _ _ rfl w11.heap.size #[.int .i64 0, .slice none 0 0, .slice none 0 0] rfl rfl 25 _ (Blk.new w11 _ _) (by kernel_rfl) rfl (by simp [Value.oneCell']) ?_))
          obtain ⟨_, b12⟩ := boxed w11 #[.int .i64 0, .slice none 0 0, .slice none 0 0]
          have b13 := b11.trans (b12.mono b11.size)
          have HA := D.hidIt (HA.out.below b13)
          have HV := D.hidIt (HV.out.below b13)
          have HKV := D.hidIt (HKV.out.below b13)
          have HBW := D.hidIt (HBW.out.trans (b13.mono HBW.out.size))
          clear G x0 x1 x2 b11 b12 b13
          generalize (w11.alloc (.cells #[.int .i64 0, .slice none 0 0, .slice none 0 0] 25)).setRow w11.heap.size #[.int .i64 0, .slice none 0 0, .slice none 0 0] = W12 at *
          generalize w11.heap.size = bs at *
          have x0 := HA.out.cell 0
          have x1 := HA.out.cell 1
          have x2 := HA.out.cell 2
          simp at x0 x1 x2
          have hout : n < 0 ∨ (¬ n < 0 ∧ ¬ n < (loc.length : Int)) := by omega
          rcases hout with hn0 | ⟨hn0, hn1⟩
          all_goals
            first
              | have hn0' : ¬ n ≥ 0 := by omega
              | have hn0' : n ≥ 0 := by omega
            go_wp2_with fail
            go_loopw [19] (fun iv wz => iv = .int .i64 0 ∧ wz = W12) (fun _ _ => 0)
            case atStart => exact ⟨rfl, rfl⟩
            case round =>
              obtain ⟨rfl, hwz⟩ := hrel
              have hwz := hwz.symm
              subst hwz
              go_upto_region 25 with (fail)
              have hS0 : Hid (W12.cell? ⟨w.heap.size, 0, none⟩ = some (.int .i64 aT) ∧ W12.cell? ⟨w.heap.size, 1, none⟩ = some (.slice o1 loc.length c1) ∧ W12.cell? ⟨w.heap.size, 2, none⟩ = some (.slice o2 stk.length c2)) := ⟨x0, x1, x2⟩
              have hS3 : Hid (∀ V, Below W12.heap.size W12 V → V.cell? ⟨w.heap.size, 0, none⟩ = some (.int .i64 aT) ∧ V.cell? ⟨w.heap.size, 1, none⟩ = some (.slice o1 loc.length c1) ∧ V.cell? ⟨w.heap.size, 2, none⟩ = some (.slice o2 stk.length c2)) := fun V b => ⟨cell_later b x0, cell_later b x1, cell_later b x2⟩
              have hb0 : Hid (Below W12.heap.size W12 W12.drew) := (Below.refl _ _).drew
              have GFi : Hid (∀ V, Below W12.heap.size W12 V → Calls Tryz.prog 15 #[.pointer (some ⟨pk, 0, none⟩), .agg #[.int .i64 aT, .slice o1 loc.length c1, .slice o2 stk.length c2], .agg #[.int .i64 aT, .slice o1 loc.length c1, .slice o2 stk.length c2]] V fun e w' => e = .returned (.bool (loc.all (knownK (RR.map Mem.k)) && stk.all (knownK (RR.map Mem.k)))) ∧ Below W12.heap.size W12 w') := fun V hV => by
                have := fitsF_any V pk RR mb aon cn (HKV.out.below hV) _ _ _ _ (HV.out.below hV) (HV.out.below hV) Z1.out Z2.out Z1.out Z2.out
                rw [fitL_self, fitL_self] at this
                refine this.mono ?_
                rintro e w' ⟨he, b⟩
                exact ⟨he, hV.trans (b.mono hV.size)⟩
              have GKn : Hid (∀ V, Below W12.heap.size W12 V → Calls Tryz.prog 17 #[.pointer (some ⟨pk, 0, none⟩), .agg #[.int .i64 aT, .slice o1 loc.length c1, .slice o2 stk.length c2]] V fun e w' => e = .returned (.bool (loc.all (knownK (RR.map Mem.k)) && stk.all (knownK (RR.map Mem.k)))) ∧ Below W12.heap.size W12 w') := fun V hV => (knownF_any V pk RR mb aon cn (HKV.out.below hV) _ _ (HV.out.below hV) Z1.out Z2.out).mono fun e w' h => ⟨h.1, hV.trans (h.2.mono hV.size)⟩
              generalize (loc.all (knownK (RR.map Mem.k)) && stk.all (knownK (RR.map Mem.k))) = Kb at *
              clear x0 x1 x2 HA HV HKV
              go_region_held3 (fun V => V.cell? ⟨w.heap.size, 0, none⟩ = some (.int .i64 aT) ∧ V.cell? ⟨w.heap.size, 1, none⟩ = some (.slice o1 loc.length c1) ∧ V.cell? ⟨w.heap.size, 2, none⟩ = some (.slice o2 stk.length c2)) (first | exact hS0.out | exact hS3.out _ hb0.out | exact hS3.out _ (by assumption))
                (first
                  | (go_at_call 15; refine (GFi.out _ (by first | exact hb0.out | assumption)).mono ?_; rintro e w13 ⟨rfl, b13⟩)
                  | (go_at_call 17; refine (GKn.out _ (by assumption)).mono ?_; rintro e w14 ⟨rfl, b14⟩)
                  | (go_at_call 27; refine (known_any _).mono ?_; rintro e w15 ⟨rfl, b15⟩; have b16 := b14.trans (b15.mono b14.size)))
              go_wp2_with fail
              go_ret
              exact ⟨by simp, HBW.out.trans (b16.mono HBW.out.size)⟩
end Go.Proofs.YtccbgdbipihoaaaGreat.Fr
