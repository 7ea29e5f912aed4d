import Derived.Test.YtpehimfnkmepnaaGreatBz43
import Derived.Test.YtpehimfnkmepnaaGreatBz44
set_option maxRecDepth 8000
set_option maxHeartbeats 40000000
namespace Go.Proofs.YtpehimfnkmepnaaGreat.KK
open Go.RowKit Q Q.D K
theorem zRl {σ : M.SG} {b : Nat} {R : List Mem} : zB7 (⟨M.kdA σ, b⟩ :: R) M.sA = some ⟨M.kdA σ, b⟩ := by
 unfold zB7
 rw [if_pos (by show (M.sA == M.sA) = true; decide)]
theorem near_A {σ : M.SG} {b : Nat} {R : List Mem} : near (qM M.sGo M.sIIr) (lin (⟨M.kdA σ, b⟩ :: R) M.sA) = some ⟨M.kdA σ, b⟩ := by
 unfold lin
 rw [if_pos (by show (M.sA == M.sA) = true; decide)]
 unfold near
 rw [if_pos]
 show (0 : Int) ≤ ixZ [M.mdOf .go σ] (isM M.sGo M.sIIr)
 have e : isM M.sGo M.sIIr (M.mdOf .go σ) = true := by
  show ((M.sGo.toList == M.sGo.toList) && (M.sIIr.toList == M.sIIr.toList)) = true
  simp
 unfold ixZ
 simp [List.findIdx?_cons, e]
theorem find_A {σ : M.SG} : (M.kdA σ).ms.find? (isM M.sGo M.sIIr) = some (M.mdOf .go σ) := by
 have e : isM M.sGo M.sIIr (M.mdOf .go σ) = true := by
  show ((M.sGo.toList == M.sGo.toList) && (M.sIIr.toList == M.sIIr.toList)) = true
  simp
 show [M.mdOf .go σ].find? _ = _
 simp [e]
theorem code_A {σ : M.SG} (h : M.zBm .go [] σ) : 0 < (encL (M.zBw σ) []).1.length := by
 have hm := M.zBt h (by simp)
 have hb := M.zNw hm
 have hp := M.zQu (M.zMr h)
 rcases Nat.eq_zero_or_pos (encL (M.zBw σ) []).1.length with e | e
 · rw [List.length_eq_zero_iff.1 e] at hb
   have : (zPr []).1 = [] := by decide +kernel
   rw [hb] at this
   simp at this
   rw [this] at hp
   simp at hp
 · exact e
theorem zS8 {σ : M.SG} (h : M.zBm .go [] σ) : (encL (M.zBw σ) []).1.length ≤ 1024 := by
 have hm := M.zBt h (by simp)
 have hs := M.zJ5 hm
 obtain ⟨b, hb⟩ := M.zG1 (M.zCo σ) (fun i => M.zCi (by omega) i) σ.ls 0 [] (fun x hx => (hm.good.ls x hx).1) rfl (by omega)
 have hb' : encL (M.zBw σ) [] = (b, 0) := hb
 rw [hb']
 exact (zJ2 _ _ _ hb').1
def AddA (n0 : Nat) (W4 : World) (pk mb : Nat) (v : Value) (R : List Mem) (k : KD) (e : Ending) (w' : World) : Prop :=
 e = .returned (.int .i64 0) ∧ ∃ v' b, KinO n0 w' pk mb v' (⟨k, b⟩ :: R) ∧ zFm pk mb v W4 w' ∧ (∀ g, v'.ownBlock = some g → v.ownBlock = some g ∨ W4.heap.size ≤ g) ∧ zF2 (K.seen (offG (newB W4.heap.size) pk mb v') w') ⟨k, b⟩ (zB7 R k.sup)
theorem add_A {n0 : Nat} {W4 : World} {pk mb : Nat} {v : Value} {R : List Mem} {σ : M.SG} (KO : KinO n0 W4 pk mb v R) (hR : R.reverse.map Mem.k = zBh) (hb : M.zBm .go [] σ) (cv : Value) (hc : zAp W4 cv (M.kdA σ)) :
 Calls Tryz.prog 12 #[.pointer (some ⟨pk, 0, none⟩), cv] W4 fun e w' => AddA n0 W4 pk mb v R (M.kdA σ) e w' := by
 have hz : refZ R (M.kdA σ) = 0 := by
  rw [zLm, show R.map Mem.k = zBh.reverse by rw [← hR, List.map_reverse, List.reverse_reverse]]
  exact M.zR4 hb
 refine (zJm n0 W4 pk mb v R KO _ cv hc).mono ?_
 rintro e w' ⟨he, h⟩
 rw [hz] at he
 rw [if_pos hz] at h
 obtain ⟨v', b, h1, h2, h3, h4⟩ := h
 exact ⟨he, v', b, h1, h2, h3, h4⟩
theorem kept_any (w : World) (vr : Value) (rl : List Int) (hr : M.NV w.heap.size w.heap.size w vr rl) :
 Calls Tryz.prog 3 #[vr] w fun e w' => e = .returned (.bool true) ∧ Below w.heap.size w w' := by
 have HR := D.zA0 hr
 obtain ⟨aor, capr, rfl⟩ : ∃ ao cap, vr = .slice ao rl.length cap := by obtain ⟨ao, cap, e, _⟩ := hr; exact ⟨ao, cap, e⟩
 clear hr
 go_enter Tryz.func3, Tryz.ntmps3
 go_upto_region 4 with (first | (go_at_call 9; refine (zNr w).mono ?_; rintro e w1 ⟨pk, mb, v, R, rfl, KO, hR, B1⟩))
 have HKO := D.zA0 KO
 have HRk := D.zA0 hR
 have HB1 := D.zA0 B1
 have HMC := D.zA0 (M.zNz _ rl w1 (nvUp HR.out B1 B1.size))
 clear KO hR B1 HR
 go_upto_region 5 with (first | (go_at_call 10; refine HMC.out.mono ?_; intro e w2 hq; obtain ⟨g, cA, cB, cT, cC, σ, ob, σt, σm, σc, hI, rfl, hg, hrow, b2, lA, _⟩ := hq))
 have hbod := hI.a
 have hn := code_A hbod
 obtain ⟨vp, vf, gm, cm, gc, cc, ecA, hbm, hbc, hlm, hlc, hzc, h6, hcs⟩ := zOk lA hn
 have hcv := M.zN2 lA.any (by decide) (by decide) (by decide) (by decide)
 have hcv0 : zAp w2 (.agg cA) (M.kdA σ) := hcv
 clear hcv hI HMC
 obtain ⟨q1, e1, q2, e2, q3, e3, er, _⟩ := id hcv0
 rw [ecA] at er
 have ev : vp = .slice q1 (M.kdA σ).pool.length e1 ∧ vf = .slice q2 (M.kdA σ).fs.length e2 := by
  have er' := Value.agg.inj er
  simp only [Array.mk.injEq, List.cons.injEq, and_true] at er'
  exact ⟨er'.2.2.1, er'.2.2.2.1⟩
 obtain ⟨rfl, rfl⟩ := ev
 clear er
 subst ecA
 have hce : ∀ (i : Nat) (u : Value), (#[.string M.sA, .string M.sObj, .slice q1 (M.kdA σ).pool.length e1, .slice q2 (M.kdA σ).fs.length e2, .slice (some ⟨gm, 0, none⟩) 1 cm] : Array Value)[i]? = some u → w2.cell? ⟨g, i, none⟩ = some u := fun i u hu => by
  have hi : i < 5 := (Array.getElem?_eq_some_iff.1 hu).1
  have hB : Blk w2 g _ 31 := hrow
  rw [hB.cell i, Array.append_assoc, Array.append_assoc, Array.getElem?_append_left (by simpa using hi)]
  exact hu
 have k0 : w2.cell? ⟨g, 0, none⟩ = some (.string M.sA) := hce 0 _ rfl
 have k1 : w2.cell? ⟨g, 1, none⟩ = some (.string M.sObj) := hce 1 _ rfl
 have k2 : w2.cell? ⟨g, 2, none⟩ = some (.slice q1 (M.kdA σ).pool.length e1) := hce 2 _ rfl
 have k3 : w2.cell? ⟨g, 3, none⟩ = some (.slice q2 (M.kdA σ).fs.length e2) := hce 3 _ rfl
 have k4 : w2.cell? ⟨g, 4, none⟩ = some (.slice (some ⟨gm, 0, none⟩) 1 cm) := hce 4 _ rfl
 have HCE := D.zA0 hce
 have HCV := D.zA0 hcv0
 have HBO := D.zA0 hbod
 have HB2 := D.zA0 b2
 have HN := D.zA0 hn
 have hgl : g < w2.heap.size := (Array.getElem?_eq_some_iff.1 hrow).1
 have HMD := D.zA0 (And.intro hzc (And.intro h6 hcs))
 have G3 := D.zA0 (Fr.zN7 (M.kdA σ) (.agg #[.string M.sA, .string M.sObj, .slice q1 (M.kdA σ).pool.length e1, .slice q2 (M.kdA σ).fs.length e2, .slice (some ⟨gm, 0, none⟩) 1 cm]) w2 hcv0 (zDn (M.zKp hbod)))
 clear hcv0 hbod b2 hn hrow hce hzc h6 hcs lA
 obtain ⟨n, hnE⟩ : ∃ n, n = (encL (M.zBw σ) []).1.length := ⟨_, rfl⟩
 have HNE := D.zA0 hnE
 clear hnE
 obtain ⟨N1, hN1⟩ : ∃ N, N = (M.kdA σ).pool.length := ⟨_, rfl⟩
 rw [← hN1] at k2 G3 HCE HCV
 have HN1 := D.zA0 hN1
 clear hN1
 have hfs : (M.kdA σ).fs.length = 4 := rfl
 rw [hfs] at k3 G3 HCE HCV
 clear hfs
 go_upto_region 6 with (first
  | (go_at_call 11; refine G3.out.mono ?_; rintro e w3 ⟨b3, vw, rfl, hw⟩; obtain ⟨p1, d1, p2, d2, p3, d3, ew, _⟩ := id hw; subst ew; have HW3 := D.zA0 hw; clear hw)
  | (refine wpList_store_row rfl 31 _ _ rfl w3.heap.size #[.string M.sA, .string M.sObj, .slice p1 (M.kdA σ).pool.length d1, .slice p2 (M.kdA σ).fs.length d2, .slice p3 (M.kdA σ).ms.length d3] rfl rfl 31 _ (Blk.new w3 _ _) (by kernel_rfl) rfl (by simp [Value.oneCell']) ?_))
 obtain ⟨XW, b4⟩ := zO7 w3 #[.string ⟨#[]⟩, .string ⟨#[]⟩, .slice none 0 0, .slice none 0 0, .slice none 0 0] #[.string M.sA, .string M.sObj, .slice p1 (M.kdA σ).pool.length d1, .slice p2 (M.kdA σ).fs.length d2, .slice p3 (M.kdA σ).ms.length d3] 31
 have B24 := b3.trans (b4.mono b3.size)
 have HXW := D.zA0 XW
 have HW4 : Hid (zAp (K.seen (newB w2.heap.size) ((w3.alloc (.cells #[.string ⟨#[]⟩, .string ⟨#[]⟩, .slice none 0 0, .slice none 0 0, .slice none 0 0] 31)).setRow w3.heap.size #[.string M.sA, .string M.sObj, .slice p1 (M.kdA σ).pool.length d1, .slice p2 (M.kdA σ).fs.length d2, .slice p3 (M.kdA σ).ms.length d3])) (.agg #[.string M.sA, .string M.sObj, .slice p1 (M.kdA σ).pool.length d1, .slice p2 (M.kdA σ).fs.length d2, .slice p3 (M.kdA σ).ms.length d3]) (M.kdA σ)) := zAp.ext' (zAl b4.size (fun b hb hx => ⟨hx, b4.block b hb⟩)) HW3.out
 have hgw : w2.heap.size ≤ w3.heap.size := b3.size
 have hgw4 : w3.heap.size < ((w3.alloc (.cells #[.string ⟨#[]⟩, .string ⟨#[]⟩, .slice none 0 0, .slice none 0 0, .slice none 0 0] 31)).setRow w3.heap.size #[.string M.sA, .string M.sObj, .slice p1 (M.kdA σ).pool.length d1, .slice p2 (M.kdA σ).fs.length d2, .slice p3 (M.kdA σ).ms.length d3]).heap.size := XW.lt
 clear XW b4 HW3 b3 G3
 generalize (w3.alloc (.cells #[.string ⟨#[]⟩, .string ⟨#[]⟩, .slice none 0 0, .slice none 0 0, .slice none 0 0] 31)).setRow w3.heap.size #[.string M.sA, .string M.sObj, .slice p1 (M.kdA σ).pool.length d1, .slice p2 (M.kdA σ).fs.length d2, .slice p3 (M.kdA σ).ms.length d3] = W4 at *
 generalize w3.heap.size = gw at *
 have HB24 := D.zA0 B24
 have hs24 := B24.size
 have hs12 := HB2.out.size
 have B14 := HB2.out.trans (B24.mono hs12)
 have HB14 := D.zA0 B14
 have G6 := D.zA0 (add_A (HKO.out.below B14) HRk.out HBO.out (.agg #[.string M.sA, .string M.sObj, .slice q1 N1 e1, .slice q2 4 e2, .slice (some ⟨gm, 0, none⟩) 1 cm]) (zAp.ext' (zAi B24) HCV.out))
 have c0 := (zAi B24).cell _ _ k0
 have c1 := (zAi B24).cell _ _ k1
 have c2 := (zAi B24).cell _ _ k2
 have c3 := (zAi B24).cell _ _ k3
 have c4 := (zAi B24).cell _ _ k4
 have HK4 := D.zA0 k4
 clear k0 k1 k2 k3 k4 B14 B24 HCV HCE
 go_upto_region 8 with (go_at_call 12; refine G6.out.mono ?_; rintro e W5 ⟨rfl, v5, b5, K5, st, hown, hm5⟩)
 have hz : refZ R (M.kdA σ) = 0 := by
  rw [zLm, show R.map Mem.k = zBh.reverse by rw [← HRk.out, List.map_reverse, List.reverse_reverse]]
  exact M.zR4 HBO.out
 have hnone := (zJv hz).2.1
 have HKF := D.zA0 (kf_add HKO.out HB14.out hs24 K5 st hown hm5 hnone)
 have HWA := D.zA0 (zAp.ext' (was_at HKO.out hs12 st) HW4.out)
 have st4 := st.size
 have hpk := HKO.out.box.lt
 have hmb := HKO.out.map.lt
 have hv1 := fun x hx => (HKO.out.own.lt x hx).2
 have HBW : Hid (Blk W5 gw #[.string M.sA, .string M.sObj, .slice p1 (M.kdA σ).pool.length d1, .slice p2 (M.kdA σ).fs.length d2, .slice p3 (M.kdA σ).ms.length d3] 31) := (st.block gw hgw4 (by omega) (by omega) (fun e => by have := hv1 gw e; omega)).trans HXW.out
 have HCO : Hid (zD4 W5 g 4 gm 0 cm gc 0 n cc) := by
  have hm := HMD.out
  rw [← HNE.out] at hm
  have h2 : zD4 w2 g 4 gm 0 cm gc 0 n cc := ⟨HK4.out, hm.2.1, hm.2.2, hm.1⟩
  refine h2.ext (fun b hb => ?_)
  have hb1 : w1.heap.size ≤ b ∧ b < w2.heap.size := by
   rcases hb with rfl | rfl | rfl
   · exact ⟨hg, hgl⟩
   · exact ⟨hbm, hlm⟩
   · exact ⟨hbc, hlc⟩
  exact (st.block b (by omega) (by omega) (by omega) (fun e => by have := hv1 b e; omega)).trans (HB24.out.block b hb1.2)
 have HB5 : Hid (Below w.heap.size w W5) := (HB1.out.trans (HB14.out.mono HB1.out.size)).trans (zFm.below (HKO.out.below HB14.out) st)
 have hn0 : 0 < n := by rw [HNE.out]; exact HN.out
 have hnb : n ≤ 1024 := by rw [HNE.out]; exact zS8 HBO.out
 have hnw : w.heap.size ≤ w1.heap.size := HB1.out.size
 have HGC : Hid (good w1.heap.size w2.heap.size gc = false) := by
  show _ = _
  rw [Bool.eq_false_iff]
  intro e
  have := zCw.1 e
  omega
 have HGW : Hid (good w1.heap.size w2.heap.size gw = true) := zCw.2 (.inr (by omega))
 have hsm : ∀ m ∈ (⟨M.kdA σ, b5⟩ :: R : List Mem), KSm m.k := fun m hm => by
  rcases List.mem_cons.1 hm with rfl | hm
  · exact zDn (M.zKp HBO.out)
  · exact zI7 (l := zBh.reverse) (by rw [← HRk.out, List.map_reverse, List.reverse_reverse]) (fun k hk => zHw k (by simpa using hk)) m hm
 have HSM := D.zA0 hsm
 have hRl : R.length = 13 := by
  have := congrArg List.length HRk.out
  rw [List.length_map, List.length_reverse] at this
  exact this
 have HRL := D.zA0 hRl
 clear c0 c1 c2 c3 c4 G6 K5 st hown hm5 hz hnone hsm hRl HMD HK4 HXW HW4 HB14 HB24 HKO HB2 HB1 hpk hmb hv1 hbm hbc hlm hlc hgl hg HN1
 go_wp2_with fail
 go_loopw [6] (fun iv wr => ∃ i : Nat, iv = .int .i64 (i : Int) ∧ i ≤ n ∧ zD4 wr g 4 gm 0 cm gc 0 n cc ∧ KI W5 w1.heap.size w2.heap.size wr) (fun iv _ => n - (intOf iv).toNat)
 case atStart => exact ⟨0, rfl, Nat.zero_le _, HCO.out, KI.refl _ _ _⟩
 case round =>
  clear HCO
  obtain ⟨i, rfl, hi, hC, hKI⟩ := hrel
  have HC := D.zA0 hC
  have HI := D.zA0 hKI
  have a1 := hC.a
  have a2 := hC.b
  have a2' : wr.cell? ⟨gm, 6, none⟩ = some (.slice (some ⟨gc, 0, none⟩) n cc) := a2
  clear a2
  by_cases hlt : i < n
  · have hlt' : (i : Int) < (n : Int) := by omega
    obtain ⟨x, a3⟩ := hC.c i hlt
    rw [Nat.zero_add] at a3
    have a4 := zEq (p := ⟨gc, i, none⟩) hC.z
    have hC2 := hC.set hlt 99
    rw [Nat.zero_add] at hC2
    have hK2 := hKI.set (.inr HGC.out) i (.int .u8 99)
    have HF := D.zA0 (And.intro hC2 hK2)
    clear hC hKI hC2 hK2
    go_wp2
    go_roundw
    case rel => exact ⟨i + 1, by go_num, by omega, HF.out.1, HF.out.2⟩
    case measure => simp [intOf]; omega
  · have hlt' : ¬ (i : Int) < (n : Int) := by omega
    clear hC hKI HC
    go_wp2_with fail
    obtain ⟨W6, hW6⟩ : ∃ W, W = wr := ⟨_, rfl⟩
    subst hW6
    go_loopw [7] (fun iv wr => ∃ i : Nat, iv = .int .i64 (i : Int) ∧ i ≤ 2 ∧ KI W5 w1.heap.size w2.heap.size wr) (fun iv _ => 2 - (intOf iv).toNat)
    case atStart => exact ⟨0, rfl, Nat.zero_le _, HI.out⟩
    case round =>
     clear HI a1 a2' hlt'
     obtain ⟨t, rfl, ht, hKI⟩ := hrel
     have HI := D.zA0 hKI
     have hsz := hKI.size
     by_cases hlt2 : t < 2
     · have hlt' : (t : Int) < 2 := by omega
       obtain ⟨ao5, cp5, ev5, hV⟩ := (HKF.out.at hKI).view
       have G1 := D.zA0 (zRp wr pk (⟨M.kdA σ, b5⟩ :: R) mb ao5 cp5 hV HSM.out M.sA)
       clear hKI hV
       go_upto_region 16 with (first
        | (go_at_call 13; refine G1.out.mono ?_; rintro e wg ⟨bg, hG⟩; rw [zRl] at hG; obtain ⟨vc, rfl, hvc⟩ := hG; obtain ⟨o1, c1, bf, ff, cf, bm, om, cmm, bc, oc, ccc, evc, x1, x2, x3, x4, x5, x6, x7, x8⟩ := zMy hvc (show 0 < (M.kdA σ).fs.length from Nat.succ_pos 3) (show (M.kdA σ).ms = [M.mdOf .go σ] from rfl) HN.out; subst evc; have HVC := D.zA0 hvc; clear hvc)
        | (refine wpList_store_row rfl 31 _ _ rfl wg.heap.size #[.string M.sA, .string M.sObj, .slice o1 (M.kdA σ).pool.length c1, .slice (some ⟨bf, ff, none⟩) 4 cf, .slice (some ⟨bm, om, none⟩) 1 cmm] rfl rfl 31 _ (Blk.new wg _ _) (by kernel_rfl) rfl (by simp [Value.oneCell']) ?_))
       obtain ⟨XC, b7⟩ := zO7 wg #[.string ⟨#[]⟩, .string ⟨#[]⟩, .slice none 0 0, .slice none 0 0, .slice none 0 0] #[.string M.sA, .string M.sObj, .slice o1 (M.kdA σ).pool.length c1, .slice (some ⟨bf, ff, none⟩) 4 cf, .slice (some ⟨bm, om, none⟩) 1 cmm] 31
       have hb1 : wr.heap.size ≤ bf := by simpa [newB] using x1
       have hb4 : wr.heap.size ≤ bm := by simpa [newB] using x4
       have hb5 : wr.heap.size ≤ bc := by simpa [newB] using x5
       have hK7 := (HI.out.below bg).below b7
       have HK7 := D.zA0 hK7
       have hcode : zD4 ((wg.alloc (.cells #[.string ⟨#[]⟩, .string ⟨#[]⟩, .slice none 0 0, .slice none 0 0, .slice none 0 0] 31)).setRow wg.heap.size #[.string M.sA, .string M.sObj, .slice o1 (M.kdA σ).pool.length c1, .slice (some ⟨bf, ff, none⟩) 4 cf, .slice (some ⟨bm, om, none⟩) 1 cmm]) wg.heap.size 4 bm om cmm bc oc n ccc := by
        obtain ⟨x0, hx0⟩ := x8 0 HN.out
        refine ⟨XC.cell 4, ?_, fun j hj => ?_, zFk b7 (World.block_lt_of_cell? _ _ hx0) x6⟩
        · rw [HNE.out]; exact (zAi b7).cell _ _ x7
        · obtain ⟨x, hx⟩ := x8 j (by rw [HNE.out] at hj; exact hj)
          exact ⟨x, (zAi b7).cell _ _ hx⟩
       have HCD := D.zA0 hcode
       have HFD : Hid (zEe ((wg.alloc (.cells #[.string ⟨#[]⟩, .string ⟨#[]⟩, .slice none 0 0, .slice none 0 0, .slice none 0 0] 31)).setRow wg.heap.size #[.string M.sA, .string M.sObj, .slice o1 (M.kdA σ).pool.length c1, .slice (some ⟨bf, ff, none⟩) 4 cf, .slice (some ⟨bm, om, none⟩) 1 cmm]) wg.heap.size bf ff 4 cf) := by
        obtain ⟨s3, hs3⟩ := x3
        exact ⟨XC.cell 3, ⟨s3, (zAi b7).cell _ _ hs3⟩, zFk b7 (World.block_lt_of_cell? _ _ hs3) x2⟩
       have hA : zAp ((wg.alloc (.cells #[.string ⟨#[]⟩, .string ⟨#[]⟩, .slice none 0 0, .slice none 0 0, .slice none 0 0] 31)).setRow wg.heap.size #[.string M.sA, .string M.sObj, .slice o1 (M.kdA σ).pool.length c1, .slice (some ⟨bf, ff, none⟩) 4 cf, .slice (some ⟨bm, om, none⟩) 1 cmm]) (.agg #[.string M.sA, .string M.sObj, .slice o1 (M.kdA σ).pool.length c1, .slice (some ⟨bf, ff, none⟩) 4 cf, .slice (some ⟨bm, om, none⟩) 1 cmm]) (M.kdA σ) := zAp.ext' ((zFi _ _).trans (zAi b7)) HVC.out
       have hB : zAp ((wg.alloc (.cells #[.string ⟨#[]⟩, .string ⟨#[]⟩, .slice none 0 0, .slice none 0 0, .slice none 0 0] 31)).setRow wg.heap.size #[.string M.sA, .string M.sObj, .slice o1 (M.kdA σ).pool.length c1, .slice (some ⟨bf, ff, none⟩) 4 cf, .slice (some ⟨bm, om, none⟩) 1 cmm]) (.agg #[.string M.sA, .string M.sObj, .slice p1 (M.kdA σ).pool.length d1, .slice p2 (M.kdA σ).fs.length d2, .slice p3 (M.kdA σ).ms.length d3]) (M.kdA σ) := zAp.ext' ((hK7.ext (fun b hb => zCw.2 (.inr (by simpa [newB] using hb)))).trans (zFi _ _)) HWA.out
       have G2 := D.zA0 (zMd (M.kdA σ) _ _ _ hA hB)
       have XB : Blk ((wg.alloc (.cells #[.string ⟨#[]⟩, .string ⟨#[]⟩, .slice none 0 0, .slice none 0 0, .slice none 0 0] 31)).setRow wg.heap.size #[.string M.sA, .string M.sObj, .slice o1 (M.kdA σ).pool.length c1, .slice (some ⟨bf, ff, none⟩) 4 cf, .slice (some ⟨bm, om, none⟩) 1 cmm]) gw #[.string M.sA, .string M.sObj, .slice p1 (M.kdA σ).pool.length d1, .slice p2 (M.kdA σ).fs.length d2, .slice p3 (M.kdA σ).ms.length d3] 31 := (hK7.block gw HBW.out.lt HGW.out).trans HBW.out
       have y0 : _ = some (Value.string M.sA) := XC.cell 0
       have y1 : _ = some (Value.string M.sObj) := XC.cell 1
       have y2 : _ = some (Value.slice o1 (M.kdA σ).pool.length c1) := XC.cell 2
       have y3 : _ = some (Value.slice (some ⟨bf, ff, none⟩) 4 cf) := XC.cell 3
       have y4 : _ = some (Value.slice (some ⟨bm, om, none⟩) 1 cmm) := XC.cell 4
       have z0 : _ = some (Value.string M.sA) := XB.cell 0
       have z1 : _ = some (Value.string M.sObj) := XB.cell 1
       have z2 : _ = some (Value.slice p1 (M.kdA σ).pool.length d1) := XB.cell 2
       have z3 : _ = some (Value.slice p2 (M.kdA σ).fs.length d2) := XB.cell 3
       have z4 : _ = some (Value.slice p3 (M.kdA σ).ms.length d3) := XB.cell 4
       clear XC XB hA hB hcode hK7 b7 bg x1 x2 x3 x4 x5 x6 x7 x8 HVC G1
       generalize (wg.alloc (.cells #[.string ⟨#[]⟩, .string ⟨#[]⟩, .slice none 0 0, .slice none 0 0, .slice none 0 0] 31)).setRow wg.heap.size #[.string M.sA, .string M.sObj, .slice o1 (M.kdA σ).pool.length c1, .slice (some ⟨bf, ff, none⟩) 4 cf, .slice (some ⟨bm, om, none⟩) 1 cmm] = W7 at *
       generalize wg.heap.size = gx at *
       go_upto_region 18 with (go_at_call 14; refine G2.out.mono ?_; rintro e w8 ⟨rfl, b8⟩)
       have HC8 := D.zA0 (HCD.out.below hn0 b8)
       have HF8 := D.zA0 (HFD.out.below b8)
       have HK8 := D.zA0 (HK7.out.below b8)
       clear y0 y1 y2 y3 y4 z0 z1 z2 z3 z4 G2 HCD HFD HK7 b8
       go_wp2_with fail
       obtain ⟨W0, hW0⟩ : ∃ W, W = wr := ⟨_, rfl⟩
       have hsz0 : W5.heap.size ≤ W0.heap.size := by rw [hW0]; exact hsz
       rw [← hW0] at hb1 hb4 hb5
       go_loopw [10] (fun jv wy => ∃ j : Nat, jv = .int .i64 (j : Int) ∧ j ≤ n ∧ zD4 wy gx 4 bm om cmm bc oc n ccc ∧ zEe wy gx bf ff 4 cf ∧ KI W5 w1.heap.size w2.heap.size wy) (fun jv _ => n - (intOf jv).toNat)
       case atStart => exact ⟨0, rfl, Nat.zero_le _, HC8.out, HF8.out, HK8.out⟩
       case round =>
        clear HC8 HF8 HK8
        obtain ⟨j, rfl, hj, hC, hF, hKI⟩ := hrel
        have a1 := hC.a
        have a2 := hC.b
        by_cases hltj : j < n
        · have hltj' : (j : Int) < (n : Int) := by omega
          obtain ⟨x, a3⟩ := hC.c j hltj
          have a4 := zEq (p := ⟨bc, oc + j, none⟩) hC.z
          have HF := D.zA0 (And.intro (hC.set hltj 98) (And.intro (hF.set hC hltj 98) (hKI.set (b := bc) (.inl (by omega)) (oc + j) (.int .u8 98))))
          clear hC hKI hF
          go_wp2
          go_roundw
          case rel => exact ⟨j + 1, by go_num, by omega, HF.out.1, HF.out.2.1, HF.out.2.2⟩
          case measure => simp [intOf]; omega
        · have hltj' : ¬ (j : Int) < (n : Int) := by omega
          have f1 := hF.a
          obtain ⟨s4, f2⟩ := hF.b
          have f3 := zEq (p := ⟨bf, ff, none⟩) hF.z
          have HK9 := D.zA0 (hKI.set (b := bf) (.inl (by omega)) ff (.string ⟨#[115, 112, 111, 105, 108, 116]⟩))
          clear hC hF hKI
          go_upto_region 23 with (fail)
          generalize wr.setCell ⟨bf, ff, none⟩ (.string ⟨#[115, 112, 111, 105, 108, 116]⟩) = W9 at *
          obtain ⟨ao9, cp9, ev9, hV9⟩ := (HKF.out.at HK9.out).view
          have G4 := D.zA0 (zJi W9 pk (⟨M.kdA σ, b5⟩ :: R) mb ao9 cp9 hV9 HSM.out M.sA M.sGo M.sIIr)
          have hsz9 := HK9.out.size
          clear hV9 f1 f2 f3 a1 a2
          go_upto_region 24 with (first
           | (go_at_call 15; refine G4.out.mono ?_; rintro e wm ⟨bm9, hM⟩; unfold zJl at hM; rw [near_A] at hM; obtain ⟨y, row9, hy, rfl, hmr⟩ := hM; rw [find_A] at hy; cases hy; obtain ⟨bc2, oc2, cc2, o2, c2, o3, c3, er9, x1, x2, x3⟩ := zJu hmr HN.out; subst er9; have x3' : ∀ j, j < n → ∃ x, wm.cell? ⟨bc2, oc2 + j, none⟩ = some (.int .u8 x) := fun j hj => x3 j (by rw [HNE.out] at hj; exact hj); have hen : (M.mdOf .go σ).code.length = n := HNE.out.symm; rw [hen]; generalize (M.mdOf .go σ).hs.length = h2; generalize (M.mdOf .go σ).rs.length = h3; clear hen hmr x3)
           | (refine wpList_store_row rfl 39 _ _ rfl wm.heap.size #[.string M.sGo, .string M.sIIr, .bool false, .bool false, .int .i64 16, .int .i64 10, .slice (some ⟨bc2, oc2, none⟩) n cc2, .slice o2 h2 c2, .slice o3 h3 c3] rfl rfl 39 _ (Blk.new wm _ _) (by kernel_rfl) rfl (by simp [Value.oneCell']) ?_))
          obtain ⟨XM, b10⟩ := zO7 wm #[.string ⟨#[]⟩, .string ⟨#[]⟩, .bool false, .bool false, .int .i64 0, .int .i64 0, .slice none 0 0, .slice none 0 0, .slice none 0 0] #[.string M.sGo, .string M.sIIr, .bool false, .bool false, .int .i64 16, .int .i64 10, .slice (some ⟨bc2, oc2, none⟩) n cc2, .slice o2 h2 c2, .slice o3 h3 c3] 39
          have hb2 : W9.heap.size ≤ bc2 := by simpa [newB] using x1
          have HK10 := D.zA0 ((HK9.out.below bm9).below b10)
          obtain ⟨x0, hx0⟩ := x3' 0 hn0
          rw [Nat.add_zero] at hx0
          have m1 := (zAi b10).cell _ _ hx0
          have m2 := zEq (p := ⟨bc2, oc2, none⟩) (zFk b10 (World.block_lt_of_cell? _ _ hx0) x2)
          have m3 : _ = some (Value.slice (some ⟨bc2, oc2, none⟩) n cc2) := XM.cell 6
          have hnz : ((n : Int) == 0) = false := by simp; omega
          have hnz' : ¬ (n : Int) = 0 := by omega
          have hn1 : (0 : Int) < (n : Int) := by omega
          clear XM b10 bm9 x1 x2 x3' hx0 G4
          generalize (wm.alloc (.cells #[.string ⟨#[]⟩, .string ⟨#[]⟩, .bool false, .bool false, .int .i64 0, .int .i64 0, .slice none 0 0, .slice none 0 0, .slice none 0 0] 39)).setRow wm.heap.size #[.string M.sGo, .string M.sIIr, .bool false, .bool false, .int .i64 16, .int .i64 10, .slice (some ⟨bc2, oc2, none⟩) n cc2, .slice o2 h2 c2, .slice o3 h3 c3] = W10 at *
          generalize wm.heap.size = gy at *
          go_upto_region 27 with (fail)
          have HK11 := D.zA0 (HK10.out.set (b := bc2) (.inl (by omega)) oc2 (.int .u8 97))
          clear m1 m2 m3 HK10 HK9
          generalize W10.setCell ⟨bc2, oc2, none⟩ (.int .u8 97) = W11 at *
          obtain ⟨aoN, cpN, evN, hVN⟩ := (HKF.out.at HK11.out).view
          have G5 := D.zA0 (zOr W11 pk (⟨M.kdA σ, b5⟩ :: R) mb aoN cpN hVN (by simp [HRL.out]))
          have hsz11 := HK11.out.size
          clear hVN
          go_upto_region 28 with (go_at_call 16; refine G5.out.mono ?_; rintro e wn ⟨bn, vn, rfl, hon⟩; obtain ⟨gn, cpn, evn⟩ := zCv hon (by simp); rw [show (⟨M.kdA σ, b5⟩ :: R : List Mem).length = 14 by simp [HRL.out]] at evn; subst evn; have HON := D.zA0 hon; clear hon)
          have hon' : wn.ownsRow W11.heap.size 9 1 (.slice (some ⟨gn, 0, none⟩) 14 cpn) 14 ((⟨M.kdA σ, b5⟩ :: R : List Mem).reverse.map fun m => .string m.k.nm) := by
           have := HON.out
           rw [show (⟨M.kdA σ, b5⟩ :: R : List Mem).length = 14 by simp [HRL.out]] at this
           exact this
          obtain ⟨u0, hu0⟩ : ∃ u, ((⟨M.kdA σ, b5⟩ :: R : List Mem).reverse.map fun m => Value.string m.k.nm)[0]? = some u := ⟨_, List.getElem?_eq_getElem (by simp)⟩
          have r1 := M.zFq hon' hu0
          have hgn := (hon'.lt gn rfl).1
          have r2 : wn.frozen? ⟨gn, 0, none⟩ = false := by
           rcases hon'.2 with ⟨e, _⟩ | ⟨g', cap', cur', e, _, hg', _⟩
           · cases e
           · cases e; exact Blk.frozen hg' 0
          have HK12 := D.zA0 ((HK11.out.below bn).set (b := gn) (.inl (by omega)) 0 (.string ⟨#[115, 112, 111, 105, 108, 116]⟩))
          clear hon' HON hu0 bn G5
          go_wp2
          go_roundw
          case rel => exact ⟨t + 1, by go_num, by omega, HK12.out⟩
          case measure => simp [intOf]; omega
     · have hlt' : ¬ (t : Int) < 2 := by omega
       have HBE := D.zA0 (hKI.under HB5.out hnw (by omega))
       have G9 := D.zA0 (zP1 wr)
       clear hKI
       go_wp2_with (go_at_call 17; refine G9.out.mono ?_; rintro e we ⟨rfl, be⟩)
       go_ret
       exact ⟨rfl, HBE.out.trans (be.mono HBE.out.size)⟩
end Go.Proofs.YtpehimfnkmepnaaGreat.KK
