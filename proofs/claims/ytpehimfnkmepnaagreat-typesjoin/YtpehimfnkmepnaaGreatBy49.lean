import Derived.Test.YtpehimfnkmepnaaGreatBy48
import Derived.Test.YtpehimfnkmepnaaGreatRows
import Derived.ProofKit
import Derived.OpenShut
import Derived.SliceStrings
import Derived.Lib.LaidU8
import Derived.ChangeOld
import Derived.Below
set_option maxRecDepth 8000
set_option maxHeartbeats 40000000
namespace Go.Proofs.YtpehimfnkmepnaaGreat.T
open Go.RowKit Q Q.D K
theorem zWj (aor : Option Addr) (nr cr : Nat) (x y : Int) (w : World) (hx : -9223372036854775808 ≤ x ∧ x ≤ 9223372036854775807) (hy : -9223372036854775808 ≤ y ∧ y ≤ 9223372036854775807)
 (GB : Calls Tryz.prog 18 #[.slice none 0 0, .slice aor nr cr] w fun e w' => BothQ w e w') :
 Calls Tryz.prog 6 #[.slice aor nr cr, .int .i64 x, .int .i64 y] w fun e w' => e = .returned (.bool true) ∧ Below w.heap.size w w' := by
 have HG := D.zA0 GB
 clear GB
 go_enter Tryz.func6, Tryz.ntmps6
 go_upto_region 2 with (go_at_call 18; refine HG.out.mono ?_; rintro e w1 ⟨pk, pw, R, mb, ao, c, rfl, hk, hw, hn, ho, hR, hb⟩; have HK := D.zA0 hk; have HW := D.zA0 hw; have HN := D.zA0 hn; have HB := D.zA0 hb; have HO := D.zA0 ho; clear hk hw ho hb HG)
 have GA := D.zA0 (zVu w1 pk R mb ao c HK.out hR (fun m hm => Nat.le_trans (zGy (hn m hm)) (by decide)))
 have HOk := D.zA0 (all_ok hn)
 have hlen : (allL (R.reverse.map fun m => m.k.nm)).length ≤ 4 + 2 * 1000 := by
  unfold allL
  have := zOt (R.reverse.map fun m => m.k.nm) 0
  simp at this ⊢
  omega
 have hpos : 0 < (allL (R.reverse.map fun m => m.k.nm)).length := by unfold allL; simp
 have HNm : Hid (∀ k ∈ R.map Mem.k, zC8 (bsB k.nm)) := fun k hk => by obtain ⟨m, hm, rfl⟩ := List.mem_map.1 hk; exact hn m hm
 clear hn
 generalize allL (R.reverse.map fun m => m.k.nm) = L at *
 go_upto_region 5 with (go_at_call 28; refine GA.out.mono ?_; rintro e w2 ⟨v, rfl, hv, hb2⟩; have HB2 := D.zA0 hb2; have HV := D.zA0 hv; clear hb2 hv GA)
 have GF := D.zA0 (fun (a b : Ty) (ha : a.Ok (R.map Mem.k)) (hb : b.Ok (R.map Mem.k)) W (hW : Below w2.heap.size w2 W) => (zQo W pk R mb ao c ((HK.out.below HB2.out).below hW) a.txt b.txt (Nat.le_trans (zIh a ha) (by decide)) (Nat.le_trans (zIh b hb) (by decide))).mono fun e w' h => by rw [zU9 a b ha hb] at h; exact h)
 obtain ⟨av, cv, rfl, hc1, hm1, hrow⟩ := trow HV.out (by simp)
 have HR := D.zA0 hrow
 clear hrow
 unfold maxLen at hm1
 have GJ := D.zA0 (fun (a b : Ty) (ha : a.Ok (R.map Mem.k)) (hb : b.Ok (R.map Mem.k)) W (hW : Below w2.heap.size w2 W) => (zRc W pk R mb ao c ((HK.out.below HB2.out).below hW) (by omega) (fun k hk => Nat.le_trans (zGy (HNm.out k hk)) (by decide)) a.txt b.txt (Nat.le_trans (zIh a ha) (by decide)) (Nat.le_trans (zIh b hb) (by decide))).mono fun e w' h => by rw [zTt a b ha hb] at h; exact h)
 have at1 := D.zA0 (fun W => zUz x L.length W hx.1 hx.2 hpos (by omega))
 have at2 := D.zA0 (fun W => zUz y L.length W hy.1 hy.2 hpos (by omega))
 have l1 := zV4 x hpos
 have l2 := zV4 y hpos
 generalize atZ x L.length = i1 at *
 generalize atZ y L.length = i2 at *
 obtain ⟨ta, ha⟩ : ∃ t, L[i1]? = some t := ⟨_, List.getElem?_eq_getElem l1⟩
 obtain ⟨tb, hb⟩ : ∃ t, L[i2]? = some t := ⟨_, List.getElem?_eq_getElem l2⟩
 obtain ⟨g, rfl, c1⟩ := HR.out i1 ta.txt (by rw [List.getElem?_map, ha]; rfl)
 obtain ⟨g', e', c2⟩ := HR.out i2 tb.txt (by rw [List.getElem?_map, hb]; rfl)
 cases e'
 rw [Nat.zero_add] at c1 c2
 have oka := HOk.out ta (List.mem_of_getElem? ha)
 have okb := HOk.out tb (List.mem_of_getElem? hb)
 have k1 : (i1 : Int) < (L.length : Int) := by omega
 have k2 : (i2 : Int) < (L.length : Int) := by omega
 have okj := jT_ok HW.out HNm.out HO.out ta tb oka okb
 obtain ⟨hja, hjb⟩ := zWk HW.out ta tb oka okb
 have hcm := zWn HW.out tb ta okb oka
 have HLs := D.zA0 (fun (t : Ty) => zKu HW.out ta tb t oka okb)
 have HCell : Hid (∀ W, Below w2.heap.size w2 W → ∀ (j : Nat) (t : Ty), L[j]? = some t → W.cell? ⟨g, j, none⟩ = some (.string t.txt)) := fun W hW j t hj => by
  obtain ⟨g', e', c⟩ := HR.out j t.txt (by rw [List.getElem?_map, hj]; rfl)
  cases e'
  rw [Nat.zero_add] at c
  exact (zB4 hW).cell _ _ c
 have HBw := D.zA0 (next HB.out HB2.out)
 have HX := D.zA0 (Below.refl w2.heap.size w2)
 clear HR HV ha hb HK HN HB HB2 HO HNm
 go_upto_region 6 with (go_at_call 29; refine (at1.out _).mono ?_; rintro e w' ⟨rfl, hww⟩; cases hww)
 clear c1
 go_upto_region 7 with (go_at_call 29; refine (at2.out _).mono ?_; rintro e w' ⟨rfl, hww⟩; cases hww)
 clear c2 at1 at2 k1 k2 l1 l2
 generalize R.map Mem.k = RK at *
 go_upto_region 8 with (go_at_call 25; refine (GJ.out _ _ (by assumption) (by assumption) _ HX.out).mono ?_; rintro e wj ⟨rfl, hbj⟩; have HBn := D.zA0 (next HX.out hbj); clear HX hbj; have HX := HBn; clear HBn)
 generalize jT RK ta tb = tj at *
 go_wp2_with (first | (go_at_call 23; refine (GF.out _ _ (by assumption) (by assumption) _ HX.out).mono ?_; rintro e wf ⟨rfl, hbf⟩; have HBn := D.zA0 (next HX.out hbf); clear HX hbf; have HX := HBn; clear HBn) | (go_at_call 25; refine (GJ.out _ _ (by assumption) (by assumption) _ HX.out).mono ?_; rintro e wj ⟨rfl, hbj⟩; have HBn := D.zA0 (next HX.out hbj); clear HX hbj; have HX := HBn; clear HBn))
 clear hja hjb hcm GJ
 go_loopw [13] (fun i wr => ∃ k : Nat, i = .int .i64 (k : Int) ∧ k ≤ L.length ∧ Below w2.heap.size w2 wr) (fun i _ => L.length - (intOf i).toNat)
 case atStart => exact ⟨0, rfl, Nat.zero_le _, HX.out⟩
 case round =>
  clear HX
  obtain ⟨k, rfl, hk, hbk⟩ := hrel
  have HX := D.zA0 hbk
  clear hbk
  by_cases hlt : k < L.length
  · have hlt' : (k : Int) < (L.length : Int) := by omega
    obtain ⟨t, ht⟩ : ∃ t, L[k]? = some t := ⟨_, List.getElem?_eq_getElem hlt⟩
    have okt := HOk.out t (List.mem_of_getElem? ht)
    have HT := D.zA0 ht
    have c0 := HCell.out _ HX.out k t ht
    clear ht
    cases hat : fitT RK ta t
    · go_wp2_with (first | (go_at_call 23; refine (GF.out _ _ (by assumption) (by assumption) _ HX.out).mono ?_; clear c0; rintro e wf ⟨rfl, hbf⟩; have HBn := D.zA0 (next HX.out hbf); clear HX hbf; have HX := HBn; clear HBn; have c0 := HCell.out _ HX.out k t HT.out))
      exact ⟨⟨k + 1, by go_num, by omega, HX.out⟩, by simp [intOf]; omega⟩
    · cases hbt : fitT RK tb t
      · go_wp2_with (first | (go_at_call 23; refine (GF.out _ _ (by assumption) (by assumption) _ HX.out).mono ?_; clear c0; rintro e wf ⟨rfl, hbf⟩; have HBn := D.zA0 (next HX.out hbf); clear HX hbf; have HX := HBn; clear HBn; have c0 := HCell.out _ HX.out k t HT.out))
        exact ⟨⟨k + 1, by go_num, by omega, HX.out⟩, by simp [intOf]; omega⟩
      · have hjt := HLs.out t hat hbt
        go_wp2_with (first | (go_at_call 23; refine (GF.out _ _ (by assumption) (by assumption) _ HX.out).mono ?_; clear c0; rintro e wf ⟨rfl, hbf⟩; have HBn := D.zA0 (next HX.out hbf); clear HX hbf; have HX := HBn; clear HBn; have c0 := HCell.out _ HX.out k t HT.out))
        exact ⟨⟨k + 1, by go_num, by omega, HX.out⟩, by simp [intOf]; omega⟩
  · have hlt' : ¬ (k : Int) < (L.length : Int) := by omega
    go_wp2_with (first | (go_at_call 27; refine (zJ8 _).mono ?_; rintro e wg ⟨rfl, hbg⟩; have HBn := D.zA0 (next HX.out hbg); clear HX hbg; have HX := HBn; clear HBn))
    go_ret
    exact ⟨rfl, next HBw.out HX.out⟩
end Go.Proofs.YtpehimfnkmepnaaGreat.T
namespace Go.Proofs.YtpehimfnkmepnaaGreat.Q
open Go.ChangeShapes Go.WideShapes Go.ChangeAt Go.RowKit
open Go.ChangeMaps (open_string shut_string)
theorem cells3 : Tryz.prog.cellsOf 3 = 1 := by kernel_rfl
theorem cells5 : Tryz.prog.cellsOf 5 = 1 := by kernel_rfl
theorem zE5 {W : World} {b o : Nat} {u : Value} (h : W.cell? ⟨b, o, none⟩ = some u) : b < W.heap.size := by
 apply Nat.lt_of_not_le
 intro hle
 have hn : W.heap[b]? = none := Array.getElem?_eq_none (by omega)
 simp [World.cell?, hn] at h
theorem trod_bytes {H : Type} {enc : TypeId × Value → H} {W : World} {fuel : Nat} {cs : List Value} {y : DataW H × List MemPlace}
 (ht : DataW.trod enc Tryz.prog W 0 (fun _ => true) true fuel 35 cs = some y) : ∃ ao cap l, cs = [.slice ao (List.length l) cap] ∧ View W (.slice ao (List.length l) cap) l := by
 rcases open_ints Tryz.underlying35 Tryz.underlying5 cells5 ht with ⟨rfl, _⟩ | ⟨x, len, cap, zs, rfl, _, hl, hm, hz, _, hcell, hwz⟩
 · exact ⟨none, 0, [], rfl, none, 0, rfl, Nat.le_refl _, by unfold maxLen; omega, fun x hx => by simp at hx, .inl rfl⟩
 · have hzl : zs.length = cap := by simpa using hz
   have e0 : (zs.take len).length = len := by rw [List.length_take, Nat.min_eq_left (by omega)]
   refine ⟨some x, cap, zs.take len, by rw [e0], some x, cap, rfl, by rw [e0]; omega, hm, ?_, ?_⟩
   · intro y hy
     have := hwz y (List.mem_of_mem_take hy)
     have := bounds_u8 this
     omega
   · by_cases h0 : len = 0
     · left; simp [h0]
     · right
       have h00 := hcell 0 (by omega)
       obtain ⟨b, o, sp⟩ := x
       have hsp : sp = none := by
        have e : (⟨b, o, sp⟩ : Addr).add 0 = ⟨b, o, sp⟩ := by unfold Addr.add; simp
        rw [e] at h00
        exact cell_spot h00
       subst hsp
       refine ⟨b, o, rfl, fun j y hj => ?_⟩
       have hj1 : j < len := by
        have := (List.getElem?_eq_some_iff.1 hj).1
        simp at this; omega
       have hj2 : zs[j]? = some y := by rwa [List.getElem?_take_of_lt hj1] at hj
       have hc := hcell j (by omega)
       have e : (⟨b, o, none⟩ : Addr).add j = ⟨b, o + j, none⟩ := by unfold Addr.add; split <;> simp_all
       rw [e] at hc
       rw [hc]
       simp [List.getD, hj2]
theorem zQh {H : Type} {enc : TypeId × Value → H} {W : World} {base : Nat} {v : Value} {d : DataW H} {p : List MemPlace} (hval : Value.okWide Tryz.prog W .any base 22 v)
 (h : DataW.Trod enc Tryz.prog W 0 (fun _ => true) true 22 v d p) : ∃ rl : List Int, ∃ ao cap, v = .slice ao rl.length cap ∧ rl.length ≤ cap ∧ cap ≤ maxLen ∧ (∀ x ∈ rl, -9223372036854775808 ≤ x ∧ x ≤ 9223372036854775807) ∧ (rl = [] ∨ ∃ g off, ao = some ⟨g, off, none⟩ ∧ g < W.heap.size ∧ g < W.heap.size ∧ ∀ (j : Nat) x, rl[j]? = some x → W.cell? ⟨g, off + j, none⟩ = some (.int .i64 x)) := by
 obtain ⟨a, len, cap, rfl⟩ := okWide_slice Tryz.underlying22 hval
 obtain ⟨fuel, hf⟩ := h
 rcases open_ints Tryz.underlying22 Tryz.underlying3 cells3 hf with ⟨hcs, hx⟩ | ⟨x, l, c, zs, hcs, _, hl, hm, hz, hx, hcell, hwz⟩
 · simp [Value.cells] at hcs
   obtain ⟨rfl, rfl, rfl⟩ := hcs
   exact ⟨[], none, 0, rfl, Nat.le_refl _, by unfold maxLen; omega, by simp, .inl rfl⟩
 · simp [Value.cells] at hcs
   obtain ⟨rfl, rfl, rfl⟩ := hcs
   have hzl : zs.length = cap := by simpa using hz
   refine ⟨zs.take len, some x, cap, ?_, ?_, hm, fun y hy => bounds_i64 (hwz y (List.mem_of_mem_take hy)), ?_⟩
   · rw [List.length_take, Nat.min_eq_left (by omega)]
   · rw [List.length_take]; omega
   · by_cases h0 : len = 0
     · left; simp [h0]
     · right
       have h00 := hcell 0 (by omega)
       obtain ⟨b, o, sp⟩ := x
       have hsp : sp = none := by
        have e : (⟨b, o, sp⟩ : Addr).add 0 = ⟨b, o, sp⟩ := by unfold Addr.add; simp
        rw [e] at h00
        exact cell_spot h00
       subst hsp
       have hb : b < W.heap.size := by
        have e : (⟨b, o, none⟩ : Addr).add 0 = ⟨b, o, none⟩ := by unfold Addr.add; simp
        rw [e] at h00
        exact zE5 h00
       refine ⟨b, o, rfl, hb, hb, fun j y hj => ?_⟩
       have hj1 : j < len := by
        have := (List.getElem?_eq_some_iff.1 hj).1
        simp at this; omega
       have hj2 : zs[j]? = some y := by rwa [List.getElem?_take_of_lt hj1] at hj
       have hc := hcell j (by omega)
       have e : (⟨b, o, none⟩ : Addr).add j = ⟨b, o + j, none⟩ := by unfold Addr.add; split <;> simp_all
       rw [e] at hc
       rw [hc]
       simp [List.getD, hj2]
end Go.Proofs.YtpehimfnkmepnaaGreat.Q
