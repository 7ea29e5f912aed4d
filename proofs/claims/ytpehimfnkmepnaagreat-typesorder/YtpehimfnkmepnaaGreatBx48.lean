import Derived.Test.YtpehimfnkmepnaaGreatBx47
set_option maxRecDepth 8000
set_option maxHeartbeats 40000000
namespace Go.Proofs.YtpehimfnkmepnaaGreat.T
open Go.RowKit Q Q.D K
def BothQ (w : World) (e : Ending) (w' : World) : Prop := ∃ (pk pw : Nat) (R : List Mem) (mb : Nat) (ao : Option Addr) (c : Nat), e = .returned (.tuple #[.pointer (some ⟨pk, 0, none⟩), .pointer (some ⟨pw, 0, none⟩)]) ∧ KinV w' pk R mb ao c ∧ KWf (R.map Mem.k) ∧ (∀ m ∈ R, zCj (bsB m.k.nm)) ∧ (∃ k, zB7 (R.map Mem.k) zAc = some k) ∧ R.length ≤ 1000 ∧ Below w.heap.size w w'
theorem zHd : ∀ {R : List KD} {k : KD}, k ∈ R → ∃ p, zB7 R k.nm = some p
 | m :: o, k, h => by
   by_cases hs : k.nm = m.nm
   · exact ⟨m, zCs hs⟩
   · rcases List.mem_cons.1 h with rfl | h
     · exact absurd rfl hs
     · rw [zD8 hs]
       exact zHd h
theorem zJ0 {n : ByteArray} (h : zCj (bsB n)) : n.size ≤ 64 := by rw [zA7]; exact h.2.1
theorem zO8 {R : List KD} (t : Ty) (h : t.Ok R) : t.txt.size ≤ 1000 := by
 unfold Ty.txt
 rw [zDk]
 cases t with
 | l n => have := zJ0 h.1; simp [Ty.tb]; omega
 | al n => have := zJ0 h.1; simp [Ty.tb]; omega
 | i => decide
 | q => decide
 | z => decide
 | ai => decide
theorem all_ok {R : List Mem} (hn : ∀ m ∈ R, zCj (bsB m.k.nm)) : ∀ t ∈ allL (R.reverse.map fun m => m.k.nm), t.Ok (R.map Mem.k) := fun t ht => by
 have hN : ∀ n ∈ R.reverse.map (fun m => m.k.nm), Nok (R.map Mem.k) n := fun n hq => by
  obtain ⟨m, hm, rfl⟩ := List.mem_map.1 hq
  have hm' := List.mem_reverse.1 hm
  exact ⟨hn m hm', zHd (List.mem_map.2 ⟨m, hm', rfl⟩)⟩
 unfold allL at ht
 rcases List.mem_append.1 ht with ht | ht
 · simp at ht
   rcases ht with rfl | rfl | rfl | rfl <;> trivial
 · obtain ⟨n, hq, rfl | rfl⟩ := zOz _ _ t ht
   · exact hN n hq
   · exact hN n hq
theorem zOe : ∀ (ns : List ByteArray) (i : Nat), (allT ns i).length ≤ 2 * ns.length
 | [], _ => Nat.le_refl _
 | n :: r, i => by
   have := zOe r (i + 1)
   rw [zIq]
   simp only [List.length_cons, List.length_append]
   have h1 : (if i % 3 = 0 then [Ty.al n] else []).length ≤ 1 := by split <;> simp
   omega
theorem zRb (n : Int) {m : Nat} (h : 0 < m) : atZ n m < m := Nat.mod_lt _ h
theorem zVp {a b : Ty} (h : a.txt.toList = b.txt.toList) : a = b := by
 rw [Lib.toList_data, Lib.toList_data] at h
 exact zRw h
theorem zVh (aor : Option Addr) (nr cr : Nat) (x y z : Int) (w : World) (hx : -9223372036854775808 ≤ x ∧ x ≤ 9223372036854775807) (hy : -9223372036854775808 ≤ y ∧ y ≤ 9223372036854775807) (hz : -9223372036854775808 ≤ z ∧ z ≤ 9223372036854775807)
 (GB : Calls Tryz.prog 18 #[.slice none 0 0, .slice aor nr cr] w fun e w' => BothQ w e w') :
 Calls Tryz.prog 5 #[.slice aor nr cr, .int .i64 x, .int .i64 y, .int .i64 z] w fun e w' => e = .returned (.bool true) ∧ Below w.heap.size w w' := by
 have HG := D.zA0 GB
 clear GB
 go_enter Tryz.func5, Tryz.ntmps5
 go_upto_region 2 with (go_at_call 18; refine HG.out.mono ?_; rintro e w1 ⟨pk, pw, R, mb, ao, c, rfl, hk, hw, hn, ho, hR, hb⟩; have HK := D.zA0 hk; have HW := D.zA0 hw; have HN := D.zA0 hn; have HB := D.zA0 hb; clear hk hw ho hb HG)
 have GA := D.zA0 (zVy w1 pk R mb ao c HK.out hR (fun m hm => Nat.le_trans (zJ0 (hn m hm)) (by decide)))
 have HOk := D.zA0 (all_ok hn)
 have hlen : (allL (R.reverse.map fun m => m.k.nm)).length ≤ 4 + 2 * 1000 := by
  unfold allL
  have := zOe (R.reverse.map fun m => m.k.nm) 0
  simp at this ⊢
  omega
 have hpos : 0 < (allL (R.reverse.map fun m => m.k.nm)).length := by unfold allL; simp
 clear hn
 generalize allL (R.reverse.map fun m => m.k.nm) = L at *
 go_upto_region 5 with (go_at_call 28; refine GA.out.mono ?_; rintro e w2 ⟨v, rfl, hv, hb2⟩; have HB2 := D.zA0 hb2; have HV := D.zA0 hv; clear hb2 hv GA)
 have GF := D.zA0 (fun (a b : Ty) (ha : a.Ok (R.map Mem.k)) (hb : b.Ok (R.map Mem.k)) W (hW : Below w2.heap.size w2 W) => (zSl W pk R mb ao c ((HK.out.below HB2.out).below hW) a.txt b.txt (Nat.le_trans (zO8 a ha) (by decide)) (Nat.le_trans (zO8 b hb) (by decide))).mono fun e w' h => by rw [zTb a b ha hb] at h; exact h)
 obtain ⟨av, cv, rfl, hc1, hm1, hrow⟩ := trow HV.out (by simp)
 have HR := D.zA0 hrow
 clear hrow
 unfold maxLen at hm1
 have at1 := D.zA0 (fun W => zQ9 x L.length W hx.1 hx.2 hpos (by omega))
 have at2 := D.zA0 (fun W => zQ9 y L.length W hy.1 hy.2 hpos (by omega))
 have at3 := D.zA0 (fun W => zQ9 z L.length W hz.1 hz.2 hpos (by omega))
 have l1 := zRb x hpos
 have l2 := zRb y hpos
 have l3 := zRb z hpos
 generalize atZ x L.length = i1 at *
 generalize atZ y L.length = i2 at *
 generalize atZ z L.length = i3 at *
 obtain ⟨ta, ha⟩ : ∃ t, L[i1]? = some t := ⟨_, List.getElem?_eq_getElem l1⟩
 obtain ⟨tb, hb⟩ : ∃ t, L[i2]? = some t := ⟨_, List.getElem?_eq_getElem l2⟩
 obtain ⟨tc, hc⟩ : ∃ t, L[i3]? = some t := ⟨_, List.getElem?_eq_getElem l3⟩
 obtain ⟨g, rfl, c1⟩ := HR.out i1 ta.txt (by rw [List.getElem?_map, ha]; rfl)
 obtain ⟨g', e', c2⟩ := HR.out i2 tb.txt (by rw [List.getElem?_map, hb]; rfl)
 cases e'
 obtain ⟨g', e', c3⟩ := HR.out i3 tc.txt (by rw [List.getElem?_map, hc]; rfl)
 cases e'
 rw [Nat.zero_add] at c1 c2 c3
 have oka := HOk.out ta (List.mem_of_getElem? ha)
 have okb := HOk.out tb (List.mem_of_getElem? hb)
 have okc' := HOk.out tc (List.mem_of_getElem? hc)
 have k1 : (i1 : Int) < (L.length : Int) := by omega
 have k2 : (i2 : Int) < (L.length : Int) := by omega
 have k3 : (i3 : Int) < (L.length : Int) := by omega
 have HBw := D.zA0 (next HB.out HB2.out)
 have HX := D.zA0 (Below.refl w2.heap.size w2)
 have HTr := D.zA0 (zPn HW.out ta tb tc oka okb)
 have HAn := D.zA0 (zRo HW.out ta tb)
 have HSf := D.zA0 (zMi ta oka)
 have HIn : Hid (ta.txt.toList = tb.txt.toList → ta = tb) := fun h => zVp h
 clear HR HV HOk ha hb hc HK HN HB HB2
 go_upto_region 6 with (go_at_call 29; refine (at1.out _).mono ?_; rintro e w' ⟨rfl, hww⟩; cases hww)
 clear c1
 go_upto_region 7 with (go_at_call 29; refine (at2.out _).mono ?_; rintro e w' ⟨rfl, hww⟩; cases hww)
 clear c2
 go_upto_region 8 with (go_at_call 29; refine (at3.out _).mono ?_; rintro e w' ⟨rfl, hww⟩; cases hww)
 clear c3 at1 at2 at3 k1 k2 k3 l1 l2 l3
 have hself := HSf.out
 generalize R.map Mem.k = RK at *
 by_cases e : ta = tb
 · subst e
   clear HTr HAn HSf HIn okb
   cases hac : fitT RK ta tc
   · have TT := True.intro
     go_wp2_with (first | (go_at_call 23; refine (GF.out _ _ (by assumption) (by assumption) _ HX.out).mono ?_; rintro e wf ⟨rfl, hbf⟩; have HBn := D.zA0 (next HX.out hbf); clear HX hbf; have HX := HBn; clear HBn) | (go_at_call 27; refine (zE1 _).mono ?_; rintro e wg ⟨rfl, hbg⟩; have HBn := D.zA0 (next HX.out hbg); clear HX hbg; have HX := HBn; clear HBn))
     go_ret
     exact ⟨rfl, next HBw.out HX.out⟩
   · have TT := True.intro
     go_wp2_with (first | (go_at_call 23; refine (GF.out _ _ (by assumption) (by assumption) _ HX.out).mono ?_; rintro e wf ⟨rfl, hbf⟩; have HBn := D.zA0 (next HX.out hbf); clear HX hbf; have HX := HBn; clear HBn) | (go_at_call 27; refine (zE1 _).mono ?_; rintro e wg ⟨rfl, hbg⟩; have HBn := D.zA0 (next HX.out hbg); clear HX hbg; have HX := HBn; clear HBn))
     go_ret
     exact ⟨rfl, next HBw.out HX.out⟩
 · have hne : ¬ ta.txt.toList = tb.txt.toList := fun h => e (HIn.out h)
   clear HIn HSf
   cases hab : fitT RK ta tb
   · clear HTr HAn e
     go_wp2_with (first | (go_at_call 23; refine (GF.out _ _ (by assumption) (by assumption) _ HX.out).mono ?_; rintro e wf ⟨rfl, hbf⟩; have HBn := D.zA0 (next HX.out hbf); clear HX hbf; have HX := HBn; clear HBn) | (go_at_call 27; refine (zE1 _).mono ?_; rintro e wg ⟨rfl, hbg⟩; have HBn := D.zA0 (next HX.out hbg); clear HX hbg; have HX := HBn; clear HBn))
     go_ret
     exact ⟨rfl, next HBw.out HX.out⟩
   · cases hba : fitT RK tb ta
     · clear HAn e
       cases hbc : fitT RK tb tc
       · clear HTr
         go_wp2_with (first | (go_at_call 23; refine (GF.out _ _ (by assumption) (by assumption) _ HX.out).mono ?_; rintro e wf ⟨rfl, hbf⟩; have HBn := D.zA0 (next HX.out hbf); clear HX hbf; have HX := HBn; clear HBn) | (go_at_call 27; refine (zE1 _).mono ?_; rintro e wg ⟨rfl, hbg⟩; have HBn := D.zA0 (next HX.out hbg); clear HX hbg; have HX := HBn; clear HBn))
         go_ret
         exact ⟨rfl, next HBw.out HX.out⟩
       · have hac := HTr.out hab hbc
         clear HTr
         go_wp2_with (first | (go_at_call 23; refine (GF.out _ _ (by assumption) (by assumption) _ HX.out).mono ?_; rintro e wf ⟨rfl, hbf⟩; have HBn := D.zA0 (next HX.out hbf); clear HX hbf; have HX := HBn; clear HBn) | (go_at_call 27; refine (zE1 _).mono ?_; rintro e wg ⟨rfl, hbg⟩; have HBn := D.zA0 (next HX.out hbg); clear HX hbg; have HX := HBn; clear HBn))
         go_ret
         exact ⟨rfl, next HBw.out HX.out⟩
     · exact absurd (HAn.out hab hba) e
end Go.Proofs.YtpehimfnkmepnaaGreat.T
