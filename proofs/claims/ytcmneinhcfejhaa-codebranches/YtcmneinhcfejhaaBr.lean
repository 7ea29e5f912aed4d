/- CodeBranches, walked. -/
import Derived.Test.YtcmneinhcfejhaaBrP
namespace Go.Proofs.Ytcmneinhcfejhaa
open Go.RowKit

def brs : List Int := [153, 158, 159, 164, 165, 166, 167, 198, 199]
theorem brs_kd : brs.all (fun k => kd k == 6) = true := by decide
set_option maxRecDepth 8000 in
set_option maxHeartbeats 8000000 in
theorem branches_any (op from_ to_ : Int) (w : World) : Calls Try.prog 8 #[.int .i64 op, .int .i64 from_, .int .i64 to_] w fun e w' => e = .returned (.bool true) ∧ Below w.heap.size w w' := by
  have GW := hidIt (fun n (hi : Nat) (h : hi ≤ 1099511627776) W => within_any n hi h W)
  have B0 : Hid (Below w.heap.size w (w.alloc (.cells #[.int .i64 153, .int .i64 158, .int .i64 159, .int .i64 164, .int .i64 165, .int .i64 166, .int .i64 167, .int .i64 198, .int .i64 199] 3))) := below_alloc w _
  have X0 : Hid ((w.alloc (.cells #[.int .i64 153, .int .i64 158, .int .i64 159, .int .i64 164, .int .i64 165, .int .i64 166, .int .i64 167, .int .i64 198, .int .i64 199] 3)).heap[w.heap.size]? = some (.cells #[.int .i64 153, .int .i64 158, .int .i64 159, .int .i64 164, .int .i64 165, .int .i64 166, .int .i64 167, .int .i64 198, .int .i64 199] 3 (0, 0))) := heap_alloc_new _ _
  go_enter Try.func8, Try.ntmps8
  go_wp2_with fail
  generalize w.alloc (.cells #[.int .i64 153, .int .i64 158, .int .i64 159, .int .i64 164, .int .i64 165, .int .i64 166, .int .i64 167, .int .i64 198, .int .i64 199] 3) = w1 at *
  refine (GW.out op 8 (by omega) w1).mono ?_
  rintro e w2 ⟨⟨j, hj, rfl⟩, hww⟩; cases hww
  obtain ⟨k, hk6, hc⟩ : ∃ k, kd k = 6 ∧ w1.cell? ⟨w.heap.size, j, none⟩ = some (.int .i64 k) := by
    have hb := List.all_eq_true.1 brs_kd
    have : ∃ k, brs[j]? = some k := ⟨brs[j]'(by simp [brs]; omega), List.getElem?_eq_getElem _⟩
    obtain ⟨k, hkj⟩ := this
    refine ⟨k, by simpa using hb k (List.mem_of_getElem? hkj), ?_⟩
    refine cell_row X0.out j ?_
    have : (#[Value.int .i64 153, .int .i64 158, .int .i64 159, .int .i64 164, .int .i64 165, .int .i64 166, .int .i64 167, .int .i64 198, .int .i64 199] : Array Value) = (brs.map (Value.int .i64)).toArray := rfl
    rw [this]
    simp [hkj]
  have hj' : (j : Int) ≤ 8 := by omega
  clear X0
  go_wp2_with fail
  refine (GW.out from_ 200 (by omega) w1).mono ?_
  rintro e w2 ⟨⟨n, hn, rfl⟩, hww⟩; cases hww
  go_wp2_with fail
  refine (GW.out to_ 1000 (by omega) w1).mono ?_
  rintro e w2 ⟨⟨t, ht, rfl⟩, hww⟩; cases hww
  clear GW hc hj'
  go_wp2_with fail
  go_loopw [11, 12] (fun x j_ wr => ∃ j : Nat, j_ = .int .i64 (j : Int) ∧ j ≤ n ∧ wr.ownsRow w.heap.size 33 4 x j (icells (nopsF 0 j)) ∧ Below w.heap.size w wr) (fun _ j_ _ => n - (intOf j_).toNat)
  case atStart => exact ⟨0, rfl, Nat.zero_le _, World.ownsRow_nil _ _ _ _, B0.out⟩
  case round =>
    clear B0
    obtain ⟨j, rfl, hjn, ho, hb⟩ := hrel
    obtain ⟨aox, capx, rfl⟩ := own_slice ho
    by_cases hlt : j < n
    · have hlt' : (j : Int) < (n : Int) := by omega
      have G1 := hidIt (i_any ⟨(j : Int), 0, 0, 0⟩ wr)
      unfold IN.val at G1
      have HO := hidIt ho
      have HB := hidIt hb
      clear ho hb
      go_wp2_with fail
      refine G1.out.mono ?_
      rintro e w2 ⟨rfl, b2⟩
      have B2 := hidIt (HB.out.trans (b2.mono HB.out.size))
      have O2 := own_alloc (own_below HO.out b2) (.cells #[.int .i64 (j : Int), .int .i64 0, .int .i64 0, .int .i64 0] 33)
      have V2 := IView.laid1 w2 ⟨(j : Int), 0, 0, 0⟩
      have z2 := B2.out.size
      clear b2 G1
      go_wp2_with (at_builtin; refine wpList_iappend rfl _ _ rfl w.heap.size _ _ _ _ [⟨(j : Int), 0, 0, 0⟩] rfl O2 rfl V2 (by simp; omega) (by simp; omega) ?_; intro v3 w3 ho3 st3; obtain ⟨ao3, cap3, rfl⟩ := own_slice ho3; have HS3 := hidIt (of_alloc st3); have HO3 := hidIt ho3; clear st3 ho3 V2 O2)
      have O3 := HO3.out
      have hb3 := B2.out.trans (HS3.out.below z2 (fun k hk => (HO.out.lt k hk).1))
      refine ⟨⟨j + 1, by go_num, by omega, ?_, hb3⟩, by simp [intOf]; omega⟩
      rw [nopsF, icells_append, Nat.zero_add]
      exact O3
    · have hlt' : ¬ (j : Int) < (n : Int) := by omega
      obtain rfl : j = n := by omega
      have G1 := hidIt (i_any ⟨(j : Int), k, t, 0⟩ wr)
      unfold IN.val at G1
      have HO := hidIt ho
      have HB := hidIt hb
      clear ho hb hlt'
      go_wp2_with fail
      refine G1.out.mono ?_
      rintro e w2 ⟨rfl, b2⟩
      have B2 := hidIt (HB.out.trans (b2.mono HB.out.size))
      have O2 := own_alloc (own_below HO.out b2) (.cells #[.int .i64 (j : Int), .int .i64 k, .int .i64 (t : Int), .int .i64 0] 33)
      have V2 := IView.laid1 w2 ⟨(j : Int), k, t, 0⟩
      have z2 := B2.out.size
      clear b2 G1
      go_wp2_with (at_builtin; refine wpList_iappend rfl _ _ rfl w.heap.size _ _ _ _ [⟨(j : Int), k, t, 0⟩] rfl O2 rfl V2 (by simp; omega) (by simp; omega) ?_; intro v3 w3 ho3 st3; obtain ⟨ao3, cap3, rfl⟩ := own_slice ho3; have HS3 := hidIt (of_alloc st3); have HO3 := hidIt ho3; clear st3 ho3 V2 O2)
      have O3 : w3.ownsRow w.heap.size 33 4 (.slice ao3 (j + 1) cap3) (j + 1) (icells (nopsF 0 j ++ [⟨(j : Int), k, t, 0⟩])) := by
        rw [icells_append]; exact HO3.out
      have B3 := hidIt (B2.out.trans (HS3.out.below z2 (fun k hk => (HO.out.lt k hk).1)))
      obtain ⟨g, rfl⟩ : ∃ g, ao3 = some ⟨g, 0, none⟩ := by
        rcases O3.2 with ⟨_, h0⟩ | ⟨g, cap, cur, e, _⟩
        · omega
        · cases e; exact ⟨g, rfl⟩
      have hnl := nopsF_len 0 j
      have hll : (nopsF 0 j ++ [(⟨(j : Int), k, t, 0⟩ : IN)]).length = j + 1 := by simp [hnl]
      have I3 : IView w3 (.slice (some ⟨g, 0, none⟩) (j + 1) cap3) (nopsF 0 j ++ [⟨(j : Int), k, t, 0⟩]) := IView.of_own (by rw [hll]; exact O3)
      have he := enc_br j k t hk6 hn
      rw [if_pos (by omega)] at he
      have hd := back2 _ _ he
      have hab : AllBytes (encL (nopsF 0 j ++ [⟨(j : Int), k, t, 0⟩]) []).1 := enc_bytes _ _ AllBytes.nil
      rw [he] at hab
      have g4 := encode_any _ _ w3 I3 (by rw [hll]; omega)
      rw [he] at g4
      have G4 := hidIt g4
      have HX := hidIt O3
      have HAB := hidIt hab
      have HD := hidIt hd
      generalize List.replicate j 0 ++ oneB ⟨(j : Int), k, t, 0⟩ = bb at *
      simp only at HAB
      clear g4 hab hd he O3 I3 HO3 HS3 B2 HO HB
      refine G4.out.mono ?_
      rintro e w4 ⟨b4, v4, rfl, o4⟩
      have V4 := View.of_own o4 HAB.out
      have g5 := decode_any _ bb w4 V4
      rw [HD.out] at g5
      rw [hll] at g5
      have G5 := hidIt g5
      have B4 := hidIt (B3.out.trans (b4.mono B3.out.size))
      have X4 := hidIt (own_below HX.out b4)
      obtain ⟨ao4, cap4, rfl⟩ := own_slice o4
      clear G4 b4 o4 V4 g5 HAB HD HX B3
      go_wp2_with fail
      refine G5.out.mono ?_
      rintro e w5 ⟨b5, v5, rfl, o5⟩
      have B5 := hidIt (B4.out.trans (b5.mono B4.out.size))
      have X5 := hidIt (own_below X4.out b5)
      obtain ⟨g5, cap5, hv5⟩ : ∃ g5 cap5, v5 = .slice (some ⟨g5, 0, none⟩) (j + 1) cap5 := by
        rcases o5.2 with ⟨_, h0⟩ | ⟨g, cap, cur, e, _⟩
        · omega
        · exact ⟨g, cap, e⟩
      rw [hv5] at o5
      obtain ⟨⟨m0, m1, m2, m3⟩, mf⟩ := own_cells hnl o5
      obtain ⟨N1, hN1⟩ : ∃ N1, N1 = j + 1 := ⟨_, rfl⟩
      rw [← hN1] at hv5
      subst hv5
      have hj0 : (j : Int) < (N1 : Int) := by omega
      have hjb : (j : Int) ≤ 200 := by omega
      have hwj : IntKind.i64.wrap ((j : Int) + 1) = (j : Int) + 1 := by rw [IntKind.wrap_i64]; omega
      have hcast : ((N1 : Int) != (j : Int) + 1) = false := by rw [hN1]; simp
      clear hN1 o5
      have hm5 : g5 < w5.heap.size := cell_lt m0
      clear G5 b5 B4 X4 mf
      have hS2 : Hid (w5.drew.cell? ⟨g5, j * 4, none⟩ = some (.int .i64 (j : Int)) ∧ w5.drew.cell? ⟨g5, j * 4 + 1, none⟩ = some (.int .i64 k) ∧ w5.drew.cell? ⟨g5, j * 4 + 2, none⟩ = some (.int .i64 (t : Int)) ∧ w5.drew.cell? ⟨g5, j * 4 + 3, none⟩ = some (.int .i64 0)) := ⟨m0, m1, m2, m3⟩
      have hS3 : Hid (∀ W3, Below w5.drew.heap.size w5.drew W3 → (W3.cell? ⟨g5, j * 4, none⟩ = some (.int .i64 (j : Int)) ∧ W3.cell? ⟨g5, j * 4 + 1, none⟩ = some (.int .i64 k) ∧ W3.cell? ⟨g5, j * 4 + 2, none⟩ = some (.int .i64 (t : Int)) ∧ W3.cell? ⟨g5, j * 4 + 3, none⟩ = some (.int .i64 0))) := by
        intro W3 h
        exact ⟨cell_later h m0, cell_later h m1, cell_later h m2, cell_later h m3⟩
      have GI := hidIt (i_any ⟨(j : Int), k, t, 0⟩ w5.drew)
      unfold IN.val at GI
      have GB := hidIt (fun W => branch_any k W)
      rw [decide_eq_true hk6] at GB
      clear m0 m1 m2 m3
      go_wp2_with fail
      go_region_held3 (fun W => W.cell? ⟨g5, j * 4, none⟩ = some (.int .i64 (j : Int)) ∧ W.cell? ⟨g5, j * 4 + 1, none⟩ = some (.int .i64 k) ∧ W.cell? ⟨g5, j * 4 + 2, none⟩ = some (.int .i64 (t : Int)) ∧ W.cell? ⟨g5, j * 4 + 3, none⟩ = some (.int .i64 0)) (first | exact hS2.out | exact hS3.out _ (by assumption))
        (first
          | (go_at_call 19; refine GI.out.mono ?_; rintro e w6 ⟨rfl, b6⟩)
          | (go_at_call 13; refine (GB.out _).mono ?_; rintro e w7 ⟨rfl, hww⟩; cases hww))
      have B6 := hidIt ((below_drewN B5.out 1).trans (b6.mono (below_drewN B5.out 1).size))
      have X6 := hidIt (own_below (own_below X5.out (below_drewN (Below.refl _ w5) 1)) b6)
      clear b6 B5 X5 hS2 hS3 GI GB hcast hj0
      have Y1 := hidIt (own_setA ((j : Int) + 32768) hnl X6.out)
      have C1 := hidIt (set_below B6.out (X6.out.lt g rfl).1 (j * 4 + 2) (.int .i64 ((j : Int) + 32768)))
      obtain ⟨⟨p0, p1, p2, p3⟩, pf⟩ := own_cells hnl X6.out
      have he1 := enc_br j k ((j : Int) + 32768) hk6 hn
      rw [if_neg (by omega)] at he1
      have HE1 := hidIt he1
      clear he1
      go_wp2_with fail
      generalize w6.setCell ⟨g, j * 4 + 2, none⟩ (.int .i64 ((j : Int) + 32768)) = s1 at *
      have GE1 := encode_any _ (nopsF 0 j ++ [⟨(j : Int), k, (j : Int) + 32768, 0⟩]) s1 (IView.of_own (by rw [show (nopsF 0 j ++ [(⟨(j : Int), k, (j : Int) + 32768, 0⟩ : IN)]).length = j + 1 by simp [hnl]]; exact Y1.out)) (by rw [show (nopsF 0 j ++ [(⟨(j : Int), k, (j : Int) + 32768, 0⟩ : IN)]).length = j + 1 by simp [hnl]]; omega)
      rw [HE1.out] at GE1
      have GH1 := hidIt GE1
      clear p0 p1 p2 p3 pf GE1 HE1
      refine GH1.out.mono ?_
      rintro e w7 ⟨bb1, u1, rfl, ou1⟩
      have D1 := hidIt (C1.out.trans (bb1.mono C1.out.size))
      have Z1 := hidIt (own_below Y1.out bb1)
      obtain ⟨aou1, capu1, rfl⟩ := own_slice ou1
      clear bb1 ou1 GH1 Y1 C1
      have Y2 := hidIt (own_setA ((j : Int) - 32769) hnl Z1.out)
      have C2 := hidIt (set_below D1.out (Z1.out.lt g rfl).1 (j * 4 + 2) (.int .i64 ((j : Int) - 32769)))
      obtain ⟨⟨p0, p1, p2, p3⟩, pf⟩ := own_cells hnl Z1.out
      have he2 := enc_br j k ((j : Int) - 32769) hk6 hn
      rw [if_neg (by omega)] at he2
      have HE2 := hidIt he2
      clear he2
      go_wp2_with fail
      generalize w7.setCell ⟨g, j * 4 + 2, none⟩ (.int .i64 ((j : Int) - 32769)) = s2 at *
      have GE2 := encode_any _ (nopsF 0 j ++ [⟨(j : Int), k, (j : Int) - 32769, 0⟩]) s2 (IView.of_own (by rw [show (nopsF 0 j ++ [(⟨(j : Int), k, (j : Int) - 32769, 0⟩ : IN)]).length = j + 1 by simp [hnl]]; exact Y2.out)) (by rw [show (nopsF 0 j ++ [(⟨(j : Int), k, (j : Int) - 32769, 0⟩ : IN)]).length = j + 1 by simp [hnl]]; omega)
      rw [HE2.out] at GE2
      have GH2 := hidIt GE2
      clear p0 p1 p2 p3 pf GE2 HE2
      refine GH2.out.mono ?_
      rintro e w8 ⟨bb2, u2, rfl, ou2⟩
      have D2 := hidIt (C2.out.trans (bb2.mono C2.out.size))
      have Z2 := hidIt (own_below Y2.out bb2)
      obtain ⟨aou2, capu2, rfl⟩ := own_slice ou2
      clear bb2 ou2 GH2 Y2 C2
      have Y3 := hidIt (own_setA ((j : Int) - 32768) hnl Z2.out)
      have C3 := hidIt (set_below D2.out (Z2.out.lt g rfl).1 (j * 4 + 2) (.int .i64 ((j : Int) - 32768)))
      obtain ⟨⟨p0, p1, p2, p3⟩, pf⟩ := own_cells hnl Z2.out
      have he3 := enc_br j k ((j : Int) - 32768) hk6 hn
      rw [if_pos (by omega)] at he3
      have HE3 := hidIt he3
      clear he3
      go_wp2_with fail
      generalize w8.setCell ⟨g, j * 4 + 2, none⟩ (.int .i64 ((j : Int) - 32768)) = s3 at *
      have GE3 := encode_any _ (nopsF 0 j ++ [⟨(j : Int), k, (j : Int) - 32768, 0⟩]) s3 (IView.of_own (by rw [show (nopsF 0 j ++ [(⟨(j : Int), k, (j : Int) - 32768, 0⟩ : IN)]).length = j + 1 by simp [hnl]]; exact Y3.out)) (by rw [show (nopsF 0 j ++ [(⟨(j : Int), k, (j : Int) - 32768, 0⟩ : IN)]).length = j + 1 by simp [hnl]]; omega)
      rw [HE3.out] at GE3
      have GH3 := hidIt GE3
      clear p0 p1 p2 p3 pf GE3 HE3
      refine GH3.out.mono ?_
      rintro e w9 ⟨bb3, u3, rfl, ou3⟩
      have D3 := hidIt (C3.out.trans (bb3.mono C3.out.size))
      have Z3 := hidIt (own_below Y3.out bb3)
      obtain ⟨aou3, capu3, rfl⟩ := own_slice ou3
      clear bb3 ou3 GH3 Y3 C3
      have GK := hidIt (known_any w9)
      clear Z3
      go_wp2_with fail
      refine GK.out.mono ?_
      rintro e w10 ⟨rfl, b10⟩
      have D4 := hidIt (D3.out.trans (b10.mono D3.out.size))
      clear b10 GK
      go_wp2
      go_ret
      exact ⟨rfl, D4.out⟩
end Go.Proofs.Ytcmneinhcfejhaa
