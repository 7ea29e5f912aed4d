/- MutfNumbers, walked: it answers true in whatever world that holds the library's tables. -/
import Derived.Test.YtnnoifofgbibmaaDoorRdN
namespace Go.Proofs.YtnnoifofgbibmaaDoor
open Go.RowKit

theorem IsR.wstep {pr pw a : Nat} {v v' u : Value} {w w' : World} {l m : List Int} {y : Int} {B : Nat} (h : IsR pr w u l a y) (hw : IsW B pw w v m) (st : WStep pw v w v' w') (hp : pr ≠ pw) (hv : some pr ≠ v.ownBlock)
    (hg : ∀ g off, Lies w g off l → l ≠ [] → some g ≠ v.ownBlock) : IsR pr w' u l a y := by
  have hb : w'.heap[pr]? = w.heap[pr]? := st.block pr h.lt hp hv
  refine ⟨hb.trans h.blk, ?_, h.le⟩
  obtain ⟨ao, cap, rfl, hc, hm, hy, hl⟩ := h.view
  refine ⟨ao, cap, rfl, hc, hm, hy, ?_⟩
  rcases hl with h' | ⟨g, off, e, hl⟩
  · exact .inl h'
  · by_cases hne : l = []
    · exact .inl hne
    · refine .inr ⟨g, off, e, fun j x hj => ?_⟩
      have hlt : g < w.heap.size := World.block_lt_of_cell? w ⟨g, off + j, none⟩ (hl j x hj)
      have hgp : g ≠ pw := by
        rintro rfl
        have h2 := hl j x hj
        obtain ⟨ao2, cap2, rfl⟩ := own_slice hw.own
        rw [cell_of_row w g (off + j) _ 71 (0, 0) hw.at_] at h2
        rcases hoj : off + j with _ | k
        · rw [hoj] at h2; simp at h2
        · rw [hoj] at h2; simp at h2
      rw [World.cell?_of_block (a := ⟨g, off + j, none⟩) (st.block g hlt hgp (hg g off hl hne))]
      exact hl j x hj
theorem IsW.only {B pw pr : Nat} {w w' : World} {v : Value} {l : List Int} {cs : Array Value} {fz : Nat × Nat} (h : IsW B pw w v l) (ho : Only pr w w') (hr : w.heap[pr]? = some (.cells cs 74 fz)) : IsW B pw w' v l := by
  have h1 : pw ≠ pr := by
    rintro rfl
    rw [h.at_] at hr; simp at hr
  refine ⟨(ho.block pw h.lt h1).trans h.at_, h.own.1, ?_⟩
  rcases h.own.2 with h2 | ⟨g, cap, cur, e, hB, hg, r⟩
  · exact .inl h2
  · refine .inr ⟨g, cap, cur, e, hB, ?_, r⟩
    rw [ho.block g (Array.getElem?_eq_some_iff.1 hg).1 (by rintro rfl; rw [hg] at hr; simp at hr)]
    exact hg
theorem IsR.only {pr pq a a' : Nat} {u u' : Value} {w w' : World} {l l' : List Int} {y y' : Int} (h : IsR pq w u l a y) (hr : IsR pr w u' l' a' y') (ho : Only pr w w') (hp : pq ≠ pr) : IsR pq w' u l a y := by
  refine ⟨(ho.block pq h.lt hp).trans h.blk, h.view.only ho ?_, h.le⟩
  intro g off hl hne
  rintro rfl
  obtain ⟨x, t, rfl⟩ := List.exists_cons_of_ne_nil hne
  have := hl 0 x rfl
  rw [cell_of_row w g (off + 0) _ 74 (0, 0) hr.blk] at this
  obtain ⟨ao, cap, rfl, _⟩ := hr.view
  match off, this with
  | 0, this => simp at this
  | 1, this => simp at this
  | 2, this => simp at this
  | k + 3, this => simp at this

theorem dec_c1 : decL [193, 129] = none := by decide +kernel
theorem dec_ed : decL [237, 160, 128] = none := by decide +kernel
theorem dec_nil : decL [] = some [] := rfl
theorem valid_ff : Lib.validD (ByteArray.mk #[255]).data.toList = false := by decide +kernel
theorem wtext_ff : wtextZ ⟨#[255]⟩ = [0, 0] := by unfold wtextZ; rw [if_neg (by rw [valid_ff]; simp)]; rfl
theorem rtext_r : rtext [0, 1, 97, 7] 0 0 = (⟨#[97]⟩, 3, 0) := by
  rw [rtext_some (xs := [97]) (bs := [0, 1]) (a1 := 2) (y1 := 0) (us := [97]) (a2 := 3) (y2 := 0) (by decide +kernel) (by decide +kernel) (by decide +kernel)]; rfl
theorem rtext_q : rtext [0, 2, 97] 0 0 = (⟨#[]⟩, 3, 10) := by
  rw [rtext_some (xs := []) (bs := [0, 2]) (a1 := 2) (y1 := 0) (us := []) (a2 := 3) (y2 := 10) (by decide +kernel) (by decide +kernel) (by decide +kernel)]; rfl
theorem be_m2 : be (-2) (min (max (9 : Int) 1) 8).toNat = [255, 255, 255, 255, 255, 255, 255, 254] := by decide +kernel
theorem be_258 : be 258 (min (max (1 : Int) 1) 8).toNat = [2] := by decide +kernel

theorem below_drewN {B : Nat} {a w : World} (h : Below B a w) (q : Nat) : Below B a (w.drewN q) := ⟨h.os, h.tape, h.output, h.size, h.block⟩
theorem IsR.drewN {pr a : Nat} {u : Value} {w : World} {l : List Int} {y : Int} (h : IsR pr w u l a y) (q : Nat) : IsR pr (w.drewN q) u l a y := ⟨h.blk, h.view, h.le⟩
theorem IsW.drewN {B pw : Nat} {w : World} {v : Value} {l : List Int} (h : IsW B pw w v l) (q : Nat) : IsW B pw (w.drewN q) v l := ⟨h.at_, h.own⟩

set_option maxHeartbeats 4000000 in
theorem numbers_any (w : World) (hT : Tabs w) : Calls Tryd.prog 3 #[] w fun e w' => e = .returned (.bool true) ∧ Below w.heap.size w w' := by
  go_enter Tryd.func3, Tryd.ntmps3
  go_wp2_with fail
  refine (decode_any _ [193, 129] _ (View.laid w [193, 129] (by unfold AllBytes; decide) (by unfold maxLen; decide)) (by decide)).mono ?_
  rw [dec_c1]
  rintro e w1 ⟨b1, h1⟩
  obtain rfl : e = .returned (.tuple #[.string ⟨#[]⟩, .int .i64 12]) := by
    rcases h1 with ⟨xs, h, _⟩ | ⟨_, h⟩
    · cases h
    · exact h
  have B1 : Below w.heap.size w w1 := ((Below.refl _ _).alloc (Nat.le_refl _) _).trans (b1.mono (by simp))
  clear h1 b1
  have z1 := B1.size
  go_wp2_with fail
  refine (decode_any _ [237, 160, 128] _ (View.laid w1 [237, 160, 128] (by unfold AllBytes; decide) (by unfold maxLen; decide)) (by decide)).mono ?_
  rw [dec_ed]
  rintro e w2 ⟨b2, h2⟩
  obtain rfl : e = .returned (.tuple #[.string ⟨#[]⟩, .int .i64 12]) := by
    rcases h2 with ⟨xs, h, _⟩ | ⟨_, h⟩
    · cases h
    · exact h
  have B2 : Below w.heap.size w w2 := B1.trans ((((Below.refl _ _).alloc (Nat.le_refl _) _).trans (b2.mono (by simp))).mono z1)
  clear h2 b2 B1 z1
  have z2 := B2.size
  go_wp2_with fail
  refine (encode_no ⟨#[255]⟩ w2 (hT.below B2) (by decide) valid_ff).mono ?_
  rintro e w3 ⟨rfl, b3⟩
  have B3 : Below w.heap.size w w3 := B2.trans (b3.mono z2)
  clear b3 B2 z2
  have z3 := B3.size
  go_wp2_with fail
  refine (decode_any _ [] w3 (View.empty w3) (by decide)).mono ?_
  rw [dec_nil]
  rintro e w4 ⟨b4, h4⟩
  obtain rfl : e = .returned (.tuple #[.string ⟨#[]⟩, .int .i64 0]) := by
    rcases h4 with ⟨xs, h, h'⟩ | ⟨h, _⟩
    · cases h; exact h'
    · cases h
  have B4 : Below w.heap.size w w4 := B3.trans (b4.mono z3)
  clear b4 B3 z3 h4
  have z4 := B4.size
  go_wp2_with fail
  refine (newW_any w4).mono ?_
  rintro e w5 ⟨rfl, hw5⟩
  have W5 : IsW 0 w4.heap.size w5 (.slice none 0 0) [] := by rw [hw5]; exact newW_is w4 0
  have b5 : Below w4.heap.size w4 w5 := by rw [hw5]; exact (Below.refl _ _).alloc (Nat.le_refl _) _
  have s5 : w4.heap.size < w5.heap.size := W5.lt
  clear hw5
  generalize hpw : w4.heap.size = pw at *
  have B5 : Below w.heap.size w w5 := B4.trans (b5.mono (by omega))
  clear b5 B4 hpw
  go_wp2_with fail
  refine (newR_any _ [0, 1, 97, 7] _ (View.laid w5 [0, 1, 97, 7] (by unfold AllBytes; decide) (by unfold maxLen; decide)) (by decide)).mono ?_
  rintro e w6 ⟨b6, pr, vr, rfl, hpr, R6, -⟩
  have b56 : Below w5.heap.size w5 w6 := ((Below.refl _ _).alloc (Nat.le_refl _) _).trans (b6.mono (by simp))
  have W6 := W5.below b56
  have hpr5 : w5.heap.size < pr := by simp at hpr; omega
  have B6 : Below w.heap.size w w6 := B5.trans (b56.mono (by omega))
  clear b6 b56 B5 W5 hpr
  go_wp2_with fail
  refine (newR_any _ [0, 2, 97] _ (View.laid w6 [0, 2, 97] (by unfold AllBytes; decide) (by unfold maxLen; decide)) (by decide)).mono ?_
  rintro e w7 ⟨b7, pq, vq, rfl, hpq, Q7, -⟩
  have b67 : Below w6.heap.size w6 w7 := ((Below.refl _ _).alloc (Nat.le_refl _) _).trans (b7.mono (by simp))
  have W7 := W6.below b67
  have R7 := R6.below b67
  have hpr6 := R6.lt
  have hpq6 : w6.heap.size < pq := by simp at hpq; omega
  have z6 := B6.size
  have B7 : Below w.heap.size w w7 := B6.trans (b67.mono z6)
  clear b7 b67 B6 W6 R6 hpq z6
  go_wp2_with fail
  have z7 := B7.size
  refine (wnum_any 0 pw _ [] (-2) 9 w7 W7 (Nat.zero_le _) (by decide)).mono ?_
  rw [be_m2]
  rintro e w8 ⟨rfl, v8, W8, st8⟩
  have hpw7 := W7.lt
  have b78 : Below w.heap.size w7 w8 := ⟨st8.os, st8.tape, st8.output, st8.size, fun k hk => st8.block k (by omega) (by omega) (by simp [Value.ownBlock])⟩
  have B8 := B7.trans b78
  clear b78
  go_wp2_with fail
  refine (wtext_any 0 pw v8 _ ⟨#[255]⟩ w8 W8 (Nat.zero_le _) (by decide) (hT.below B8) (by decide)).mono ?_
  rw [wtext_ff]
  rintro e w9 ⟨rfl, v9, W9, st9⟩
  go_wp2_with fail
  refine (wnum_any 0 pw v9 _ 258 1 w9 W9 (Nat.zero_le _) (by decide)).mono ?_
  rw [be_258]
  rintro e w10 ⟨rfl, v10, W10, st10⟩
  have st := st8.trans (st9.trans st10)
  clear st8 st9 st10 B8 W8 W9
  have hpq7 := Q7.lt
  have R10 := R7.wstep W7 st (by omega) (by simp [Value.ownBlock]) (fun g off _ _ => by simp [Value.ownBlock])
  have Q10 := Q7.wstep W7 st (by omega) (by simp [Value.ownBlock]) (fun g off _ _ => by simp [Value.ownBlock])
  have B10 : Below w.heap.size w w10 := B7.trans ⟨st.os, st.tape, st.output, st.size, fun k hk => st.block k (by omega) (by omega) (by simp [Value.ownBlock])⟩
  have hpq10 := Q10.lt
  clear st B7 R7 Q7 W7 z7
  have z10 := B10.size
  go_wp2_with fail
  refine (rtext_any pr vr _ 0 0 w10 R10).mono ?_
  rw [rtext_r]
  rintro e w11 ⟨rfl, R11, o11⟩
  simp only at R11
  have W11 := W10.only o11 R10.blk
  have Q11 := Q10.only R10 o11 (by omega)
  have B11 := B10.trans (o11.below z10 (by omega))
  clear o11 B10 W10 Q10 R10 z10
  have z11 := B11.size
  go_wp2_with fail
  refine (rbytes_any pr vr _ 3 0 (-1) w11 R11 (by decide)).mono ?_
  rw [show tk [0, 1, 97, 7] 3 0 (-1) = ([], 3, 0) by decide +kernel]
  rintro e w12 ⟨v12, rfl, ow12, R12, o12⟩
  simp only at R12 ow12
  obtain ⟨ao12, cap12, rfl⟩ := own_slice ow12
  have W12 := W11.only o12 R11.blk
  have Q12 := Q11.only R11 o12 (by omega)
  have B12 := B11.trans (o12.below z11 (by omega))
  clear o12 B11 W11 Q11 R11 z11 ow12
  have z12 := B12.size
  go_wp2_with fail
  refine (rtext_any pq vq _ 0 0 w12 Q12).mono ?_
  rw [rtext_q]
  rintro e w13 ⟨rfl, Q13, o13⟩
  simp only at Q13
  have W13 := W12.only o13 Q12.blk
  have R13 := R12.only Q12 o13 (by omega)
  have B13 := B12.trans (o13.below z12 (by omega))
  clear o13 B12 W12 Q12 R12 z12
  go_wp2_with fail
  refine (end_any pq vq _ 3 10 w13 Q13).mono ?_
  rw [show endZ [0, 2, 97] 3 10 = (10, 3) by decide +kernel]
  rintro e w14 ⟨rfl, q14, rfl⟩
  go_wp2_with fail
  refine (end_any pr vr _ 3 0 _ (R13.drewN q14)).mono ?_
  rw [show endZ [0, 1, 97, 7] 3 0 = (11, 3) by decide +kernel]
  rintro e w15 ⟨rfl, q15, rfl⟩
  go_wp2_with fail
  have R15 := R13.drewN (q14 + q15)
  have W15 := W13.drewN (q14 + q15)
  have B15 := below_drewN B13 (q14 + q15)
  clear R13 W13 B13 Q13
  refine (fail_any pr vr _ 3 0 23 _ R15).mono ?_
  rw [if_pos rfl]
  rintro e w16 ⟨rfl, R16, o16⟩
  have W16 := W15.only o16 R15.blk
  have B16 := B15.trans (o16.below B15.size (by omega))
  clear o16 R15 W15 B15
  go_wp2_with fail
  refine (end_any pr vr _ 3 23 _ R16).mono ?_
  rw [show endZ [0, 1, 97, 7] 3 23 = (23, 3) by decide +kernel]
  rintro e w17 ⟨rfl, q17, rfl⟩
  have W17 := W16.drewN q17
  have B17 := below_drewN B16 q17
  clear R16 W16 B16
  go_wp2_with fail
  refine (done_any 0 pw v10 _ _ W17 (by unfold AllBytes; decide) (by decide)).mono ?_
  rintro e w18 ⟨b18, v18, rfl, o18⟩
  have hs18 := run_string (View.of_own (l := [255, 255, 255, 255, 255, 255, 255, 254, 0, 0, 2]) o18 (by unfold AllBytes; decide))
  rw [show strOfNums [255, 255, 255, 255, 255, 255, 255, 254, 0, 0, 2] = ⟨#[255, 255, 255, 255, 255, 255, 255, 254, 0, 0, 2]⟩ from rfl] at hs18
  have B18 : Below w.heap.size w w18 := B17.trans (b18.mono B17.size)
  clear b18 B17 W17 o18
  go_wp2_with fail
  refine (known_any w18 (hT.below B18)).mono ?_
  rintro e w19 ⟨rfl, b19⟩
  go_wp2
  go_ret
  exact ⟨rfl, B18.trans (b19.mono B18.size)⟩
end Go.Proofs.YtnnoifofgbibmaaDoor
