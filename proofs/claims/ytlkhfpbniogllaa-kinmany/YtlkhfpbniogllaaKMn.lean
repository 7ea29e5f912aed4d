/- KinMany. -/
import Derived.Test.YtlkhfpbniogllaaKMp
import Derived.Test.YtlkhfpbniogllaaKK
namespace Go.Proofs.Ytlkhfpbniogllaa.K
open Go.RowKit Q Q.D

theorem get_of_none {R : List Mem} {s : ByteArray} (h : (kfind (R.map Mem.k) s).isNone = true) : mfind R s = none := by
  rw [← mfind_k] at h
  cases hm : mfind R s with
  | none => rfl
  | some m => rw [hm] at h; simp at h

theorem km_small (a : Nat) : ∀ k ∈ KM a, KSm k := by
  intro k hk
  rcases List.mem_append.1 hk with h | h
  · simp only [List.mem_reverse, List.mem_map] at h
    obtain ⟨j, _, rfl⟩ := h
    exact plain_small _ _
  · exact given_small k (by simpa using h)

set_option maxRecDepth 8000 in
set_option maxHeartbeats 8000000 in
theorem many_any (n : Int) (w : World) : Calls Try.prog 5 #[.int .i64 n] w fun e w' => e = .returned (.bool true) ∧ Below w.heap.size w w' := by
  go_enter Try.func5, Try.ntmps5
  go_wp2_with fail
  refine (new_any w).mono ?_
  rintro e w1 ⟨pk, mb, v, R, rfl, KO, hR, B1⟩
  have hR' : R.map Mem.k = KM 0 := by rw [← List.reverse_reverse (R.map Mem.k), ← List.map_reverse, hR]; rfl
  have hlenR : R.length = 13 := by have := congrArg List.length hR'; rw [List.length_map] at this; exact this
  obtain ⟨ao, c, hv, V⟩ := KO.view
  have N1 := D.hidIt (names_any w1 pk R mb ao c V (by omega))
  rw [hlenR] at N1
  have HL := D.hidIt hlenR
  clear hR hlenR hv V
  go_wp2_with fail
  refine (within_any n 30 (by omega) w1).mono ?_
  rintro e w1' ⟨⟨nn, hnn, rfl⟩, hww⟩
  cases hww
  go_wp2_with fail
  refine N1.out.mono ?_
  rintro e w2 ⟨b2, v2, rfl, ho2⟩
  obtain ⟨g2, c2, rfl⟩ := own_form ho2 (by omega)
  have KO2 := KO.below b2
  have B2 := next B1 b2
  clear ho2 N1 KO
  go_wp2_with fail
  go_loopw [5] (fun iv wr => ∃ (i : Nat) (v : Value) (R : List Mem), iv = .int .i64 (i : Int) ∧ i ≤ nn ∧ KinO w.heap.size wr pk mb v R ∧ R.map Mem.k = KM (min i 19) ∧ Below w.heap.size w wr) (fun iv _ => nn - (intOf iv).toNat)
  case atStart => exact ⟨0, v, R, rfl, Nat.zero_le _, KO2, hR', B2⟩
  case round =>
    clear KO2 hR' B2 HL b2 B1
    obtain ⟨i, v, R, rfl, hi, KO, hR, B⟩ := hrel
    by_cases hlt : i < nn
    · have hlt' : (i : Int) < (nn : Int) := by omega
      have hi30 : i < 30 := by omega
      obtain ⟨x, hx⟩ : ∃ x, i % 26 = x := ⟨_, rfl⟩
      obtain ⟨y, hy⟩ : ∃ y, i / 26 = y := ⟨_, rfl⟩
      have e1 : (i : Int).tmod 26 = (x : Int) := by rw [Int.tmod_eq_emod_of_nonneg (by omega)]; omega
      have e2 : (i : Int).tdiv 26 = (y : Int) := by rw [Int.tdiv_eq_ediv_of_nonneg (by omega)]; omega
      have m1 : x ≤ 25 := by omega
      have m2 : y ≤ 25 := by omega
      have hname : (⟨#[67]⟩ ++ ⟨#[UInt8.ofNat (97 + x)]⟩) ++ ⟨#[UInt8.ofNat (97 + y)]⟩ = nameC i := by unfold nameC; rw [hx, hy]
      have HN := D.hidIt hname
      clear hx hy hname
      have m1' : (x : Int) ≤ 25 := by omega
      have m2' : (y : Int) ≤ 25 := by omega
      have L1 := letter_i32 x m1 wr
      have L2 := letter_str x m1 wr
      have L3 := letter_i32 y m2 wr
      have L4 := letter_str y m2 wr
      have hname2 : (({ data := #[67] } ++ { data := #[97 + UInt8.ofNat x] } ++ { data := #[97 + UInt8.ofNat y] } : ByteArray)) = nameC i := by rw [← HN.out]; simp [UInt8.ofNat_add]
      have HN2 := D.hidIt hname2
      clear hname2 HN
      have hns : (nameC i).size ≤ 9223372036854775807 := by have := name_size ⟨i, hi30⟩; simp only at this; omega
      have A := D.hidIt (add_any _ wr pk mb v R KO (cN i) _ (plain_class (nameC i) objectN wr hns (by decide)))
      unfold AddIs at A
      go_wp2_with fail
      simp only [HN2.out]
      clear L1 L2 L3 L4 e1 e2
      refine A.out.mono ?_
      rintro e w4 ⟨rfl, hA⟩
      clear A
      by_cases h19 : i < 19
      · have hmin : min i 19 = i := by omega
        rw [hmin] at hR
        have hz : refZ R (cN i) = 0 := by rw [refZ_k, hR]; exact km_ok ⟨i, h19⟩
        rw [hz] at hA ⊢
        simp only [if_true] at hA
        obtain ⟨v4, bb, KO4, st4⟩ := hA
        have B4 := B.trans (KStep.below KO st4)
        obtain ⟨ao, c, hv4, V4⟩ := KO4.view
        clear hv4
        have hR4 : (⟨cN i, bb⟩ :: R : List Mem).map Mem.k = KM (min (i + 1) 19) := by rw [show min (i + 1) 19 = i + 1 by omega, km_succ, List.map_cons, hR]
        have hsm := small_of_k hR4 (km_small _)
        have hf : mfind (⟨cN i, bb⟩ :: R) (nameC i) = some ⟨cN i, bb⟩ := by
          unfold mfind
          exact if_pos ((MapKept.bytes_beq _ _).2 rfl)
        have hlen : R.length = 13 + i := by have := congrArg List.length hR; rw [List.length_map, km_len] at this; omega
        have G4 := D.hidIt (get_any w4 pk _ mb ao c V4 hsm (nameC i))
        rw [hf] at G4
        have hge : ¬ (32 : Int) ≤ 13 + (i : Int) := by omega
        clear hf hz hsm
        go_wp2_with fail
        refine G4.out.mono ?_
        rintro e w5 ⟨b5, hG⟩
        obtain ⟨u5, rfl, q1, p1, q2, p2, q3, p3, rfl, -⟩ := hG
        clear G4
        have b6 := balloc w5 (.cells #[.string (cN i).nm, .string (cN i).sup, .slice q1 (cN i).pool.length p1, .slice q2 (cN i).fs.length p2, .slice q3 (cN i).ms.length p3] 33)
        have V6 := V4.below (next b5 b6)
        have N6 := D.hidIt (names_any _ pk _ mb ao c V6 (by simp; omega))
        go_wp2_with fail
        generalize w5.alloc (.cells #[.string (cN i).nm, .string (cN i).sup, .slice q1 (cN i).pool.length p1, .slice q2 (cN i).fs.length p2, .slice q3 (cN i).ms.length p3] 33) = W6 at *
        refine N6.out.mono ?_
        rintro e w7 ⟨b7, v7, rfl, ho7⟩
        have hl7 : (⟨cN i, bb⟩ :: R : List Mem).length = 14 + i := by simp; omega
        rw [hl7] at ho7
        obtain ⟨g7, c7, rfl⟩ := own_form ho7 (by omega)
        have hc7 : w7.cell? ⟨g7, 13 + i, none⟩ = some (.string (nameC i)) := by
          rw [ho7.cellAt (13 + i) (by omega)]
          rw [List.reverse_cons, List.map_append, List.getElem?_append_right (by simp; omega)]
          simp [hlen]
          rfl
        have B7 := B4.trans ((next b5 (next b6 b7)).mono B4.size)
        have KO7 := (KO4.below (next b5 b6)).below b7
        clear ho7 hl7 N6 hlen
        have hix : (13 : Int) + (i : Int) < ((14 + i : Nat) : Int) := by omega
        go_wp2
        go_roundw
        case rel => exact ⟨i + 1, _, _, by go_num, by omega, KO7, hR4, B7⟩
        case measure => simp [intOf]; omega
      · have hmin : min i 19 = 19 := by omega
        rw [hmin] at hR
        have hz : refZ R (cN i) = 4 := by
          rw [refZ_k, hR]
          have := km_no ⟨i - 19, by omega⟩
          simp only [show 19 + (i - 19) = i by omega] at this
          exact this
        rw [hz] at hA ⊢
        rw [if_neg (by omega)] at hA
        have KO4 := KO.below hA
        have B4 := next B hA
        obtain ⟨ao, c, hv4, V4⟩ := KO4.view
        clear hv4
        have hsm := small_of_k hR (km_small _)
        have hf : mfind R (nameC i) = none := get_of_none (by
          rw [hR]
          have := km_none ⟨i - 19, by omega⟩
          simp only [show 19 + (i - 19) = i by omega] at this
          exact this)
        have G4 := D.hidIt (get_any w4 pk _ mb ao c V4 hsm (nameC i))
        rw [hf] at G4
        have hge : (32 : Int) ≤ 13 + (i : Int) := by omega
        clear hf hz hsm
        go_wp2_with fail
        refine G4.out.mono ?_
        rintro e w5 ⟨b5, hG⟩
        cases hG
        have b6 := balloc w5 (.cells #[.string ⟨#[]⟩, .string ⟨#[]⟩, .slice none 0 0, .slice none 0 0, .slice none 0 0] 33)
        have KO6 := (KO4.below b5).below b6
        have B6 := B4.trans ((next b5 b6).mono B4.size)
        have hR6 : R.map Mem.k = KM (min (i + 1) 19) := by rw [hR, show min (i + 1) 19 = 19 by omega]
        go_wp2
        go_roundw
        case rel => exact ⟨i + 1, _, _, by go_num, by omega, KO6, hR6, B6⟩
        case measure => simp [intOf]; omega
    · have hlt' : ¬ (i : Int) < (nn : Int) := by omega
      obtain ⟨ao, c, hv, V⟩ := KO.view
      clear hv
      have hlen : R.length ≤ 32 := by have := congrArg List.length hR; rw [List.length_map, km_len] at this; omega
      have hlen' : (R.length : Int) ≤ 32 := by omega
      have N1 := D.hidIt (names_any wr pk R mb ao c V (by omega))
      go_wp2_with fail
      refine N1.out.mono ?_
      rintro e w7 ⟨b7, v7, rfl, ho7⟩
      obtain ⟨a7, c7, e7⟩ : ∃ a c, v7 = .slice a R.length c := by
        rcases ho7.2 with ⟨rfl, h0⟩ | ⟨g, cap, _, rfl, _⟩
        · exact ⟨none, 0, by rw [h0]⟩
        · exact ⟨_, _, rfl⟩
      subst e7
      clear ho7
      go_wp2_with fail
      refine (known_any w7).mono ?_
      rintro e w8 ⟨rfl, b8⟩
      go_wp2
      go_ret
      exact ⟨rfl, B.trans ((next b7 b8).mono B.size)⟩
end Go.Proofs.Ytlkhfpbniogllaa.K
