/- KinFinds. -/
import Derived.Test.YtlkhfpbniogllaaKFp
import Derived.Test.YtlkhfpbniogllaaKK
namespace Go.Proofs.Ytlkhfpbniogllaa.K
open Go.RowKit Q Q.D

theorem kf_small (at_ own a : Nat) : ∀ k ∈ KF at_ own a, KSm k := by
  intro k hk
  rcases List.mem_append.1 hk with h | h
  · simp only [List.mem_reverse, List.mem_map] at h
    obtain ⟨j, _, rfl⟩ := h
    unfold fK
    refine ⟨by simp, ?_, ?_, ?_⟩
    · simp only; split <;> simp
    · simp only; split <;> simp
    · intro m hm
      simp only at hm
      split at hm
      · simp at hm; subst hm; exact ⟨by decide, by decide, by decide, fun r hr => by simp [methF] at hr⟩
      · simp at hm
  · exact given_small k (by simpa using h)

theorem okF_nat {n a o : Nat} (h0 : 0 < n) (h9 : n < 10) (h1 : a < n) (h2 : a ≤ o) (h3 : o < n) : okF n a o = true := okF_all ⟨n, h9⟩ ⟨a, by omega⟩ ⟨o, by omega⟩ h0 h1 h2 h3

theorem nameF_ne9 : ∀ j : Fin 9, ((nameF j.val).toList == ([] : List UInt8)) = false := by decide +kernel
theorem nameF_ne (x : Nat) (h : x < 9) : ((nameF x).toList == ([] : List UInt8)) = false := nameF_ne9 ⟨x, h⟩
def spW (wr : World) (nm sup : ByteArray) (st : Bool) : World :=
  (((wr.alloc (.cells #[.string nm, .string sup, .slice none 0 0, .slice (some ⟨wr.heap.size + 1, 0, none⟩) 1 1, .slice (some ⟨wr.heap.size + 1 + 1 + 1, 0, none⟩) 1 1] 33)).alloc (.cells #[.string ⟨#[102]⟩, .string ⟨#[73]⟩, .bool st] 49)).alloc (.cells #[.int .u8 177] 5)).alloc
    (.cells #[.string ⟨#[109]⟩, .string ⟨#[40, 41, 86]⟩, .bool false, .bool false, .int .i64 0, .int .i64 1, .slice (some ⟨wr.heap.size + 1 + 1, 0, none⟩) 1 1, .slice none 0 0, .slice none 0 0] 43)
theorem sp_class (wr : World) (nm sup : ByteArray) (st : Bool) (h1 : nm.size ≤ 9223372036854775807) (h2 : sup.size ≤ 9223372036854775807) :
    ClassV (spW wr nm sup st) (.agg #[.string nm, .string sup, .slice none 0 0, .slice (some ⟨wr.heap.size + 1, 0, none⟩) 1 1, .slice (some ⟨wr.heap.size + 1 + 1 + 1, 0, none⟩) 1 1]) ⟨nm, sup, [], [⟨⟨#[102]⟩, ⟨#[73]⟩, st⟩], [methF]⟩ ∧ Below wr.heap.size wr (spW wr nm sup st) := by
  have f1 : Blk (spW wr nm sup st) (wr.heap.size + 1) #[.string ⟨#[102]⟩, .string ⟨#[73]⟩, .bool st] 49 := by
    have := Blk.new (wr.alloc (.cells #[.string nm, .string sup, .slice none 0 0, .slice (some ⟨wr.heap.size + 1, 0, none⟩) 1 1, .slice (some ⟨wr.heap.size + 1 + 1 + 1, 0, none⟩) 1 1] 33)) #[.string ⟨#[102]⟩, .string ⟨#[73]⟩, .bool st] 49
    rw [World.size_alloc] at this
    exact (this.alloc _).alloc _
  have f2 : Blk (spW wr nm sup st) (wr.heap.size + 1 + 1) #[.int .u8 177] 5 := by
    have := Blk.new ((wr.alloc (.cells #[.string nm, .string sup, .slice none 0 0, .slice (some ⟨wr.heap.size + 1, 0, none⟩) 1 1, .slice (some ⟨wr.heap.size + 1 + 1 + 1, 0, none⟩) 1 1] 33)).alloc (.cells #[.string ⟨#[102]⟩, .string ⟨#[73]⟩, .bool st] 49)) #[.int .u8 177] 5
    rw [World.size_alloc, World.size_alloc] at this
    exact this.alloc _
  have f3 : Blk (spW wr nm sup st) (wr.heap.size + 1 + 1 + 1) #[.string ⟨#[109]⟩, .string ⟨#[40, 41, 86]⟩, .bool false, .bool false, .int .i64 0, .int .i64 1, .slice (some ⟨wr.heap.size + 1 + 1, 0, none⟩) 1 1, .slice none 0 0, .slice none 0 0] 43 := by
    have := Blk.new (((wr.alloc (.cells #[.string nm, .string sup, .slice none 0 0, .slice (some ⟨wr.heap.size + 1, 0, none⟩) 1 1, .slice (some ⟨wr.heap.size + 1 + 1 + 1, 0, none⟩) 1 1] 33)).alloc (.cells #[.string ⟨#[102]⟩, .string ⟨#[73]⟩, .bool st] 49)).alloc (.cells #[.int .u8 177] 5)) #[.string ⟨#[109]⟩, .string ⟨#[40, 41, 86]⟩, .bool false, .bool false, .int .i64 0, .int .i64 1, .slice (some ⟨wr.heap.size + 1 + 1, 0, none⟩) 1 1, .slice none 0 0, .slice none 0 0] 43
    rw [World.size_alloc, World.size_alloc, World.size_alloc] at this
    exact this
  refine ⟨⟨none, 0, some ⟨wr.heap.size + 1, 0, none⟩, 1, some ⟨wr.heap.size + 1 + 1 + 1, 0, none⟩, 1, rfl, h1, h2, LAt.nil _ _ _ _ _ (by unfold maxLen; omega), ?_, ?_⟩, ?_⟩
  · refine ⟨Nat.le_refl _, by unfold maxLen; omega, fun _ => [.string ⟨#[102]⟩, .string ⟨#[73]⟩, .bool st], fun _ => ⟨_, 0, rfl, f1.lt, fun j hj i u hu => ?_⟩, fun i x hx => ?_⟩
    · have hj0 : j = 0 := by simp at hj; exact hj
      subst hj0
      rw [show 0 + 0 * 3 + i = i by omega, f1.cell]
      rw [← List.getElem?_toArray] at hu
      exact hu
    · match i, hx with
      | 0, hx => cases hx; exact ⟨rfl, by show (1 : Nat) ≤ 9223372036854775807; omega, by show (1 : Nat) ≤ 9223372036854775807; omega⟩
      | i + 1, hx => simp at hx
  · refine ⟨Nat.le_refl _, by unfold maxLen; omega, fun _ => [.string ⟨#[109]⟩, .string ⟨#[40, 41, 86]⟩, .bool false, .bool false, .int .i64 0, .int .i64 1, .slice (some ⟨wr.heap.size + 1 + 1, 0, none⟩) 1 1, .slice none 0 0, .slice none 0 0], fun _ => ⟨_, 0, rfl, f3.lt, fun j hj i u hu => ?_⟩, fun i x hx => ?_⟩
    · have hj0 : j = 0 := by simp at hj; exact hj
      subst hj0
      rw [show 0 + 0 * 9 + i = i by omega, f3.cell]
      rw [← List.getElem?_toArray] at hu
      exact hu
    · match i, hx with
      | 0, hx =>
        cases hx
        refine ⟨some ⟨wr.heap.size + 1 + 1, 0, none⟩, 1, none, 0, none, 0, rfl, by decide, by decide, ⟨some ⟨wr.heap.size + 1 + 1, 0, none⟩, 1, rfl, Nat.le_refl _, by unfold maxLen; omega, fun x hx => by simp [methF] at hx; subst hx; decide, .inr ⟨_, 0, rfl, fun j x hj => ?_⟩⟩, LAt.nil _ _ _ _ _ (by unfold maxLen; omega), LAt.nil _ _ _ _ _ (by unfold maxLen; omega)⟩
        rw [f2.cell]
        match j, hj with
        | 0, hj => simp [methF] at hj; subst hj; rfl
        | j + 1, hj => simp [methF] at hj
      | i + 1, hx => simp at hx
  · exact ((((Below.refl _ wr).alloc (Nat.le_refl _) _).alloc (by simp) _).alloc (by simp; omega) _).alloc (by simp; omega) _

set_option maxRecDepth 8000 in
set_option maxHeartbeats 8000000 in
theorem finds_any (n a o : Int) (w : World) : Calls Try.prog 4 #[.int .i64 n, .int .i64 a, .int .i64 o] w fun e w' => e = .returned (.bool true) ∧ Below w.heap.size w w' := by
  go_enter Try.func4, Try.ntmps4
  go_wp2_with fail
  refine (new_any w).mono ?_
  rintro e w1 ⟨pk, mb, v, R, rfl, KO, hR, B1⟩
  have hR' : ∀ x y, R.map Mem.k = KF x y 0 := fun x y => by rw [← List.reverse_reverse (R.map Mem.k), ← List.map_reverse, hR]; rfl
  clear hR
  go_wp2_with fail
  refine (within_any n 8 (by omega) w1).mono ?_
  rintro e w1' ⟨⟨nn, hnn, rfl⟩, hww⟩
  cases hww
  have hnn' : (nn : Int) ≤ 8 := by omega
  go_wp2_with fail
  rw [show (1 + (nn : Int) - 1) = (nn : Int) by omega]
  refine (within_any a nn (by omega) w1).mono ?_
  rintro e w1' ⟨⟨at_, hat, rfl⟩, hww⟩
  cases hww
  have hat' : (at_ : Int) ≤ (nn : Int) := by omega
  go_wp2_with fail
  rw [show (1 + (nn : Int) - 1 - (at_ : Int)) = ((nn - at_ : Nat) : Int) by omega]
  refine (within_any o (nn - at_) (by omega) w1).mono ?_
  rintro e w1' ⟨⟨oo, hoo, rfl⟩, hww⟩
  cases hww
  obtain ⟨own, hown⟩ : ∃ own, at_ + oo = own := ⟨_, rfl⟩
  obtain ⟨N, hN⟩ : ∃ N, nn + 1 = N := ⟨_, rfl⟩
  have h1 : (at_ : Int) + (oo : Int) = (own : Int) := by omega
  have h2 : 1 + (nn : Int) = (N : Int) := by omega
  have hoo' : (oo : Int) ≤ 8 := by omega
  have hOK := okF_nat (n := N) (a := at_) (o := own) (by omega) (by omega) (by omega) (by omega) (by omega)
  simp only [okF, Bool.and_eq_true, List.all_eq_true, List.mem_range, decide_eq_true_eq] at hOK
  obtain ⟨⟨hK1, hK2⟩, hK3⟩ := hOK
  have HK1 := D.hidIt hK1
  have HK2 := D.hidIt hK2
  have HK3 := D.hidIt hK3
  have hN9 : N ≤ 9 := by omega
  have hoN : own < N := by omega
  have haN : at_ < N := by omega
  have hao : at_ ≤ own := by omega
  clear hK1 hK2 hK3 hown hN
  go_wp2_with fail
  clear h1 h2
  go_loopw [8] (fun iv wr => ∃ (i : Nat) (v : Value) (R : List Mem), iv = .int .i64 (i : Int) ∧ i ≤ N ∧ KinO w.heap.size wr pk mb v R ∧ R.map Mem.k = KF at_ own i ∧ Below w.heap.size w wr) (fun iv _ => N - (intOf iv).toNat)
  case atStart => exact ⟨0, v, R, rfl, Nat.zero_le _, KO, hR' _ _, B1⟩
  case round =>
    clear KO hR' B1
    obtain ⟨i, v, R, rfl, hi, KO, hR, B⟩ := hrel
    by_cases hlt : i < N
    · have hlt' : (i : Int) < (N : Int) := by omega
      have hi8 : i ≤ 8 := by omega
      have hi8' : (i : Int) ≤ 8 := by omega
      have hz : refZ R (fK at_ own i) = 0 := by rw [refZ_k, hR]; exact HK1.out i hlt
      have hname : ({ data := #[67] } ++ { data := #[97 + UInt8.ofNat i] } : ByteArray) = nameF i := by unfold nameF; simp [UInt8.ofNat_add]
      have HN := D.hidIt hname
      clear hname
      have hns : (nameF i).size ≤ 9223372036854775807 := by
        have : ∀ j : Fin 9, (nameF j.val).size ≤ 1000 := by decide +kernel
        have := this ⟨i, by omega⟩; simp only at this; omega
      have hns1 : (nameF (i - 1)).size ≤ 9223372036854775807 := by
        have : ∀ j : Fin 9, (nameF j.val).size ≤ 1000 := by decide +kernel
        have := this ⟨i - 1, by omega⟩; simp only at this; omega
      have L1 := letter_i32 i (by omega) wr
      have L2 := letter_str i (by omega) wr
      have hcs : (i = own ∧ i = at_) ∨ (i = own ∧ i ≠ at_) ∨ (i ≠ own ∧ i = at_) ∨ (i ≠ own ∧ i ≠ at_) := by omega
      by_cases h0 : i = 0
      · have h0' : ¬ (0 : Int) < (i : Int) := by omega
        have h0b : (i : Int) ≤ 0 := by omega
        rcases hcs with hc | hc | hc | hc
        · obtain ⟨ho, ha⟩ := hc
          have q1 : ((i : Int) == (own : Int)) = true := by simp; omega
          have q2 : ((i : Int) == (at_ : Int)) = true := by simp; omega
          have hfk0 := hz
          clear hfk0
          obtain ⟨HCV, BW⟩ := sp_class wr (nameF i) (⟨#[79, 98, 106, 101, 99, 116]⟩) true hns (by decide)
          have hfk : fK at_ own i = ⟨nameF i, ⟨#[79, 98, 106, 101, 99, 116]⟩, [], [⟨⟨#[102]⟩, ⟨#[73]⟩, true⟩], [methF]⟩ := by unfold fK fieldF; rw [if_pos (show i = at_ ∨ i = own by omega), if_pos (show i = at_ ∨ i = own by omega), decide_eq_true ho, if_pos h0]; try rfl
          rw [← hfk] at HCV
          have A := D.hidIt (add_any _ _ pk mb v R (KO.below BW) (fK at_ own i) _ HCV)
          unfold AddIs at A
          unfold spW at A
          clear hfk HCV ho ha h0
          go_wp2_with fail
          simp only [HN.out]
          refine A.out.mono ?_
          rintro e w4 ⟨rfl, hA⟩
          rw [hz] at hA ⊢
          simp only [if_true] at hA
          obtain ⟨v4, bb, KO4, st4⟩ := hA
          have B4 := (next B BW).trans (KStep.below (KO.below BW) (show KStep pk mb v (spW wr (nameF i) (⟨#[79, 98, 106, 101, 99, 116]⟩) true) w4 from st4))
          have hR4 : (⟨fK at_ own i, bb⟩ :: R : List Mem).map Mem.k = KF at_ own (i + 1) := by rw [kf_succ, List.map_cons, hR]
          go_wp2
          go_roundw
          case rel => exact ⟨i + 1, _, _, by go_num, by omega, KO4, hR4, B4⟩
          case measure => simp [intOf]; omega
        · obtain ⟨ho, ha⟩ := hc
          have q1 : ((i : Int) == (own : Int)) = true := by simp; omega
          have q2 : ((i : Int) == (at_ : Int)) = false := by simp; omega
          have hfk0 := hz
          clear hfk0
          obtain ⟨HCV, BW⟩ := sp_class wr (nameF i) (⟨#[79, 98, 106, 101, 99, 116]⟩) true hns (by decide)
          have hfk : fK at_ own i = ⟨nameF i, ⟨#[79, 98, 106, 101, 99, 116]⟩, [], [⟨⟨#[102]⟩, ⟨#[73]⟩, true⟩], [methF]⟩ := by unfold fK fieldF; rw [if_pos (show i = at_ ∨ i = own by omega), if_pos (show i = at_ ∨ i = own by omega), decide_eq_true ho, if_pos h0]; try rfl
          rw [← hfk] at HCV
          have A := D.hidIt (add_any _ _ pk mb v R (KO.below BW) (fK at_ own i) _ HCV)
          unfold AddIs at A
          unfold spW at A
          clear hfk HCV ho ha h0
          go_wp2_with fail
          simp only [HN.out]
          refine A.out.mono ?_
          rintro e w4 ⟨rfl, hA⟩
          rw [hz] at hA ⊢
          simp only [if_true] at hA
          obtain ⟨v4, bb, KO4, st4⟩ := hA
          have B4 := (next B BW).trans (KStep.below (KO.below BW) (show KStep pk mb v (spW wr (nameF i) (⟨#[79, 98, 106, 101, 99, 116]⟩) true) w4 from st4))
          have hR4 : (⟨fK at_ own i, bb⟩ :: R : List Mem).map Mem.k = KF at_ own (i + 1) := by rw [kf_succ, List.map_cons, hR]
          go_wp2
          go_roundw
          case rel => exact ⟨i + 1, _, _, by go_num, by omega, KO4, hR4, B4⟩
          case measure => simp [intOf]; omega
        · obtain ⟨ho, ha⟩ := hc
          have q1 : ((i : Int) == (own : Int)) = false := by simp; omega
          have q2 : ((i : Int) == (at_ : Int)) = true := by simp; omega
          have hfk0 := hz
          clear hfk0
          obtain ⟨HCV, BW⟩ := sp_class wr (nameF i) (⟨#[79, 98, 106, 101, 99, 116]⟩) false hns (by decide)
          have hfk : fK at_ own i = ⟨nameF i, ⟨#[79, 98, 106, 101, 99, 116]⟩, [], [⟨⟨#[102]⟩, ⟨#[73]⟩, false⟩], [methF]⟩ := by unfold fK fieldF; rw [if_pos (show i = at_ ∨ i = own by omega), if_pos (show i = at_ ∨ i = own by omega), decide_eq_false ho, if_pos h0]; try rfl
          rw [← hfk] at HCV
          have A := D.hidIt (add_any _ _ pk mb v R (KO.below BW) (fK at_ own i) _ HCV)
          unfold AddIs at A
          unfold spW at A
          clear hfk HCV ho ha h0
          go_wp2_with fail
          simp only [HN.out]
          refine A.out.mono ?_
          rintro e w4 ⟨rfl, hA⟩
          rw [hz] at hA ⊢
          simp only [if_true] at hA
          obtain ⟨v4, bb, KO4, st4⟩ := hA
          have B4 := (next B BW).trans (KStep.below (KO.below BW) (show KStep pk mb v (spW wr (nameF i) (⟨#[79, 98, 106, 101, 99, 116]⟩) false) w4 from st4))
          have hR4 : (⟨fK at_ own i, bb⟩ :: R : List Mem).map Mem.k = KF at_ own (i + 1) := by rw [kf_succ, List.map_cons, hR]
          go_wp2
          go_roundw
          case rel => exact ⟨i + 1, _, _, by go_num, by omega, KO4, hR4, B4⟩
          case measure => simp [intOf]; omega
        · obtain ⟨ho, ha⟩ := hc
          have q1 : ((i : Int) == (own : Int)) = false := by simp; omega
          have q2 : ((i : Int) == (at_ : Int)) = false := by simp; omega
          have hfk0 := hz
          clear hfk0
          have HCV := plain_class (nameF i) (⟨#[79, 98, 106, 101, 99, 116]⟩) (wr.alloc (.cells #[.string (nameF i), .string (⟨#[79, 98, 106, 101, 99, 116]⟩), .slice none 0 0, .slice none 0 0, .slice none 0 0] 33)) hns (by decide)
          have BW := balloc wr (.cells #[.string (nameF i), .string (⟨#[79, 98, 106, 101, 99, 116]⟩), .slice none 0 0, .slice none 0 0, .slice none 0 0] 33)
          have hfk : fK at_ own i = plainK (nameF i) (⟨#[79, 98, 106, 101, 99, 116]⟩) := by unfold fK; rw [if_neg (show ¬ (i = at_ ∨ i = own) by omega), if_neg (show ¬ (i = at_ ∨ i = own) by omega), if_pos h0]; try rfl
          rw [← hfk] at HCV
          have A := D.hidIt (add_any _ _ pk mb v R (KO.below BW) (fK at_ own i) _ HCV)
          unfold AddIs at A
          clear hfk HCV ho ha h0
          go_wp2_with fail
          simp only [HN.out]
          refine A.out.mono ?_
          rintro e w4 ⟨rfl, hA⟩
          rw [hz] at hA ⊢
          simp only [if_true] at hA
          obtain ⟨v4, bb, KO4, st4⟩ := hA
          have B4 := (next B BW).trans (KStep.below (KO.below BW) st4)
          have hR4 : (⟨fK at_ own i, bb⟩ :: R : List Mem).map Mem.k = KF at_ own (i + 1) := by rw [kf_succ, List.map_cons, hR]
          go_wp2
          go_roundw
          case rel => exact ⟨i + 1, _, _, by go_num, by omega, KO4, hR4, B4⟩
          case measure => simp [intOf]; omega
      · have h0' : (0 : Int) < (i : Int) := by omega
        have L5 : ∀ W : World, (convert 3 21 (.int .i64 (97 + (i : Int) - 1))).run Try.prog W = .ok (.int .i32 (97 + ((i - 1 : Nat) : Int))) W := fun W => by
          rw [show (97 + (i : Int) - 1) = 97 + ((i - 1 : Nat) : Int) by omega]
          exact letter_i32 (i - 1) (by omega) W
        have L6 := letter_str (i - 1) (by omega)
        obtain ⟨j, hj⟩ : ∃ j, i - 1 = j := ⟨_, rfl⟩
        rw [hj] at L5 L6 hns1
        have HJ := D.hidIt hj
        clear hj
        have hnj : ({ data := #[67] } ++ { data := #[97 + UInt8.ofNat j] } : ByteArray) = nameF j := by unfold nameF; simp [UInt8.ofNat_add]
        have HNJ := D.hidIt hnj
        clear hnj
        rcases hcs with hc | hc | hc | hc
        · obtain ⟨ho, ha⟩ := hc
          have q1 : ((i : Int) == (own : Int)) = true := by simp; omega
          have q2 : ((i : Int) == (at_ : Int)) = true := by simp; omega
          have hfk0 := hz
          clear hfk0
          obtain ⟨HCV, BW⟩ := sp_class wr (nameF i) (nameF j) true hns hns1
          have hfk : fK at_ own i = ⟨nameF i, nameF j, [], [⟨⟨#[102]⟩, ⟨#[73]⟩, true⟩], [methF]⟩ := by unfold fK fieldF; rw [if_pos (show i = at_ ∨ i = own by omega), if_pos (show i = at_ ∨ i = own by omega), decide_eq_true ho, if_neg h0, HJ.out]; try rfl
          rw [← hfk] at HCV
          have A := D.hidIt (add_any _ _ pk mb v R (KO.below BW) (fK at_ own i) _ HCV)
          unfold AddIs at A
          unfold spW at A
          clear hfk HCV ho ha h0
          go_wp2_with fail
          simp only [HN.out, HNJ.out]
          refine A.out.mono ?_
          rintro e w4 ⟨rfl, hA⟩
          rw [hz] at hA ⊢
          simp only [if_true] at hA
          obtain ⟨v4, bb, KO4, st4⟩ := hA
          have B4 := (next B BW).trans (KStep.below (KO.below BW) (show KStep pk mb v (spW wr (nameF i) (nameF j) true) w4 from st4))
          have hR4 : (⟨fK at_ own i, bb⟩ :: R : List Mem).map Mem.k = KF at_ own (i + 1) := by rw [kf_succ, List.map_cons, hR]
          go_wp2
          go_roundw
          case rel => exact ⟨i + 1, _, _, by go_num, by omega, KO4, hR4, B4⟩
          case measure => simp [intOf]; omega
        · obtain ⟨ho, ha⟩ := hc
          have q1 : ((i : Int) == (own : Int)) = true := by simp; omega
          have q2 : ((i : Int) == (at_ : Int)) = false := by simp; omega
          have hfk0 := hz
          clear hfk0
          obtain ⟨HCV, BW⟩ := sp_class wr (nameF i) (nameF j) true hns hns1
          have hfk : fK at_ own i = ⟨nameF i, nameF j, [], [⟨⟨#[102]⟩, ⟨#[73]⟩, true⟩], [methF]⟩ := by unfold fK fieldF; rw [if_pos (show i = at_ ∨ i = own by omega), if_pos (show i = at_ ∨ i = own by omega), decide_eq_true ho, if_neg h0, HJ.out]; try rfl
          rw [← hfk] at HCV
          have A := D.hidIt (add_any _ _ pk mb v R (KO.below BW) (fK at_ own i) _ HCV)
          unfold AddIs at A
          unfold spW at A
          clear hfk HCV ho ha h0
          go_wp2_with fail
          simp only [HN.out, HNJ.out]
          refine A.out.mono ?_
          rintro e w4 ⟨rfl, hA⟩
          rw [hz] at hA ⊢
          simp only [if_true] at hA
          obtain ⟨v4, bb, KO4, st4⟩ := hA
          have B4 := (next B BW).trans (KStep.below (KO.below BW) (show KStep pk mb v (spW wr (nameF i) (nameF j) true) w4 from st4))
          have hR4 : (⟨fK at_ own i, bb⟩ :: R : List Mem).map Mem.k = KF at_ own (i + 1) := by rw [kf_succ, List.map_cons, hR]
          go_wp2
          go_roundw
          case rel => exact ⟨i + 1, _, _, by go_num, by omega, KO4, hR4, B4⟩
          case measure => simp [intOf]; omega
        · obtain ⟨ho, ha⟩ := hc
          have q1 : ((i : Int) == (own : Int)) = false := by simp; omega
          have q2 : ((i : Int) == (at_ : Int)) = true := by simp; omega
          have hfk0 := hz
          clear hfk0
          obtain ⟨HCV, BW⟩ := sp_class wr (nameF i) (nameF j) false hns hns1
          have hfk : fK at_ own i = ⟨nameF i, nameF j, [], [⟨⟨#[102]⟩, ⟨#[73]⟩, false⟩], [methF]⟩ := by unfold fK fieldF; rw [if_pos (show i = at_ ∨ i = own by omega), if_pos (show i = at_ ∨ i = own by omega), decide_eq_false ho, if_neg h0, HJ.out]; try rfl
          rw [← hfk] at HCV
          have A := D.hidIt (add_any _ _ pk mb v R (KO.below BW) (fK at_ own i) _ HCV)
          unfold AddIs at A
          unfold spW at A
          clear hfk HCV ho ha h0
          go_wp2_with fail
          simp only [HN.out, HNJ.out]
          refine A.out.mono ?_
          rintro e w4 ⟨rfl, hA⟩
          rw [hz] at hA ⊢
          simp only [if_true] at hA
          obtain ⟨v4, bb, KO4, st4⟩ := hA
          have B4 := (next B BW).trans (KStep.below (KO.below BW) (show KStep pk mb v (spW wr (nameF i) (nameF j) false) w4 from st4))
          have hR4 : (⟨fK at_ own i, bb⟩ :: R : List Mem).map Mem.k = KF at_ own (i + 1) := by rw [kf_succ, List.map_cons, hR]
          go_wp2
          go_roundw
          case rel => exact ⟨i + 1, _, _, by go_num, by omega, KO4, hR4, B4⟩
          case measure => simp [intOf]; omega
        · obtain ⟨ho, ha⟩ := hc
          have q1 : ((i : Int) == (own : Int)) = false := by simp; omega
          have q2 : ((i : Int) == (at_ : Int)) = false := by simp; omega
          have hfk0 := hz
          clear hfk0
          have HCV := plain_class (nameF i) (nameF j) (wr.alloc (.cells #[.string (nameF i), .string (nameF j), .slice none 0 0, .slice none 0 0, .slice none 0 0] 33)) hns hns1
          have BW := balloc wr (.cells #[.string (nameF i), .string (nameF j), .slice none 0 0, .slice none 0 0, .slice none 0 0] 33)
          have hfk : fK at_ own i = plainK (nameF i) (nameF j) := by unfold fK; rw [if_neg (show ¬ (i = at_ ∨ i = own) by omega), if_neg (show ¬ (i = at_ ∨ i = own) by omega), if_neg h0, HJ.out]; try rfl
          rw [← hfk] at HCV
          have A := D.hidIt (add_any _ _ pk mb v R (KO.below BW) (fK at_ own i) _ HCV)
          unfold AddIs at A
          clear hfk HCV ho ha h0
          go_wp2_with fail
          simp only [HN.out, HNJ.out]
          refine A.out.mono ?_
          rintro e w4 ⟨rfl, hA⟩
          rw [hz] at hA ⊢
          simp only [if_true] at hA
          obtain ⟨v4, bb, KO4, st4⟩ := hA
          have B4 := (next B BW).trans (KStep.below (KO.below BW) st4)
          have hR4 : (⟨fK at_ own i, bb⟩ :: R : List Mem).map Mem.k = KF at_ own (i + 1) := by rw [kf_succ, List.map_cons, hR]
          go_wp2
          go_roundw
          case rel => exact ⟨i + 1, _, _, by go_num, by omega, KO4, hR4, B4⟩
          case measure => simp [intOf]; omega
    · have hlt' : ¬ (i : Int) < (N : Int) := by omega
      have hiN : i = N := by omega
      rw [hiN] at hR
      clear hiN
      have hsm := small_of_k hR (kf_small _ _ _)
      go_wp2_with fail
      clear hlt hlt' hi
      generalize hwr : wr = w2 at *
      clear hwr
      go_loopw [10] (fun iv wr => ∃ (i : Nat), iv = .int .i64 (i : Int) ∧ i ≤ N ∧ ∃ v, KinO w.heap.size wr pk mb v R ∧ Below w.heap.size w wr) (fun iv _ => N - (intOf iv).toNat)
      case atStart => exact ⟨0, rfl, Nat.zero_le _, v, KO, B⟩
      case round =>
        clear KO B
        obtain ⟨i, rfl, hi, v, KO, B⟩ := hrel
        by_cases hlt : i < N
        · have hlt' : (i : Int) < (N : Int) := by omega
          have hi8' : (i : Int) ≤ 8 := by omega
          have hn0 : ({ data := #[67] } ++ { data := #[97 + UInt8.ofNat i] } : ByteArray) = nameF i := by unfold nameF; simp [UInt8.ofNat_add]
          have HN := D.hidIt hn0
          clear hn0
          have L1 := letter_i32 i (by omega) wr
          have L2 := letter_str i (by omega) wr
          have o8 : (own : Int) ≤ 8 := by omega
          have a8 : (at_ : Int) ≤ 8 := by omega
          obtain ⟨ao, c, hv, V⟩ := KO.view
          clear hv
          have hcs : own ≤ i ∨ (¬ own ≤ i ∧ at_ ≤ i) ∨ (¬ own ≤ i ∧ ¬ at_ ≤ i) := by omega
          rcases hcs with hc | hc | hc
          · have g1 : (own : Int) ≤ (i : Int) := by omega
            have hwf : wantF at_ own i = some own := by unfold wantF; rw [if_pos hc]
            have hnx : ({ data := #[67] } ++ { data := #[97 + UInt8.ofNat own] } : ByteArray) = nameF own := by unfold nameF; simp [UInt8.ofNat_add]
            have HNX := D.hidIt hnx
            clear hnx
            have hne : ((nameF own).toList == ([] : List UInt8)) = false := nameF_ne own (by omega)
            have k2 := HK2.out i hlt
            have k3 := HK3.out i hlt
            rw [hwf] at k2 k3
            have F := D.hidIt (field_find wr pk R mb ao c V (nameF i) ⟨#[102]⟩ ⟨#[73]⟩)
            have L5 := letter_i32 own (by omega) wr
            have L6 := letter_str own (by omega) wr
            go_wp2_with fail
            simp only [HN.out, HNX.out]
            refine F.out.mono ?_
            rintro e w3 ⟨b3, hF⟩
            have hF' := field_k hF
            rw [hR] at hF'
            cases hkn : knear (fun k => ixZ k.fs (isF ⟨#[102]⟩ ⟨#[73]⟩)) (klin (KF at_ own N) (nameF i)) with
            | none => rw [hkn] at k2; simp at k2
            | some k =>
              rw [hkn] at hF' k2
              obtain ⟨f, hf, rfl⟩ := hF'
              simp only [hf, Bool.and_eq_true, beq_iff_eq] at k2
              have hkm := (MapKept.bytes_beq _ _).1 k2.1
              have hst : f.st = true := by rw [k2.2]; simp; omega
              rw [hkm, hst]
              have b4 := balloc w3 (.cells #[.string f.nm, .string f.ds, .bool true] 49)
              have F4 := Blk.new w3 #[.string f.nm, .string f.ds, .bool true] 49
              have V4 := V.below (next b3 b4)
              have M := D.hidIt (meth_find _ pk R mb ao c V4 hsm (nameF i) ⟨#[109]⟩ ⟨#[40, 41, 86]⟩)
              have L7 := fun W => letter_i32 i (by omega) W
              have L8 := fun W => letter_str i (by omega) W
              clear hkn k2 hkm hst hF F
              go_wp2_with fail
              simp only [HN.out]
              generalize w3.alloc (.cells #[.string f.nm, .string f.ds, .bool true] 49) = W4 at *
              refine M.out.mono ?_
              rintro e w5 ⟨b5, hM⟩
              have hM' := meth_k hM
              rw [hR] at hM'
              cases hkm : knear (fun k => ixZ k.ms (isM ⟨#[109]⟩ ⟨#[40, 41, 86]⟩)) (klin (KF at_ own N) (nameF i)) with
              | none => rw [hkm] at k3; simp at k3
              | some m =>
                rw [hkm] at hM' k3
                obtain ⟨y, row', hy, rfl, hrow⟩ := hM'
                have hmm := (MapKept.bytes_beq _ _).1 k3
                rw [hmm]
                obtain ⟨q1, p1, q2, p2, q3, p3, rfl, -⟩ := hrow
                have fst := (F4.below b5).cell 2
                simp at fst
                have KO6 := ((KO.below (next b3 b4)).below b5).below (balloc w5 (.cells #[.string y.nm, .string y.ds, .bool y.st, .bool y.nat, .int .i64 y.stk, .int .i64 y.loc, .slice q1 y.code.length p1, .slice q2 y.hs.length p2, .slice q3 y.rs.length p3] 43))
                have B6 := next B (next (next b3 b4) (next b5 (balloc w5 (.cells #[.string y.nm, .string y.ds, .bool y.st, .bool y.nat, .int .i64 y.stk, .int .i64 y.loc, .slice q1 y.code.length p1, .slice q2 y.hs.length p2, .slice q3 y.rs.length p3] 43))))
                have fst6 := cell_older (.cells #[.string y.nm, .string y.ds, .bool y.st, .bool y.nat, .int .i64 y.stk, .int .i64 y.loc, .slice q1 y.code.length p1, .slice q2 y.hs.length p2, .slice q3 y.rs.length p3] 43) fst
                clear hkm k3 hmm hM M fst
                go_wp2
                go_roundw
                case rel => exact ⟨i + 1, by go_num, by omega, v, KO6, B6⟩
                case measure => simp [intOf]; omega
          · have g1 : ¬ (own : Int) ≤ (i : Int) := by omega
            have g2 : (at_ : Int) ≤ (i : Int) := by omega
            have hwf : wantF at_ own i = some at_ := by unfold wantF; rw [if_neg hc.1, if_pos hc.2]
            have hnx : ({ data := #[67] } ++ { data := #[97 + UInt8.ofNat at_] } : ByteArray) = nameF at_ := by unfold nameF; simp [UInt8.ofNat_add]
            have HNX := D.hidIt hnx
            clear hnx
            have hne : ((nameF at_).toList == ([] : List UInt8)) = false := nameF_ne at_ (by omega)
            have k2 := HK2.out i hlt
            have k3 := HK3.out i hlt
            rw [hwf] at k2 k3
            have F := D.hidIt (field_find wr pk R mb ao c V (nameF i) ⟨#[102]⟩ ⟨#[73]⟩)
            have L5 := letter_i32 at_ (by omega) wr
            have L6 := letter_str at_ (by omega) wr
            go_wp2_with fail
            simp only [HN.out, HNX.out]
            refine F.out.mono ?_
            rintro e w3 ⟨b3, hF⟩
            have hF' := field_k hF
            rw [hR] at hF'
            cases hkn : knear (fun k => ixZ k.fs (isF ⟨#[102]⟩ ⟨#[73]⟩)) (klin (KF at_ own N) (nameF i)) with
            | none => rw [hkn] at k2; simp at k2
            | some k =>
              rw [hkn] at hF' k2
              obtain ⟨f, hf, rfl⟩ := hF'
              simp only [hf, Bool.and_eq_true, beq_iff_eq] at k2
              have hkm := (MapKept.bytes_beq _ _).1 k2.1
              have hst : f.st = false := by rw [k2.2]; simp; omega
              rw [hkm, hst]
              have b4 := balloc w3 (.cells #[.string f.nm, .string f.ds, .bool false] 49)
              have F4 := Blk.new w3 #[.string f.nm, .string f.ds, .bool false] 49
              have V4 := V.below (next b3 b4)
              have M := D.hidIt (meth_find _ pk R mb ao c V4 hsm (nameF i) ⟨#[109]⟩ ⟨#[40, 41, 86]⟩)
              have L7 := fun W => letter_i32 i (by omega) W
              have L8 := fun W => letter_str i (by omega) W
              clear hkn k2 hkm hst hF F
              go_wp2_with fail
              simp only [HN.out]
              generalize w3.alloc (.cells #[.string f.nm, .string f.ds, .bool false] 49) = W4 at *
              refine M.out.mono ?_
              rintro e w5 ⟨b5, hM⟩
              have hM' := meth_k hM
              rw [hR] at hM'
              cases hkm : knear (fun k => ixZ k.ms (isM ⟨#[109]⟩ ⟨#[40, 41, 86]⟩)) (klin (KF at_ own N) (nameF i)) with
              | none => rw [hkm] at k3; simp at k3
              | some m =>
                rw [hkm] at hM' k3
                obtain ⟨y, row', hy, rfl, hrow⟩ := hM'
                have hmm := (MapKept.bytes_beq _ _).1 k3
                rw [hmm]
                obtain ⟨q1, p1, q2, p2, q3, p3, rfl, -⟩ := hrow
                have fst := (F4.below b5).cell 2
                simp at fst
                have KO6 := ((KO.below (next b3 b4)).below b5).below (balloc w5 (.cells #[.string y.nm, .string y.ds, .bool y.st, .bool y.nat, .int .i64 y.stk, .int .i64 y.loc, .slice q1 y.code.length p1, .slice q2 y.hs.length p2, .slice q3 y.rs.length p3] 43))
                have B6 := next B (next (next b3 b4) (next b5 (balloc w5 (.cells #[.string y.nm, .string y.ds, .bool y.st, .bool y.nat, .int .i64 y.stk, .int .i64 y.loc, .slice q1 y.code.length p1, .slice q2 y.hs.length p2, .slice q3 y.rs.length p3] 43))))
                have fst6 := cell_older (.cells #[.string y.nm, .string y.ds, .bool y.st, .bool y.nat, .int .i64 y.stk, .int .i64 y.loc, .slice q1 y.code.length p1, .slice q2 y.hs.length p2, .slice q3 y.rs.length p3] 43) fst
                clear hkm k3 hmm hM M fst
                go_wp2
                go_roundw
                case rel => exact ⟨i + 1, by go_num, by omega, v, KO6, B6⟩
                case measure => simp [intOf]; omega
          · have g1 : ¬ (own : Int) ≤ (i : Int) := by omega
            have g2 : ¬ (at_ : Int) ≤ (i : Int) := by omega
            have hwf : wantF at_ own i = none := by unfold wantF; rw [if_neg hc.1, if_neg hc.2]
            have k2 := HK2.out i hlt
            have k3 := HK3.out i hlt
            rw [hwf] at k2 k3
            have F := D.hidIt (field_find wr pk R mb ao c V (nameF i) ⟨#[102]⟩ ⟨#[73]⟩)
            go_wp2_with fail
            simp only [HN.out]
            refine F.out.mono ?_
            rintro e w3 ⟨b3, hF⟩
            have hF' := field_k hF
            rw [hR] at hF'
            cases hkn : knear (fun k => ixZ k.fs (isF ⟨#[102]⟩ ⟨#[73]⟩)) (klin (KF at_ own N) (nameF i)) with
            | some k => rw [hkn] at k2; simp at k2
            | none =>
              rw [hkn] at hF'
              simp only at hF'
              subst hF'
              have b4 := balloc w3 (.cells #[.string ⟨#[]⟩, .string ⟨#[]⟩, .bool false] 49)
              have V4 := V.below (next b3 b4)
              have M := D.hidIt (meth_find _ pk R mb ao c V4 hsm (nameF i) ⟨#[109]⟩ ⟨#[40, 41, 86]⟩)
              have L7 := fun W => letter_i32 i (by omega) W
              have L8 := fun W => letter_str i (by omega) W
              clear hkn k2 hF F
              go_wp2_with fail
              simp only [HN.out]
              generalize w3.alloc (.cells #[.string ⟨#[]⟩, .string ⟨#[]⟩, .bool false] 49) = W4 at *
              refine M.out.mono ?_
              rintro e w5 ⟨b5, hM⟩
              have hM' := meth_k hM
              rw [hR] at hM'
              cases hkm : knear (fun k => ixZ k.ms (isM ⟨#[109]⟩ ⟨#[40, 41, 86]⟩)) (klin (KF at_ own N) (nameF i)) with
              | some m => rw [hkm] at k3; simp at k3
              | none =>
                rw [hkm] at hM'
                simp only at hM'
                subst hM'
                have KO6 := ((KO.below (next b3 b4)).below b5).below (balloc w5 (.cells #[.string ⟨#[]⟩, .string ⟨#[]⟩, .bool false, .bool false, .int .i64 0, .int .i64 0, .slice none 0 0, .slice none 0 0, .slice none 0 0] 43))
                have B6 := next B (next (next b3 b4) (next b5 (balloc w5 (.cells #[.string ⟨#[]⟩, .string ⟨#[]⟩, .bool false, .bool false, .int .i64 0, .int .i64 0, .slice none 0 0, .slice none 0 0, .slice none 0 0] 43))))
                clear hkm k3 hM M
                go_wp2
                go_roundw
                case rel => exact ⟨i + 1, by go_num, by omega, v, KO6, B6⟩
                case measure => simp [intOf]; omega
        · have hlt' : ¬ (i : Int) < (N : Int) := by omega
          go_wp2_with fail
          refine (known_any wr).mono ?_
          rintro e w8 ⟨rfl, b8⟩
          go_wp2
          go_ret
          exact ⟨rfl, next B b8⟩
end Go.Proofs.Ytlkhfpbniogllaa.K
