/- Reader.Number and Reader.Text. -/
import Derived.Test.YthagaldpopnoeaaGreatDoorRd
namespace Go.Proofs.YthagaldpopnoeaaGreatDoor
open Go.RowKit

/-- The number that bytes say, the highest first. -/
def beVal (bs : List Int) : Int := bs.foldl (fun n c => n * 256 + c) 0
theorem beVal_snoc (bs : List Int) (c : Int) : beVal (bs ++ [c]) = beVal bs * 256 + c := by simp [beVal]

theorem i64_or8 (x c : Int) (hx : x % 256 = 0) (h0 : 0 ≤ c) (h1 : c ≤ 255) (hl : -9223372036854775808 ≤ x) (hu : x ≤ 9223372036854775807) : bits .or .i64 x c = x + c := by
  have hA : ((x % 18446744073709551616).toNat : Int) = x % 18446744073709551616 := Int.toNat_of_nonneg (by omega)
  have hC : (c % 18446744073709551616).toNat = c.toNat := by omega
  have hj : (x % 18446744073709551616).toNat ||| c.toNat = (x % 18446744073709551616).toNat + c.toNat := nat_join 8 _ _ (by omega) (by omega)
  show IntKind.i64.wrap ((BitVec.ofInt 64 x ||| BitVec.ofInt 64 c).toNat : Int) = _
  rw [BitVec.toNat_or, BitVec.toNat_ofInt, BitVec.toNat_ofInt]
  rw [show ((2 ^ 64 : Nat) : Int) = 18446744073709551616 by decide, hC, hj, IntKind.wrap_i64]
  omega

theorem wrap_step (V : Int) (c : Int) (h0 : 0 ≤ c) (h1 : c ≤ 255) : bits .or .i64 (IntKind.i64.wrap (IntKind.i64.wrap V * 256)) c = IntKind.i64.wrap (V * 256 + c) := by
  rw [i64_or8 _ _ (by rw [IntKind.wrap_i64, IntKind.wrap_i64]; omega) h0 h1 (by rw [IntKind.wrap_i64]; omega) (by rw [IntKind.wrap_i64]; omega)]
  rw [IntKind.wrap_i64, IntKind.wrap_i64, IntKind.wrap_i64]
  omega

theorem wrap64_eq (n : Int) : wrap64 n = IntKind.i64.wrap n := by rw [IntKind.wrap_i64]; unfold wrap64; omega

set_option maxRecDepth 8000 in
set_option maxHeartbeats 1600000 in
theorem rnum_any (pr : Nat) (v : Value) (l : List Int) (a : Nat) (y bytes : Int) (w : World) (h : IsR pr w v l a y) :
    Calls Tryz.prog 108 #[.pointer (some ⟨pr, 0, none⟩), .int .i64 bytes] w fun e w' => e = .returned (.int .i64 (IntKind.i64.wrap (beVal (tk l a y (min (max bytes 1) 8)).1))) ∧
      IsR pr w' v l (tk l a y (min (max bytes 1) 8)).2.1 (tk l a y (min (max bytes 1) 8)).2.2 ∧ Only pr w w' := by
  have HW := hidIt (width_any bytes w)
  have HT := hidIt (take_any pr v l a y (min (max bytes 1) 8) w h)
  have htl : (tk l a y (min (max bytes 1) 8)).1.length ≤ 8 := by
    unfold tk; split
    · simp
    · split
      · simp
      · simp only [List.length_take, List.length_drop]; omega
  generalize hT : tk l a y (min (max bytes 1) 8) = T at *
  generalize min (max bytes 1) 8 = W at *
  clear hT h
  obtain ⟨bs, a', y'⟩ := T
  simp only at htl ⊢ HT
  go_enter Tryz.func108, Tryz.ntmps108
  go_wp2_with fail
  refine HW.out.mono ?_
  rintro e w' ⟨rfl, hww⟩; cases hww
  go_wp2_with fail
  refine HT.out.mono ?_
  rintro e w1 ⟨v1, rfl, V1, h1, o1⟩
  clear HT HW
  obtain ⟨ao, cap, rfl, hc, hm, hby, hl⟩ := V1
  go_wp2
  go_loop [5, 13] (fun n i => ∃ k : Nat, k ≤ bs.length ∧ i = .int .i64 (k : Int) ∧ n = .int .i64 (IntKind.i64.wrap (beVal (bs.take k)))) (fun _ i => bs.length - (intOf i).toNat)
  case atStart => exact ⟨0, Nat.zero_le _, rfl, rfl⟩
  case round =>
    obtain ⟨k, hk, rfl, rfl⟩ := hrel
    by_cases hlt : k < bs.length
    · obtain ⟨g, off, rfl, hl2⟩ : ∃ g off, ao = some ⟨g, off, none⟩ ∧ Lies w1 g off bs := by
        rcases hl with e | h
        · rw [e] at hlt; simp at hlt
        · exact h
      clear hl
      have hcell := hl2 k bs[k] (by simp [hlt])
      have hb := hby bs[k] (by simp)
      have hsn : Hid (bs.take (k + 1) = bs.take k ++ [bs[k]]) := by
        show _ = _
        rw [List.take_succ_eq_append_getElem hlt]
      generalize bs[k] = c at *
      obtain ⟨hb0, hb1⟩ := hb
      generalize hV : beVal (bs.take k) = V at *
      have HV := hidIt hV
      clear hV hl2 hby
      have hwp := wrap_step V c hb0 hb1
      have HWP := hidIt hwp
      clear hwp
      have hlt' : (k : Int) < (bs.length : Int) := by omega
      go_wp2
      refine ⟨⟨k + 1, by omega, by go_num, congrArg (Value.int .i64) ?_⟩, by simp [intOf]; omega⟩
      rw [hsn.out, beVal_snoc, HV.out]
      simp only [wrap64_eq]
      exact HWP.out
    · go_wp2
      go_ret
      rw [List.take_of_length_le (by omega)]
      exact ⟨rfl, h1, o1⟩

theorem tk_len (l : List Int) (a : Nat) (y n : Int) : ((tk l a y n).1.length : Int) ≤ max n 0 ∧ (tk l a y n).1.length ≤ l.length := by
  unfold tk; split
  · simp; omega
  · split
    · simp; omega
    · simp only [List.length_take, List.length_drop]; omega
theorem tk_bytes (l : List Int) (a : Nat) (y n : Int) (h : AllBytes l) : AllBytes (tk l a y n).1 := by
  unfold tk; split
  · exact AllBytes.nil
  · split
    · exact AllBytes.nil
    · exact fun x hx => h x (List.mem_of_mem_drop (List.mem_of_mem_take hx))
theorem beVal_two (bs : List Int) (h : AllBytes bs) (hl : bs.length ≤ 2) : 0 ≤ beVal bs ∧ beVal bs ≤ 65535 := by
  match bs, hl with
  | [], _ => simp [beVal]
  | [a], _ => have := h a (by simp); simp [beVal]; omega
  | [a, b], _ => have := h a (by simp); have := h b (by simp); simp [beVal]; omega

/-- The refusal that stays behind a new one. -/
def fl (y e : Int) : Int := if y = 0 then e else y

/-- What Reader.Text gives: the text, the new place, the new refusal. -/
def rtext (l : List Int) (a : Nat) (y : Int) : ByteArray × Nat × Int :=
  let t := tk l a y 2
  let y1 := if 256 < beVal t.1 then fl t.2.2 3 else t.2.2
  let u := tk l t.2.1 y1 (beVal t.1)
  match decL u.1 with
  | some xs => (strOfNums xs, u.2.1, fl u.2.2 0)
  | none => (⟨#[]⟩, u.2.1, fl u.2.2 12)

theorem rtext_some {l bs us xs : List Int} {a a1 a2 : Nat} {y y1 y2 : Int} (h1 : tk l a y 2 = (bs, a1, y1)) (h2 : tk l a1 (if 256 < beVal bs then fl y1 3 else y1) (beVal bs) = (us, a2, y2)) (h3 : decL us = some xs) : rtext l a y = (strOfNums xs, a2, fl y2 0) := by
  unfold rtext
  simp only [h1, h2, h3]
theorem rtext_none {l bs us : List Int} {a a1 a2 : Nat} {y y1 y2 : Int} (h1 : tk l a y 2 = (bs, a1, y1)) (h2 : tk l a1 (if 256 < beVal bs then fl y1 3 else y1) (beVal bs) = (us, a2, y2)) (h3 : decL us = none) : rtext l a y = (⟨#[]⟩, a2, fl y2 12) := by
  unfold rtext
  simp only [h1, h2, h3]

set_option maxRecDepth 8000 in
set_option maxHeartbeats 1600000 in
theorem rtext_any (pr : Nat) (v : Value) (l : List Int) (a : Nat) (y : Int) (w : World) (h : IsR pr w v l a y) :
    Calls Tryz.prog 68 #[.pointer (some ⟨pr, 0, none⟩)] w fun e w' => e = .returned (.string (rtext l a y).1) ∧ IsR pr w' v l (rtext l a y).2.1 (rtext l a y).2.2 ∧ Only pr w w' := by
  have hby : AllBytes l := by obtain ⟨_, _, _, _, _, h, _⟩ := h.view; exact h
  have h1 := rnum_any pr v l a y 2 w h
  rw [show min (max (2 : Int) 1) 8 = 2 by decide] at h1
  have hbv := beVal_two (tk l a y 2).1 (tk_bytes _ _ _ _ hby) (by have := (tk_len l a y 2).1; omega)
  rw [show IntKind.i64.wrap (beVal (tk l a y 2).1) = beVal (tk l a y 2).1 from wraps_small _ (by omega) (by omega)] at h1
  obtain ⟨⟨bs, a1, y1⟩, hT⟩ : ∃ T, tk l a y 2 = T := ⟨_, rfl⟩
  rw [hT] at h1 hbv
  simp only at h1 hbv
  obtain ⟨⟨us, a2, y2⟩, hU⟩ : ∃ U, tk l a1 (if 256 < beVal bs then fl y1 3 else y1) (beVal bs) = U := ⟨_, rfl⟩
  have hu := tk_len l a1 (if 256 < beVal bs then fl y1 3 else y1) (beVal bs)
  rw [hU] at hu
  simp only at hu
  have HS := hidIt (fun xs (h : decL us = some xs) => rtext_some hT hU h)
  have HN := hidIt (fun (h : decL us = none) => rtext_none hT hU h)
  generalize rtext l a y = R at *
  obtain ⟨tx, a3, y3⟩ := R
  simp only
  have HU := hidIt hU
  have H1 := hidIt h1
  clear h1 h hU hT
  generalize beVal bs = n at *
  obtain ⟨hn0, hn1⟩ := hbv
  by_cases h256 : 256 < n
  · rw [if_pos h256] at HU
    go_enter Tryz.func68, Tryz.ntmps68
    go_wp2_with fail
    refine H1.out.mono ?_
    rintro e w1 ⟨rfl, r1, o1⟩
    go_wp2_with fail
    refine (fail_any pr v l a1 y1 3 w1 r1).mono ?_
    rintro e w2 ⟨rfl, r2, o2⟩
    change IsR pr w2 v l a1 (fl y1 3) at r2
    go_wp2_with fail
    refine (take_any pr v l a1 (fl y1 3) n w2 r2).mono ?_
    rw [HU.out]
    rintro e w3 ⟨v3, rfl, V3, r3, o3⟩
    simp only at V3 r3
    go_wp2_with fail
    refine (decode_any v3 us w3 V3 (by omega)).mono ?_
    rintro e w4 ⟨b4, hd⟩
    have r4 := r3.below b4
    rcases hd with ⟨xs, hx, rfl⟩ | ⟨hx, rfl⟩
    · go_wp2_with fail
      refine (fail_any pr v l a2 y2 0 w4 r4).mono ?_
      rintro e w5 ⟨rfl, r5, o5⟩
      go_wp2
      go_ret
      have hR := HS.out xs hx
      simp only [Prod.mk.injEq] at hR
      obtain ⟨rfl, rfl, rfl⟩ := hR
      exact ⟨rfl, r5, o1.trans (o2.trans (o3.trans ((Only.of_below b4).trans o5)))⟩
    · go_wp2_with fail
      refine (fail_any pr v l a2 y2 12 w4 r4).mono ?_
      rintro e w5 ⟨rfl, r5, o5⟩
      go_wp2
      go_ret
      have hR := HN.out hx
      simp only [Prod.mk.injEq] at hR
      obtain ⟨rfl, rfl, rfl⟩ := hR
      exact ⟨rfl, r5, o1.trans (o2.trans (o3.trans ((Only.of_below b4).trans o5)))⟩
  · rw [if_neg h256] at HU
    go_enter Tryz.func68, Tryz.ntmps68
    go_wp2_with fail
    refine H1.out.mono ?_
    rintro e w1 ⟨rfl, r1, o1⟩
    go_wp2_with fail
    refine (take_any pr v l a1 y1 n w1 r1).mono ?_
    rw [HU.out]
    rintro e w3 ⟨v3, rfl, V3, r3, o3⟩
    simp only at V3 r3
    go_wp2_with fail
    refine (decode_any v3 us w3 V3 (by omega)).mono ?_
    rintro e w4 ⟨b4, hd⟩
    have r4 := r3.below b4
    rcases hd with ⟨xs, hx, rfl⟩ | ⟨hx, rfl⟩
    · go_wp2_with fail
      refine (fail_any pr v l a2 y2 0 w4 r4).mono ?_
      rintro e w5 ⟨rfl, r5, o5⟩
      go_wp2
      go_ret
      have hR := HS.out xs hx
      simp only [Prod.mk.injEq] at hR
      obtain ⟨rfl, rfl, rfl⟩ := hR
      exact ⟨rfl, r5, o1.trans (o3.trans ((Only.of_below b4).trans o5))⟩
    · go_wp2_with fail
      refine (fail_any pr v l a2 y2 12 w4 r4).mono ?_
      rintro e w5 ⟨rfl, r5, o5⟩
      go_wp2
      go_ret
      have hR := HN.out hx
      simp only [Prod.mk.injEq] at hR
      obtain ⟨rfl, rfl, rfl⟩ := hR
      exact ⟨rfl, r5, o1.trans (o3.trans ((Only.of_below b4).trans o5))⟩
end Go.Proofs.YthagaldpopnoeaaGreatDoor
