/- The document's own Reader: Bytes, Number, Text. -/
import Derived.Test.YtjnaiekdbigikaaDoorRfR
import Derived.Test.YtjnaiekdbigikaaDoorRefD
import Derived.Test.YtjnaiekdbigikaaDoorRefW
namespace Go.Proofs.YtjnaiekdbigikaaDoor
open Go.RowKit

theorem IsS.zero {pr : Nat} {w : World} {v : Value} {l : List Int} {a : Nat} (h : IsS pr w v l a 0) : IsB pr w v l a false 0 0 := by
  rcases h with ⟨-, h⟩ | ⟨e, -⟩
  · exact h
  · exact absurd rfl e

theorem Step.made {v v' : Value} {w w' : World} {o : Obj} {B : Nat} (h : Step v (w.alloc o) v' w') (hB : B ≤ w.heap.size) (hv : ∀ k, v.ownBlock = some k → B ≤ k) : Below B w w' :=
  ((Below.refl _ _).alloc hB o).trans (h.below (by simp; omega) hv)

set_option maxRecDepth 8000 in
set_option maxHeartbeats 1600000 in
theorem refbytes_any (pr : Nat) (v : Value) (l : List Int) (a : Nat) (y n : Int) (w : World) (h : IsS pr w v l a y) (hlen : l.length ≤ 140737488351232) :
    Calls Tryd.prog 69 #[.pointer (some ⟨pr, 0, none⟩), .int .i64 n] w fun e w' => ∃ u, e = .returned u ∧ View w' u (tk l a y n).1 ∧ IsS pr w' v l (tk l a y n).2.1 (tk l a y n).2.2 ∧ Only pr w w' := by
  rcases h with ⟨hy, h⟩ | ⟨hy, t, h⟩
  · subst hy
    have c0 := h.c0
    have c1 := h.c1
    have c2 := h.c2
    have hle := h.le
    by_cases hn : n < 0
    · rw [show tk l a 0 n = ([], a, 0) by unfold tk; rw [if_pos (.inr (by omega))]]
      go_enter Tryd.func69, Tryd.ntmps69
      go_wp2
      go_ret
      exact ⟨_, rfl, View.empty w, .inl ⟨rfl, h⟩, Only.refl _ _⟩
    · obtain ⟨m, rfl⟩ := Int.eq_ofNat_of_zero_le (show 0 ≤ n by omega)
      have hV := h.view
      obtain ⟨ao, cap, rfl, hc, hm, hby, -⟩ := id h.view
      unfold maxLen at hm
      by_cases hs : (l.length : Int) - a < m
      · rw [show tk l a 0 m = ([], l.length, 10) by unfold tk; rw [if_neg (by omega), if_pos hs]]
        have HR : Hid (∀ q, Calls Tryd.prog 70 #[.pointer (some ⟨pr, 0, none⟩), .int .i64 10, .int .i64 (l.length : Int)] (w.drewN q) fun r w' => r = .returned (.tuple #[]) ∧ IsB pr w' (.slice ao l.length cap) l a true 10 (l.length : Int) ∧ Only pr (w.drewN q) w') :=
          fun q => refuse_yes pr _ l a 0 0 10 (l.length : Int) (w.drewN q) ⟨h.blk, h.view, h.le⟩
        go_enter Tryd.func69, Tryd.ntmps69
        go_wp2_with fail
        go_quiet (fail)
        go_wp2_with fail
        refine (HR.out _).mono ?_
        rintro e w1 ⟨rfl, h1, o1⟩
        go_wp2
        go_ret
        exact ⟨_, rfl, View.empty _, .inr ⟨by decide, a, h1⟩, (Only.drewN pr w _).trans o1⟩
      · rw [show tk l a 0 m = ((l.drop a).take m, a + m, 0) by
          unfold tk
          by_cases h0 : m = 0
          · subst h0; simp
          · rw [if_neg (by omega), if_neg hs]; simp]
        have hal : a + m ≤ l.length := by omega
        obtain ⟨p, hsl, HV⟩ := view_sub hV hal
        have ham : IntKind.i64.wrap ((a : Int) + m) = (a : Int) + m := wraps_small _ (by omega) (by omega)
        have f1 := frozen_row h.blk 1
        have hz : ∀ q, ((w.drewN q).setCell ⟨pr, 1, none⟩ (.int .i64 ((a : Int) + m))).heap.size = w.heap.size := fun q => by simp [World.setCell, World.drewN]
        have HO : Hid (∀ q, Only pr w ((w.drewN q).setCell ⟨pr, 1, none⟩ (.int .i64 ((a : Int) + m)))) := fun q => (Only.drewN pr w q).trans (Only.setCell _ _ _ _)
        have HB : Hid (∀ q, IsB pr ((w.drewN q).setCell ⟨pr, 1, none⟩ (.int .i64 ((a : Int) + m))) (.slice ao l.length cap) l (a + m) false 0 0) :=
          fun q => h.move (HO.out q) (by have := bset1 (w := w.drewN q) (u := .int .i64 ((a : Int) + m)) h.blk; simpa using this) hal
        have HV0 : Hid (∀ q, View (((w.drewN q).setCell ⟨pr, 1, none⟩ (.int .i64 ((a : Int) + m))).alloc (.cells #[] 5)) (.slice p m (cap - a)) ((l.drop a).take m)) :=
          fun q => (HV.only (HO.out q) (fun _ _ hl hne => h.apart hl hne)).below ((Below.refl _ _).alloc (Nat.le_refl _) _)
        have HW0 : Hid (∀ q, (((w.drewN q).setCell ⟨pr, 1, none⟩ (.int .i64 ((a : Int) + m))).alloc (.cells #[] 5)).ownsRow w.heap.size 5 1 (.slice (some ⟨w.heap.size, 0, none⟩) 0 0) 0 []) := by
          intro q
          have := World.ownsRow_made (base := w.heap.size) (e := 5) (size := 1) ((w.drewN q).setCell ⟨pr, 1, none⟩ (.int .i64 ((a : Int) + m))) #[] 0 (by rw [hz]; exact Nat.le_refl _) (by unfold maxLen; omega) rfl
          rwa [hz] at this
        have hlm : ((l.drop a).take m).length = m := by rw [List.length_take, List.length_drop]; omega
        have hbt : AllBytes ((l.drop a).take m) := fun x hx => hby x (List.mem_of_mem_drop (List.mem_of_mem_take hx))
        clear HV h hV
        go_enter Tryd.func69, Tryd.ntmps69
        go_wp2_with fail
        go_quiet (fail)
        go_wp2_with fail
        go_quiet (fail)
        go_wp2_with (at_builtin; refine wpList_append_view rfl _ _ rfl w.heap.size (.slice (some ⟨w.heap.size, 0, none⟩) 0 0) (.slice p m (cap - a)) _ _ ((l.drop a).take m) rfl (HW0.out _) rfl (HV0.out _) (by omega) (by simp [World.setCell, World.drewN]) ?_; intro v1 w1 ho1 hst1)
        go_ret
        have bb := hst1.made (B := w.heap.size) (by rw [hz]; exact Nat.le_refl _) (fun k h => ((HW0.out 0).lt k h).1)
        rw [Nat.zero_add, List.nil_append] at ho1
        exact ⟨_, rfl, View.of_own ho1 hbt, .inl ⟨rfl, (HB.out _).below (by rw [hz]; exact bb)⟩, (HO.out _).trans (Only.of_below (by rw [hz]; exact bb))⟩
  · rw [show tk l a y n = ([], a, y) by unfold tk; rw [if_pos (.inl hy)]]
    have c2 := h.c2
    go_enter Tryd.func69, Tryd.ntmps69
    go_wp2
    go_ret
    exact ⟨_, rfl, View.empty w, .inr ⟨hy, t, h⟩, Only.refl _ _⟩

theorem u64_or8 (x c : Int) (hx : x % 256 = 0) (h0 : 0 ≤ c) (h1 : c ≤ 255) (hl : 0 ≤ x) (hu : x ≤ 18446744073709551615) : bits .or .u64 x c = x + c := by
  have hA : ((x % 18446744073709551616).toNat : Int) = x % 18446744073709551616 := Int.toNat_of_nonneg (by omega)
  have hC : (c % 18446744073709551616).toNat = c.toNat := by omega
  have hj : (x % 18446744073709551616).toNat ||| c.toNat = (x % 18446744073709551616).toNat + c.toNat := nat_join 8 _ _ (by omega) (by omega)
  show IntKind.u64.wrap ((BitVec.ofInt 64 x ||| BitVec.ofInt 64 c).toNat : Int) = _
  rw [BitVec.toNat_or, BitVec.toNat_ofInt, BitVec.toNat_ofInt]
  rw [show ((2 ^ 64 : Nat) : Int) = 18446744073709551616 by decide, hC, hj, wrap_u64e]
  omega

theorem wrap_stepu (V : Int) (c : Int) (h0 : 0 ≤ c) (h1 : c ≤ 255) : bits .or .u64 (V % 18446744073709551616 * 256 % 18446744073709551616) c = (V * 256 + c) % 18446744073709551616 := by
  rw [u64_or8 _ _ (by omega) h0 h1 (by omega) (by omega)]
  omega

set_option maxRecDepth 8000 in
set_option maxHeartbeats 1600000 in
theorem refrnum_any (pr : Nat) (v : Value) (l : List Int) (a : Nat) (y bytes : Int) (w : World) (h : IsS pr w v l a y) (hlen : l.length ≤ 140737488351232) :
    Calls Tryd.prog 53 #[.pointer (some ⟨pr, 0, none⟩), .int .i64 bytes] w fun e w' => e = .returned (.int .i64 (IntKind.i64.wrap (beVal (tk l a y (min (max bytes 1) 8)).1))) ∧
      IsS pr w' v l (tk l a y (min (max bytes 1) 8)).2.1 (tk l a y (min (max bytes 1) 8)).2.2 ∧ Only pr w w' := by
  have HW := hidIt (refwidth_any bytes w)
  have HT := hidIt (refbytes_any pr v l a y (min (max bytes 1) 8) w h hlen)
  have htl : (tk l a y (min (max bytes 1) 8)).1.length ≤ 8 := by
    unfold tk; split
    · simp
    · split
      · simp
      · simp only [List.length_take, List.length_drop]; omega
  generalize hT : tk l a y (min (max bytes 1) 8) = T at *
  generalize min (max bytes 1) 8 = W at *
  clear hT h
  obtain ⟨bs, a', y'⟩ := T
  simp only at htl ⊢ HT
  go_enter Tryd.func53, Tryd.ntmps53
  go_wp2_with fail
  refine HW.out.mono ?_
  rintro e w' ⟨rfl, hww⟩; cases hww
  go_wp2_with fail
  refine HT.out.mono ?_
  rintro e w1 ⟨v1, rfl, V1, h1, o1⟩
  clear HT HW
  obtain ⟨ao, cap, rfl, hc, hm, hby, hl⟩ := V1
  go_wp2
  go_loop [5, 13] (fun n i => ∃ k : Nat, k ≤ bs.length ∧ i = .int .i64 (k : Int) ∧ n = .int .u64 (beVal (bs.take k) % 18446744073709551616)) (fun _ i => bs.length - (intOf i).toNat)
  case atStart => exact ⟨0, Nat.zero_le _, rfl, rfl⟩
  case round =>
    obtain ⟨k, hk, rfl, rfl⟩ := hrel
    by_cases hlt : k < bs.length
    · obtain ⟨g, off, rfl, hl2⟩ : ∃ g off, ao = some ⟨g, off, none⟩ ∧ Lies w1 g off bs := by
        rcases hl with e | h
        · rw [e] at hlt; simp at hlt
        · exact h
      clear hl
      have hcell := hl2 k bs[k] (by simp [hlt])
      have hb := hby bs[k] (by simp)
      have hsn : Hid (bs.take (k + 1) = bs.take k ++ [bs[k]]) := by
        show _ = _
        rw [List.take_succ_eq_append_getElem hlt]
      generalize bs[k] = c at *
      obtain ⟨hb0, hb1⟩ := hb
      generalize hV : beVal (bs.take k) = V at *
      have HV := hidIt hV
      clear hV hl2 hby
      have HWP := hidIt (wrap_stepu V c hb0 hb1)
      have hlt' : (k : Int) < (bs.length : Int) := by omega
      go_wp2
      refine ⟨⟨k + 1, by omega, by go_num, congrArg (Value.int .u64) ?_⟩, by simp [intOf]; omega⟩
      rw [hsn.out, beVal_snoc, HV.out, wrap_u64e]
      exact HWP.out
    · go_wp2
      go_ret
      rw [List.take_of_length_le (by omega)]
      have e : wrap64 (beVal bs % 18446744073709551616) = IntKind.i64.wrap (beVal bs) := by rw [wrap64_eq, IntKind.wrap_i64, IntKind.wrap_i64]; omega
      refine ⟨?_, h1, o1⟩
      show Ending.returned (Value.int .i64 (wrap64 (beVal bs % 18446744073709551616))) = _
      rw [e]

theorem tk_empty (l : List Int) (a : Nat) (y n : Int) (h : (tk l a y n).2.2 ≠ 0) : (tk l a y n).1 = [] := by
  unfold tk at h ⊢; split
  · rfl
  · split
    · rfl
    · rename_i h1 h2
      rw [if_neg h1, if_neg h2] at h
      exact absurd rfl h

set_option maxRecDepth 8000 in
set_option maxHeartbeats 1600000 in
theorem refrtext_any (pr : Nat) (v : Value) (l : List Int) (a : Nat) (y : Int) (w : World) (h : IsS pr w v l a y) (hlen : l.length ≤ 140737488351232) :
    Calls Tryd.prog 55 #[.pointer (some ⟨pr, 0, none⟩)] w fun e w' => e = .returned (.string (rtext l a y).1) ∧ IsS pr w' v l (rtext l a y).2.1 (rtext l a y).2.2 ∧ Only pr w w' := by
  have hV : View w v l := by
    rcases h with ⟨_, h⟩ | ⟨_, _, h⟩
    · exact h.view
    · exact h.view
  have hby : AllBytes l := by obtain ⟨_, _, _, _, _, h, _⟩ := hV; exact h
  have h1 := refrnum_any pr v l a y 2 w h hlen
  rw [show min (max (2 : Int) 1) 8 = 2 by decide] at h1
  have hbv := beVal_two (tk l a y 2).1 (tk_bytes _ _ _ _ hby) (by have := (tk_len l a y 2).1; omega)
  have hem := tk_empty l a y 2
  rw [show IntKind.i64.wrap (beVal (tk l a y 2).1) = beVal (tk l a y 2).1 from wraps_small _ (by omega) (by omega)] at h1
  obtain ⟨⟨bs, a1, y1⟩, hT⟩ : ∃ T, tk l a y 2 = T := ⟨_, rfl⟩
  rw [hT] at h1 hbv hem
  simp only at h1 hbv hem
  obtain ⟨⟨us, a2, y2⟩, hU⟩ : ∃ U, tk l a1 (if 256 < beVal bs then fl y1 3 else y1) (beVal bs) = U := ⟨_, rfl⟩
  have hu := tk_len l a1 (if 256 < beVal bs then fl y1 3 else y1) (beVal bs)
  have hemu := tk_empty l a1 (if 256 < beVal bs then fl y1 3 else y1) (beVal bs)
  rw [hU] at hu hemu
  simp only at hu hemu
  have HS := hidIt (fun xs (h : decL us = some xs) => rtext_some hT hU h)
  have HN := hidIt (fun (h : decL us = none) => rtext_none hT hU h)
  generalize rtext l a y = R at *
  obtain ⟨tx, a3, y3⟩ := R
  simp only
  have HU := hidIt hU
  have H1 := hidIt h1
  have hy1 : 256 < beVal bs → y1 = 0 := by
    intro h
    by_cases e : y1 = 0
    · exact e
    · rw [hem e] at h; simp [beVal] at h
  clear h1 h hU hT hem hV
  generalize beVal bs = n at *
  obtain ⟨hn0, hn1⟩ := hbv
  have HI : Hid (∀ W a' y', IsS pr W v l a' y' → W.cell? ⟨pr, 2, none⟩ = some (.bool (decide (y' ≠ 0)))) := by
    intro W a' y' h
    rcases h with ⟨e, h⟩ | ⟨e, t, h⟩
    · rw [h.c2]; simp [e]
    · rw [h.c2]; simp [e]
  by_cases h256 : 256 < n
  · rw [if_pos h256] at HU
    obtain rfl := hy1 h256
    go_enter Tryd.func55, Tryd.ntmps55
    go_wp2_with fail
    refine H1.out.mono ?_
    rintro e w1 ⟨rfl, r1, o1⟩
    have r1 := r1.zero
    have d1 := r1.c1
    go_wp2_with fail
    refine (refuse_yes pr v l a1 0 0 3 (a1 : Int) w1 r1).mono ?_
    rintro e w2 ⟨rfl, r2, o2⟩
    go_wp2
    go_ret
    have e0 : tk l a1 (fl 0 3) n = ([], a1, 3) := by unfold tk fl; rw [if_pos rfl, if_pos (.inl (by decide))]
    rw [e0] at HU
    have e1 := HU.out
    simp only [Prod.mk.injEq] at e1
    obtain ⟨rfl, rfl, rfl⟩ := e1
    have e2 := HS.out [] (by rfl)
    simp only [Prod.mk.injEq] at e2
    obtain ⟨rfl, rfl, rfl⟩ := e2
    exact ⟨rfl, .inr ⟨by decide, _, r2⟩, o1.trans o2⟩
  · rw [if_neg h256] at HU
    clear hy1
    go_enter Tryd.func55, Tryd.ntmps55
    go_wp2_with fail
    refine H1.out.mono ?_
    rintro e w1 ⟨rfl, r1, o1⟩
    go_wp2_with fail
    refine (refbytes_any pr v l a1 y1 n w1 r1 hlen).mono ?_
    rw [HU.out]
    rintro e w2 ⟨u2, rfl, V2, r2, o2⟩
    simp only at V2 r2
    have d2 := HI.out w2 a2 y2 r2
    by_cases hy2 : y2 = 0
    · subst hy2
      have r2 := r2.zero
      have d1 := r2.c1
      have d2 := r2.c2
      clear HU H1 hemu
      go_wp2_with fail
      refine (refdec_any u2 us w2 V2 (by omega)).mono ?_
      rintro e w4 ⟨b4, hd⟩
      have r4 := r2.below b4
      have d4 := r4.c1
      rcases hd with ⟨xs, hx, rfl⟩ | ⟨hx, rfl⟩
      · go_wp2_with fail
        go_ret
        have hR := HS.out xs hx
        simp only [Prod.mk.injEq] at hR
        obtain ⟨rfl, rfl, rfl⟩ := hR
        exact ⟨rfl, .inl ⟨rfl, r4⟩, o1.trans (o2.trans (Only.of_below b4))⟩
      · go_wp2_with fail
        refine (refuse_yes pr v l a2 0 0 12 (a2 : Int) w4 r4).mono ?_
        rintro e w5 ⟨rfl, r5, o5⟩
        go_wp2
        go_ret
        have hR := HN.out hx
        simp only [Prod.mk.injEq] at hR
        obtain ⟨rfl, rfl, rfl⟩ := hR
        exact ⟨rfl, .inr ⟨by decide, _, r5⟩, o1.trans (o2.trans ((Only.of_below b4).trans o5))⟩
    · obtain rfl := hemu hy2
      rw [show decide (y2 ≠ 0) = true by simpa using hy2] at d2
      go_wp2
      go_ret
      have hR := HS.out [] (by rfl)
      simp only [Prod.mk.injEq] at hR
      obtain ⟨rfl, rfl, rfl⟩ := hR
      rw [show fl y2 0 = y2 by unfold fl; rw [if_neg hy2]]
      exact ⟨rfl, r2, o1.trans o2⟩
end Go.Proofs.YtjnaiekdbigikaaDoor
