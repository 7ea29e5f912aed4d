/- DescrBack, walked. -/
import Derived.Test.YtnbakgffgdiafaaMn
import Derived.Deep.RegionHeld3
import Derived.Deep.AppendLies
import Derived.Deep.CutRange
namespace Go.Proofs.Ytnbakgffgdiafaa
open Go.RowKit

theorem below_dr {B : Nat} {a w : World} (h : Below B a w) : Below B a w.drew := ⟨h.os, h.tape, h.output, h.size, h.block⟩

/-- A list of numbers that came in. -/
def ILies (w : World) (g off : Nat) (xs : List Int) : Prop := ∀ (j : Nat) x, xs[j]? = some x → w.cell? ⟨g, off + j, none⟩ = some (.int .i64 x)
def IView (w : World) (v : Value) (xs : List Int) : Prop :=
  ∃ ao cap, v = .slice ao xs.length cap ∧ xs.length ≤ cap ∧ cap ≤ maxLen ∧ (xs = [] ∨ ∃ g off, ao = some ⟨g, off, none⟩ ∧ ILies w g off xs)
theorem IView.below {w wr : World} {v : Value} {l : List Int} (h : IView w v l) (hb : Below w.heap.size w wr) : IView wr v l := by
  obtain ⟨ao, cap, rfl, hc, hm, hl⟩ := h
  refine ⟨ao, cap, rfl, hc, hm, ?_⟩
  rcases hl with h | ⟨g, off, e, hl⟩
  · exact .inl h
  · exact .inr ⟨g, off, e, fun j x hj => cell_later hb (Nat.le_refl _) (hl j x hj)⟩

/-- The field of the kind c over the name N. -/
def bpiece (N : Bs) (c : Nat) : Bs := match c with
  | 0 => [73]
  | 1 => 76 :: (N ++ [59])
  | 2 => [91, 73]
  | _ => 91 :: 76 :: (N ++ [59])
theorem bpiece_fld {N : Bs} (h : isName N) (c : Nat) : Fld (bpiece N c) := by
  unfold bpiece
  split
  · exact .inl (.inl rfl)
  · exact .inl (.inr ⟨N, h, rfl⟩)
  · exact .inr ⟨[73], .inl rfl, rfl⟩
  · exact .inr ⟨_, .inr ⟨N, h, rfl⟩, rfl⟩

set_option maxHeartbeats 8000000 in
theorem back_any (vl vk : Value) (xs : List ByteArray) (ks : List Int) (n : Int) (s : ByteArray) (w : World) (hl : View w vl xs) (hk : IView w vk ks) (hxs : ∀ x ∈ xs, x.size ≤ 9223372036854775807) (hs : s.size ≤ 9223372036854775807) :
    Calls Try.prog 5 #[vl, vk, .int .i64 n, .string s] w fun e w' => e = .returned (.bool true) ∧ Below w.heap.size w w' := by
  obtain ⟨i0, hi, hz0, hz1, hz2⟩ := info_parts Try.info9
  have HL := hidIt hl
  have HK := hidIt hk
  obtain ⟨aol, capl, rfl, hcl, hml, -⟩ := hl
  obtain ⟨aok, capk, rfl, hck, hmk, -⟩ := hk
  unfold maxLen at hml hmk
  go_enter Try.func5, Try.ntmps5
  go_wp2
  go_loopw [9, 10] (fun pv iv wr => ∃ (k : Nat) (ps : List Bs), iv = .int .i64 (k : Int) ∧ k ≤ 8 ∧ k ≤ ks.length ∧ ps.length = k ∧ wr.ownsRow w.heap.size 9 1 pv k (scells ps) ∧ Below w.heap.size w wr ∧ Hid (∀ p ∈ ps, Fld p)) (fun _ iv _ => 8 - (intOf iv).toNat)
  case atStart => exact ⟨0, [], rfl, by omega, by omega, rfl, ⟨rfl, .inl ⟨rfl, rfl⟩⟩, Below.refl _ _, by intro p hp; cases hp⟩
  case round =>
    obtain ⟨k, ps, rfl, hk8, hkl, hpl, hown, hbw, hfl⟩ := hrel
    have hsz := hbw.size
    obtain ⟨ao, cap, rfl⟩ := own_slice hown
    by_cases hlt : k < ks.length ∧ k < 8
    · obtain ⟨hlt1, hlt2⟩ := hlt
      have hlt1' : (k : Int) < (ks.length : Int) := by omega
      have hlt2' : (k : Int) < 8 := by omega
      have hB : ∃ (b : Bool) (NN : ByteArray), isName NN.data.toList ∧
          ((b = false ∧ NN = ⟨#[97]⟩ ∧ (¬ k < xs.length ∨ ∃ g off x, aol = some ⟨g, off, none⟩ ∧ wr.cell? ⟨g, off + k, none⟩ = some (.string x) ∧ x.size ≤ 9223372036854775807 ∧ nameB x.data.toList = false ∧ k < xs.length)) ∨
           (b = true ∧ ∃ g off, aol = some ⟨g, off, none⟩ ∧ wr.cell? ⟨g, off + k, none⟩ = some (.string NN) ∧ NN.size ≤ 9223372036854775807 ∧ nameB NN.data.toList = true ∧ k < xs.length)) := by
        have ha : isName (ByteArray.mk #[97]).data.toList := (nameB_iff _).1 (by decide +kernel)
        by_cases hx : k < xs.length
        · obtain ⟨ao', cap', e, _, _, h | ⟨g, off, rfl, h⟩⟩ := HL.out
          · rw [h] at hx; simp at hx
          · cases e
            have hc := cell_later hbw (Nat.le_refl _) (h k xs[k] (by simp [hx]))
            have hsx := hxs xs[k] (List.getElem_mem hx)
            by_cases hnb : nameB (xs[k]).data.toList = true
            · exact ⟨true, xs[k], (nameB_iff _).1 hnb, .inr ⟨rfl, g, off, rfl, hc, hsx, hnb, hx⟩⟩
            · exact ⟨false, _, ha, .inl ⟨rfl, rfl, .inr ⟨g, off, xs[k], rfl, hc, hsx, by simpa using hnb, hx⟩⟩⟩
        · exact ⟨false, _, ha, .inl ⟨rfl, rfl, .inl hx⟩⟩
      obtain ⟨b, NN, hN, hB⟩ := hB
      go_upto_region 6 with fail
      go_cut [39] from 19 to 59 (fun s39 wx => s39 = .bool b ∧ wx = wr)
      case first =>
        rcases hB with ⟨rfl, rfl, hB | ⟨g, off, x, rfl, hc, hsx, hnb, hx⟩⟩ | ⟨rfl, g, off, rfl, hc, hsx, hnb, hx⟩
        · have hx' : ¬ (k : Int) < (xs.length : Int) := by omega
          go_wp2
          go_meet
          exact ⟨rfl, rfl⟩
        · have hx' : (k : Int) < (xs.length : Int) := by omega
          have hR := hidIt (rname_any x wr hsx)
          rw [hnb] at hR
          clear hnb
          go_wp2_with fail
          refine hR.out.mono ?_
          rintro e w' ⟨rfl, hww⟩; cases hww
          go_wp2
          go_meet
          exact ⟨rfl, rfl⟩
        · have hx' : (k : Int) < (xs.length : Int) := by omega
          have hR := hidIt (rname_any NN wr hsx)
          rw [hnb] at hR
          clear hnb
          go_wp2_with fail
          refine hR.out.mono ?_
          rintro e w' ⟨rfl, hww⟩; cases hww
          go_wp2
          go_meet
          exact ⟨rfl, rfl⟩
      case rest =>
        obtain ⟨rfl, rfl⟩ := hcut
        go_upto_if 39 with fail
        go_cut [11] from 19 to 59 (fun s11 wx => s11 = .string NN ∧ wx = wc)
        case first =>
          rcases hB with ⟨rfl, rfl, -⟩ | ⟨rfl, g, off, rfl, hc, hsx, hnb, hx⟩
          · go_wp2
            go_meet
            exact ⟨rfl, rfl⟩
          · have hx' : (k : Int) < (xs.length : Int) := by omega
            go_wp2
            go_meet
            exact ⟨rfl, rfl⟩
        case rest =>
          obtain ⟨rfl, rfl⟩ := hcut
          clear hB hxs HL
          have hNs : NN.size ≤ 64 := by rw [size_len]; exact hN.2.1
          obtain ⟨g, off, rfl, x, hcK⟩ : ∃ g off, aok = some ⟨g, off, none⟩ ∧ ∃ x, wc.cell? ⟨g, off + k, none⟩ = some (.int .i64 x) := by
            obtain ⟨ao', cap', e, _, _, h | ⟨g, off, rfl, h⟩⟩ := HK.out
            · rw [h] at hlt1; simp at hlt1
            · cases e
              exact ⟨g, off, rfl, ks[k], cell_later hbw (Nat.le_refl _) (h k ks[k] (by simp [hlt1]))⟩
          clear HK
          have hcK2 : ∀ o, (wc.alloc o).cell? ⟨g, off + k, none⟩ = some (.int .i64 x) := fun o => cell_later ((Below.refl _ wc).alloc (Nat.le_refl _) o) (Nat.le_refl _) hcK
          have hnew : ∀ o o2, ((wc.alloc o).alloc o2).heap[wc.heap.size + 1]? = some o2 := fun o o2 => by have := heap_alloc_new (wc.alloc o) o2; simpa using this
          have HR := hidIt (fun w => ref_any NN w (by omega))
          have HP := hidIt (bpiece_fld hN)
          have HR1 : Hid (str (76 :: (NN.data.toList ++ [59])) = str (bpiece NN.data.toList 1)) := rfl
          have HR3 : Hid ({ data := #[91] } ++ str (76 :: (NN.data.toList ++ [59])) = str (bpiece NN.data.toList 3)) := by
            refine str_of ?_
            rw [cat_data, data_str]; rfl
          have hRs : (str (76 :: (NN.data.toList ++ [59]))).size ≤ 66 := by
            rw [str_size]; simp; omega
          generalize str (76 :: (NN.data.toList ++ [59])) = RR at *
          have hcat : ¬ 9223372036854775807 < 1 + RR.size := by omega
          have HW := hidIt (fun w => within_any x 3 (.inr (.inl rfl)) w)
          rw [show (3 : Int) + 1 = 4 from rfl] at HW
          obtain ⟨c, hc⟩ : ∃ c : Nat, x % 4 = (c : Int) := ⟨(x % 4).toNat, by omega⟩
          have hc4 : c < 4 := by omega
          have hc4' : (c : Int) < 4 := by omega
          rw [hc] at HW
          clear hc
          obtain ⟨X, hX, hX2⟩ : ∃ X : ByteArray, X = str (bpiece NN.data.toList c) ∧ #[Value.string ⟨#[73]⟩, .string RR, .string ⟨#[91, 73]⟩, .string ({ data := #[91] } ++ RR)][c]? = some (.string X) := by
            match c, hc4 with
            | 0, _ => exact ⟨_, rfl, rfl⟩
            | 1, _ => exact ⟨_, rfl, by rw [← HR1.out]; rfl⟩
            | 2, _ => exact ⟨_, rfl, rfl⟩
            | 3, _ => exact ⟨_, rfl, by rw [← HR3.out]; rfl⟩
            | _ + 4, h => omega
          have hcF : (wc.alloc (.cells #[Value.string ⟨#[73]⟩, .string RR, .string ⟨#[91, 73]⟩, .string ({ data := #[91] } ++ RR)] 9)).cell? ⟨wc.heap.size, c, none⟩ = some (.string X) := by
            rw [cell_of_row _ wc.heap.size c _ 9 (0, 0) (heap_alloc_new wc _)]; exact hX2
          have HX := hidIt hX
          clear hX hX2 HR1 HR3
          go_wp2_with fail
          go_region_law
            (first
              | (go_simp; go_at_call 12; refine (HR.out _).mono ?_; rintro e w' ⟨rfl, hww⟩; cases hww)
              | (go_simp; go_at_call 23; refine (HW.out _).mono ?_; rintro e w' ⟨rfl, hww⟩; cases hww)
              | (refine step_append_lies _ (by rfl) _ _ _ (by rfl) w.heap.size 9 i0 (.string ⟨#[]⟩) 1 16 Try.underlying22 hi hz0 hz1 hz2 rfl (by omega) (.slice ao k cap) _ _ (by rfl) ((hown.alloc _).alloc _) ⟨wc.heap.size + 1, 0, none⟩ 1 1 [.string X] (by rfl) rfl (World.news_of_block (hnew _ _)) (by intro u hu; simp at hu; subst hu; rfl) (by omega) (by unfold maxLen; omega) (by omega) (by simp; omega) _ rfl ?_; intro gg cap2 w2 hown2 hgrow hat hlt))
          all_goals
            have B2 : Below w.heap.size w w2 := (below_dr ((hbw.alloc hsz _).alloc (by simp; omega) _)).grown hgrow (by simp; omega) (fun k hk => (hown.lt k hk).1)
            clear hgrow hat hlt hcF hcK hcK2 hnew hcat HR HW
            go_wp2
            refine ⟨⟨k + 1, ps ++ [bpiece NN.data.toList c], by go_num, by omega, by omega, by simp; omega, ?_, B2, ?_⟩, by simp [intOf]; omega⟩
            · rw [scells_snoc, ← HX.out]; exact hown2
            · intro p hp
              rcases List.mem_append.1 hp with hp | hp
              · exact hfl.out p hp
              · simp at hp; subst hp; exact HP.out c
    · have hend : k = ks.length ∨ k = 8 := by omega
      have HF := hidIt hfl.out
      have hfl67 := flat_len hfl.out
      clear hfl HL HK hxs
      have HW := hidIt (fun w => within_any n 2 (.inr (.inr rfl)) w)
      rw [show (2 : Int) + 1 = 3 from rfl] at HW
      obtain ⟨c, hc⟩ : ∃ c : Nat, n % 3 = (c : Int) := ⟨(n % 3).toNat, by omega⟩
      have hc3 : c < 3 := by omega
      have hc3' : (c : Int) < 3 := by omega
      rw [hc] at HW
      clear hc
      obtain ⟨rr, hrr, hrl, hX2⟩ : ∃ rr : Bs, (rr = [86] ∨ Fld rr) ∧ rr.length ≤ 3 ∧ #[Value.string ⟨#[86]⟩, .string ⟨#[73]⟩, .string ⟨#[76, 65, 59]⟩][c]? = some (.string (str rr)) := by
        match c, hc3 with
        | 0, _ => exact ⟨[86], .inl rfl, by decide, rfl⟩
        | 1, _ => exact ⟨[73], .inr (.inl (.inl rfl)), by decide, rfl⟩
        | 2, _ => exact ⟨[76, 65, 59], .inr ((fieldB_iff _).1 (by decide +kernel)), by decide, rfl⟩
        | _ + 3, h => omega
      have hcF : (wr.alloc (.cells #[Value.string ⟨#[86]⟩, .string ⟨#[73]⟩, .string ⟨#[76, 65, 59]⟩] 9)).cell? ⟨wr.heap.size, c, none⟩ = some (.string (str rr)) := by
        rw [cell_of_row _ wr.heap.size c _ 9 (0, 0) (heap_alloc_new wr _)]; exact hX2
      have HM : Hid (meth (joinZ (ps.map str) (str rr)) = some (ps, rr)) := by
        refine meth_of ⟨?_, HF.out, by omega, hrr⟩
        unfold joinZ
        rw [List.map_map, data_str]
        congr 2
        rw [show ((fun x : ByteArray => x.data.toList) ∘ str) = id from rfl, List.map_id]
      have hJl : ((ps.map str).map (·.data.toList)).flatten.length ≤ 67 * 8 := by
        rw [List.map_map, show ((fun x : ByteArray => x.data.toList) ∘ str) = id from rfl, List.map_id]; omega
      have hJs : (str (joinZ (ps.map str) (str rr))).size ≤ 67 * 8 + 10 := by
        rw [str_size]; unfold joinZ; rw [data_str]; simp only [List.length_cons, List.length_append]; omega
      have hrs : (str rr).size ≤ 3 := by rw [str_size]; exact hrl
      have VP : View wr (.slice ao k cap) (ps.map str) := View.of_own (by rw [hpl]; exact hown)
      have hpm : (ps.map str).length ≤ 8 := by simp; omega
      have bA : Below wr.heap.size wr (wr.alloc (.cells #[Value.string ⟨#[86]⟩, .string ⟨#[73]⟩, .string ⟨#[76, 65, 59]⟩] 9)) := (Below.refl _ _).alloc (Nat.le_refl _) _
      have VA := VP.below bA
      have BA : Below w.heap.size w (wr.alloc (.cells #[Value.string ⟨#[86]⟩, .string ⟨#[73]⟩, .string ⟨#[76, 65, 59]⟩] 9)) := hbw.alloc hsz _
      have hexit : ¬ (k : Int) < (ks.length : Int) ∨ ((k : Int) < (ks.length : Int) ∧ ¬ (k : Int) < 8) := by omega
      have HO : Hid (k = ps.length) := hpl.symm
      clear hlt hend hrr hrl hX2 hfl67 VP bA HF hown hbw hk8 hkl hpl
      rcases hexit with hx1 | ⟨hx1, hx2⟩
      all_goals
        go_wp2_with fail
        refine (HW.out _).mono ?_
        rintro e w' ⟨rfl, hww⟩; cases hww
        go_wp2_with fail
        clear hcF HW
        generalize wr.alloc (.cells #[Value.string ⟨#[86]⟩, .string ⟨#[73]⟩, .string ⟨#[76, 65, 59]⟩] 9) = wA at *
        refine (join_any _ (ps.map str) (str rr) wA VA (by omega) (by omega) (by omega)).mono ?_
        rintro e w1 ⟨rfl, b1⟩
        have B1 : Below w.heap.size w w1 := BA.trans (b1.mono BA.size)
        have V1 := VA.below b1
        clear b1 VA BA
        go_wp2_with fail
        refine (method_any _ w1 (by omega)).mono ?_
        rintro e w2 ⟨b2, h2⟩
        obtain ⟨v2, rfl, o2⟩ := ans_some h2 (by rw [data_str]; exact HM.out)
        have V2 := View.of_own o2
        rw [← HO.out] at o2
        obtain ⟨ao2, cap2, rfl⟩ := own_slice o2
        have B2 : Below w.heap.size w w2 := B1.trans (b2.mono B1.size)
        have V1' := V1.below b2
        clear h2 o2 b2 B1 V1
        go_wp2_with fail
        refine (same_any _ _ (ps.map str) w2 V1' V2).mono ?_
        rintro e w3 ⟨rfl, q3, rfl⟩
        have B3 : Below w.heap.size w (w2.drewN q3) := ⟨B2.os, B2.tape, B2.output, B2.size, B2.block⟩
        clear B2 V1' V2
        generalize w2.drewN q3 = w3 at *
        go_wp2_with fail
        refine (method_any s w3 hs).mono ?_
        rintro e w4 ⟨b4, h4⟩
        have B4 : Below w.heap.size w w4 := B3.trans (b4.mono B3.size)
        clear b4 B3
        rcases h4 with ⟨qs, r4, v4, hm4, rfl, o4⟩ | ⟨-, rfl⟩
        · have hM := meth_inv hm4
          have V4 := View.of_own o4
          obtain ⟨ao4, cap4, rfl⟩ := own_slice o4
          have hq8 := hM.2.2.1
          have hq67 := flat_len hM.2.1
          have hr67 : r4.length ≤ 67 := by
            rcases hM.2.2.2 with h | h
            · rw [h]; decide
            · exact fld_len h
          have HJ : Hid (str (joinZ (qs.map str) (str r4)) = s) := by
            refine (str_of ?_).symm
            rw [hM.1]
            unfold joinZ
            rw [List.map_map, data_str, show ((fun x : ByteArray => x.data.toList) ∘ str) = id from rfl, List.map_id]
          clear hM hm4 o4
          have hmq : (qs.map str).length ≤ 8 := by simp; omega
          have hr4 : (str r4).size ≤ 67 := by rw [str_size]; exact hr67
          have hfq : ((qs.map str).map (·.data.toList)).flatten.length ≤ 67 * 8 := by
            rw [List.map_map, show ((fun x : ByteArray => x.data.toList) ∘ str) = id from rfl, List.map_id]; omega
          go_wp2_with fail
          refine (join_any _ (qs.map str) (str r4) w4 V4 (by omega) (by omega) (by omega)).mono ?_
          rw [HJ.out]
          rintro e w5 ⟨rfl, b5⟩
          have B5 : Below w.heap.size w w5 := B4.trans (b5.mono B4.size)
          clear B4 b5 V4
          go_wp2_with fail
          refine (known_any w5).mono ?_
          rintro e w6 ⟨rfl, b6⟩
          go_wp2
          go_ret
          exact ⟨rfl, B5.trans (b6.mono B5.size)⟩
        · go_wp2_with fail
          refine (known_any w4).mono ?_
          rintro e w6 ⟨rfl, b6⟩
          go_wp2
          go_ret
          exact ⟨rfl, B4.trans (b6.mono B4.size)⟩
end Go.Proofs.Ytnbakgffgdiafaa
