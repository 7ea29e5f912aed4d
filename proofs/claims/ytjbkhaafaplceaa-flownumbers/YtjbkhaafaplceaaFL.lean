/- leaders of package flow, the whole: walked. -/
import Derived.Test.YtjbkhaafaplceaaFK
import Derived.Test.YtjbkhaafaplceaaFI
namespace Go.Proofs.Ytjbkhaafaplceaa
open Go.RowKit

theorem heap_alloc_new' {w : World} {o : Obj} {k : Nat} (h : k = w.heap.size) : (w.alloc o).heap[k]? = some o := by subst h; exact heap_alloc_new w o
set_option maxRecDepth 8000 in
set_option maxHeartbeats 8000000 in
theorem leaders_any (v u : Value) (l : List IN) (h : List HN) (w : World) (hv : IView w v l) (hu : HView w u h) (hlen : l.length ≤ 140737488355328) :
    Calls Try.prog 39 #[v, u] w fun e w' => ∃ g, e = .returned (.slice (some ⟨g, 0, none⟩) l.length l.length) ∧ w.heap.size ≤ g ∧ w'.heap[g]? = some (.cells (bcellsB (leadZ l h)) 4 (0, 0)) ∧ (leadZ l h).length = l.length ∧ Below w.heap.size w w' := by
  have HV := hidIt hv
  have HU := hidIt hu
  have GT0 := hidIt (fun (x : IN) W (hb : Below w.heap.size w W) => target_any v l x W (hv.below hb))
  have GF := hidIt (fun (p : Int) W (hb : Below w.heap.size w W) => find_any v l p W (hv.below hb))
  have GL := hidIt (fun (d : List Bool) (n : Int) W (hp : LdP w.heap.size (w.heap.size + 1 + 1) (w.heap.size + 1) v l d W) => lead_any w.heap.size (w.heap.size + 1 + 1) (w.heap.size + 1) v l d n W hp (by obtain ⟨ao, cap, e, -⟩ := hv; exact ⟨ao, cap, e⟩))
  obtain ⟨i0, hi, hz0, hz1, hz2⟩ := info_parts Try.infoB
  obtain ⟨ao, cap, rfl, hc, hm, _⟩ := hv
  obtain ⟨ao2, cap2, rfl, hc2, hm2, _⟩ := hu
  unfold maxLen at hm hm2
  unfold IN.val at GT0
  have hgl : w.heap.size ≤ w.heap.size + 1 := Nat.le_succ _
  have HZ0 : Hid (lead2 l h (lead1 l 0 (l.drop 0) (setB (List.replicate l.length false) 0)) = leadZ l h) := rfl
  generalize leadZ l h = Z at *
  have hA1 := below_alloc w (.cells #[.slice ao l.length cap] 25)
  have HP : Hid (LdP w.heap.size (w.heap.size + 1 + 1) (w.heap.size + 1) (.slice ao l.length cap) l (List.replicate l.length false) (((w.alloc (.cells #[.slice ao l.length cap] 25)).alloc (.cells (madeCells #[.bool false] l.length) 4)).alloc (.cells #[.slice (some ⟨w.heap.size + 1, 0, none⟩) l.length l.length] 53))) := by
    refine ⟨?_, ?_, ?_, by simp⟩
    · rw [(below_alloc _ _).block _ (by simp; omega), (below_alloc _ _).block _ (by simp)]; exact heap_alloc_new _ _
    · exact heap_alloc_new' (by simp)
    · rw [(below_alloc _ _).block _ (by simp), ← made_bools]; exact heap_alloc_new' (by simp)
  have HB : Hid (Below w.heap.size w (((w.alloc (.cells #[.slice ao l.length cap] 25)).alloc (.cells (madeCells #[.bool false] l.length) 4)).alloc (.cells #[.slice (some ⟨w.heap.size + 1, 0, none⟩) l.length l.length] 53))) := ((hA1.alloc (by simp) _).alloc (by simp; omega) _)
  clear hA1
  go_enter Try.func39, Try.ntmps39
  go_upto_region 3 with (at_make; refine wpList_make_row _ rfl _ _ 53 rfl 4 i0 (.bool false) Try.underlying53 hi hz0 hz1 rfl _ _ l.length rfl rfl (by rw [hz2]; omega) (by omega) ?_)
  generalize (((w.alloc (.cells #[.slice ao l.length cap] 25)).alloc (.cells (madeCells #[.bool false] l.length) 4)).alloc (.cells #[.slice (some ⟨w.heap.size + 1, 0, none⟩) l.length l.length] 53)) = W3 at *
  generalize w.heap.size + 1 + 1 = bb at *
  generalize w.heap.size + 1 = gl at *
  have hz := HB.out.size
  have b0 := cell_row HP.out.box 0 rfl
  have b1 := cell_row HP.out.bit 0 rfl
  go_upto_region 4 with (go_at_call 52; refine (GL.out _ _ _ HP.out).mono ?_; clear hz b0 b1; rintro e wn ⟨rfl, hp, ho⟩; have HB2 := hidIt (HB.out.trans (ho.below hgl)); have HP2 := hidIt hp; clear HB HP hp ho; have HB := HB2; have HP := HP2; clear HB2 HP2; have hz := HB.out.size; have b0 := cell_row HP.out.box 0 rfl; have b1 := cell_row HP.out.bit 0 rfl)
  go_wp2_with fail
  go_loopw [7, 8, 19] (fun _ _ i wr => ∃ (k : Nat) (d : List Bool), k ≤ l.length ∧ i = .int .i64 (k : Int) ∧ LdP w.heap.size bb gl (.slice ao l.length cap) l d wr ∧ Below w.heap.size w wr ∧ lead2 l h (lead1 l k (l.drop k) d) = Z) (fun _ _ i _ => l.length - (intOf i).toNat)
  case atStart => exact ⟨0, _, Nat.zero_le _, rfl, HP.out, HB.out, HZ0.out⟩
  case round =>
    clear HP HB HZ0 hz b0 b1
    obtain ⟨k, d, hk, rfl, hp, hb, hZ⟩ := hrel
    have HP := hidIt hp
    have HB := hidIt hb
    have HZ := hidIt hZ
    clear hp hb hZ
    have hz := HB.out.size
    have b0 := cell_row HP.out.box 0 rfl
    have b1 := cell_row HP.out.bit 0 rfl
    by_cases hlt : k < l.length
    · have hlt' : (k : Int) < (l.length : Int) := by omega
      obtain ⟨x, hx⟩ : ∃ x, l[k]? = some x := ⟨l[k], List.getElem?_eq_getElem hlt⟩
      obtain ⟨g, off, rfl, c0, c1, c2, c3⟩ := (HV.out.below HB.out).row hx
      rw [drop_at hx, lead1_cons] at HZ
      have GT := hidIt (fun W hb => GT0.out x W hb)
      have GB := hidIt (fun W => branch_any x.op W)
      have GE := hidIt (fun W => ends_any x.op W)
      have hA := below_alloc wr (.cells #[.int .i64 x.pl, .int .i64 x.op, .int .i64 x.a, .int .i64 x.b] 23)
      have HX := hidIt (heap_alloc_new wr (.cells #[.int .i64 x.pl, .int .i64 x.op, .int .i64 x.a, .int .i64 x.b] 23))
      have HB2 := hidIt (HB.out.trans (hA.mono HB.out.size))
      have HP2 := hidIt (HP.out.below hA)
      go_upto_region 7 with (fail)
      clear hA HB HP c0 c1 c2 c3 b0 b1 hz hx
      have HB := HB2
      have HP := HP2
      clear HB2 HP2
      generalize wr.alloc (.cells #[.int .i64 x.pl, .int .i64 x.op, .int .i64 x.a, .int .i64 x.b] 23) = wx at *
      generalize wr.heap.size = bx at *
      have hz := HB.out.size
      have b0 := cell_row HP.out.box 0 rfl
      have b1 := cell_row HP.out.bit 0 rfl
      have d0 := cell_row HX.out 0 rfl
      have d1 := cell_row HX.out 1 rfl
      have d2 := cell_row HX.out 2 rfl
      have d3 := cell_row HX.out 3 rfl
      by_cases h6 : kd x.op = 6
      · rw [decide_eq_true h6] at GB HZ
        go_wp2_with (first | (go_at_call 30; refine (GT.out _ HB.out).mono ?_; clear hz b0 b1 d0 d1 d2 d3; rintro e wn ⟨rfl, hb1⟩; have HX2 := hidIt ((hb1.block _ (Array.getElem?_eq_some_iff.1 HX.out).1).trans HX.out); have HB2 := hidIt (HB.out.trans (hb1.mono HB.out.size)); have HP2 := hidIt (HP.out.below hb1); clear HB HP hb1; have HB := HB2; have HP := HP2; clear HB2 HP2; have hz := HB.out.size; have b0 := cell_row HP.out.box 0 rfl; have b1 := cell_row HP.out.bit 0 rfl; clear HX; have HX := HX2; clear HX2; have d0 := cell_row HX.out 0 rfl; have d1 := cell_row HX.out 1 rfl; have d2 := cell_row HX.out 2 rfl; have d3 := cell_row HX.out 3 rfl) | (go_at_call 52; refine (GL.out _ _ _ HP.out).mono ?_; clear hz b0 b1 d0 d1 d2 d3; rintro e wn ⟨rfl, hp, ho⟩; have HX2 := hidIt ((ho.block _ (other_block HX.out HP.out.row (by decide))).trans HX.out); have HB2 := hidIt (HB.out.trans (ho.below hgl)); have HP2 := hidIt hp; clear HB HP hp ho; have HB := HB2; have HP := HP2; clear HB2 HP2; have hz := HB.out.size; have b0 := cell_row HP.out.box 0 rfl; have b1 := cell_row HP.out.bit 0 rfl; clear HX; have HX := HX2; clear HX2; have d0 := cell_row HX.out 0 rfl; have d1 := cell_row HX.out 1 rfl; have d2 := cell_row HX.out 2 rfl; have d3 := cell_row HX.out 3 rfl) | (go_at_call 43; refine (GB.out _).mono ?_; rintro e w' ⟨rfl, hww⟩; cases hww) | (go_at_call 29; refine (GE.out _).mono ?_; rintro e w' ⟨rfl, hww⟩; cases hww))
        exact ⟨⟨k + 1, _, by omega, by go_num, HP.out, HB.out, by simpa using HZ.out⟩, by simp [intOf]; omega⟩
      · rw [decide_eq_false h6] at GB HZ
        cases he : endsB x.op with
        | true =>
          rw [he] at GE HZ
          go_wp2_with (first | (go_at_call 30; refine (GT.out _ HB.out).mono ?_; clear hz b0 b1 d0 d1 d2 d3; rintro e wn ⟨rfl, hb1⟩; have HX2 := hidIt ((hb1.block _ (Array.getElem?_eq_some_iff.1 HX.out).1).trans HX.out); have HB2 := hidIt (HB.out.trans (hb1.mono HB.out.size)); have HP2 := hidIt (HP.out.below hb1); clear HB HP hb1; have HB := HB2; have HP := HP2; clear HB2 HP2; have hz := HB.out.size; have b0 := cell_row HP.out.box 0 rfl; have b1 := cell_row HP.out.bit 0 rfl; clear HX; have HX := HX2; clear HX2; have d0 := cell_row HX.out 0 rfl; have d1 := cell_row HX.out 1 rfl; have d2 := cell_row HX.out 2 rfl; have d3 := cell_row HX.out 3 rfl) | (go_at_call 52; refine (GL.out _ _ _ HP.out).mono ?_; clear hz b0 b1 d0 d1 d2 d3; rintro e wn ⟨rfl, hp, ho⟩; have HX2 := hidIt ((ho.block _ (other_block HX.out HP.out.row (by decide))).trans HX.out); have HB2 := hidIt (HB.out.trans (ho.below hgl)); have HP2 := hidIt hp; clear HB HP hp ho; have HB := HB2; have HP := HP2; clear HB2 HP2; have hz := HB.out.size; have b0 := cell_row HP.out.box 0 rfl; have b1 := cell_row HP.out.bit 0 rfl; clear HX; have HX := HX2; clear HX2; have d0 := cell_row HX.out 0 rfl; have d1 := cell_row HX.out 1 rfl; have d2 := cell_row HX.out 2 rfl; have d3 := cell_row HX.out 3 rfl) | (go_at_call 43; refine (GB.out _).mono ?_; rintro e w' ⟨rfl, hww⟩; cases hww) | (go_at_call 29; refine (GE.out _).mono ?_; rintro e w' ⟨rfl, hww⟩; cases hww))
          exact ⟨⟨k + 1, _, by omega, by go_num, HP.out, HB.out, by simpa using HZ.out⟩, by simp [intOf]; omega⟩
        | false =>
          rw [he] at GE HZ
          go_wp2_with (first | (go_at_call 30; refine (GT.out _ HB.out).mono ?_; clear hz b0 b1 d0 d1 d2 d3; rintro e wn ⟨rfl, hb1⟩; have HX2 := hidIt ((hb1.block _ (Array.getElem?_eq_some_iff.1 HX.out).1).trans HX.out); have HB2 := hidIt (HB.out.trans (hb1.mono HB.out.size)); have HP2 := hidIt (HP.out.below hb1); clear HB HP hb1; have HB := HB2; have HP := HP2; clear HB2 HP2; have hz := HB.out.size; have b0 := cell_row HP.out.box 0 rfl; have b1 := cell_row HP.out.bit 0 rfl; clear HX; have HX := HX2; clear HX2; have d0 := cell_row HX.out 0 rfl; have d1 := cell_row HX.out 1 rfl; have d2 := cell_row HX.out 2 rfl; have d3 := cell_row HX.out 3 rfl) | (go_at_call 52; refine (GL.out _ _ _ HP.out).mono ?_; clear hz b0 b1 d0 d1 d2 d3; rintro e wn ⟨rfl, hp, ho⟩; have HX2 := hidIt ((ho.block _ (other_block HX.out HP.out.row (by decide))).trans HX.out); have HB2 := hidIt (HB.out.trans (ho.below hgl)); have HP2 := hidIt hp; clear HB HP hp ho; have HB := HB2; have HP := HP2; clear HB2 HP2; have hz := HB.out.size; have b0 := cell_row HP.out.box 0 rfl; have b1 := cell_row HP.out.bit 0 rfl; clear HX; have HX := HX2; clear HX2; have d0 := cell_row HX.out 0 rfl; have d1 := cell_row HX.out 1 rfl; have d2 := cell_row HX.out 2 rfl; have d3 := cell_row HX.out 3 rfl) | (go_at_call 43; refine (GB.out _).mono ?_; rintro e w' ⟨rfl, hww⟩; cases hww) | (go_at_call 29; refine (GE.out _).mono ?_; rintro e w' ⟨rfl, hww⟩; cases hww))
          exact ⟨⟨k + 1, _, by omega, by go_num, HP.out, HB.out, by simpa using HZ.out⟩, by simp [intOf]; omega⟩
    · have hlt' : ¬ (k : Int) < (l.length : Int) := by omega
      obtain rfl : k = l.length := by omega
      rw [List.drop_length] at HZ
      have HZ2 : Hid (lead2 l h (h.drop 0 |> fun _ => d) = Z) := HZ.out
      have HZ3 : Hid (lead2 l (h.drop 0) d = Z) := HZ.out
      clear HZ HZ2
      go_wp2_with fail
      go_loopw [10, 44] (fun _ i wr => ∃ (k : Nat) (d : List Bool), k ≤ h.length ∧ i = .int .i64 (k : Int) ∧ LdP w.heap.size bb gl (.slice ao l.length cap) l d wr ∧ Below w.heap.size w wr ∧ lead2 l (h.drop k) d = Z) (fun _ i _ => h.length - (intOf i).toNat)
      case atStart => exact ⟨0, _, Nat.zero_le _, rfl, HP.out, HB.out, HZ3.out⟩
      case round =>
        clear HP HB HZ3 hz b0 b1
        obtain ⟨k, d, hk, rfl, hp, hb, hZ⟩ := hrel
        have HP := hidIt hp
        have HB := hidIt hb
        have HZ := hidIt hZ
        clear hp hb hZ
        have hz := HB.out.size
        have b0 := cell_row HP.out.box 0 rfl
        have b1 := cell_row HP.out.bit 0 rfl
        by_cases hlt : k < h.length
        · have hlt' : (k : Int) < (h.length : Int) := by omega
          obtain ⟨x, hx⟩ : ∃ x, h[k]? = some x := ⟨h[k], List.getElem?_eq_getElem hlt⟩
          obtain ⟨g, off, rfl, c0, c1, c2, c3⟩ := (HU.out.below HB.out).row hx
          rw [drop_at hx, lead2_cons] at HZ
          have hA := below_alloc wr (.cells #[.int .i64 x.f, .int .i64 x.t, .int .i64 x.a, .string x.ty] 30)
          have HX := hidIt (heap_alloc_new wr (.cells #[.int .i64 x.f, .int .i64 x.t, .int .i64 x.a, .string x.ty] 30))
          have HB2 := hidIt (HB.out.trans (hA.mono HB.out.size))
          have HP2 := hidIt (HP.out.below hA)
          go_upto_region 14 with (fail)
          clear hA HB HP c0 c1 c2 c3 b0 b1 hz hx
          have HB := HB2
          have HP := HP2
          clear HB2 HP2
          generalize wr.alloc (.cells #[.int .i64 x.f, .int .i64 x.t, .int .i64 x.a, .string x.ty] 30) = wx at *
          generalize wr.heap.size = bx at *
          have hz := HB.out.size
          have b0 := cell_row HP.out.box 0 rfl
          have b1 := cell_row HP.out.bit 0 rfl
          have d0 := cell_row HX.out 0 rfl
          have d1 := cell_row HX.out 1 rfl
          have d2 := cell_row HX.out 2 rfl
          have d3 := cell_row HX.out 3 rfl
          go_wp2_with (first | (go_at_call 12; refine (GF.out _ _ HB.out).mono ?_; clear hz b0 b1 d0 d1 d2 d3; rintro e wn ⟨rfl, hb1⟩; have HX2 := hidIt ((hb1.block _ (Array.getElem?_eq_some_iff.1 HX.out).1).trans HX.out); have HB2 := hidIt (HB.out.trans (hb1.mono HB.out.size)); have HP2 := hidIt (HP.out.below hb1); clear HB HP hb1; have HB := HB2; have HP := HP2; clear HB2 HP2; have hz := HB.out.size; have b0 := cell_row HP.out.box 0 rfl; have b1 := cell_row HP.out.bit 0 rfl; clear HX; have HX := HX2; clear HX2; have d0 := cell_row HX.out 0 rfl; have d1 := cell_row HX.out 1 rfl; have d2 := cell_row HX.out 2 rfl; have d3 := cell_row HX.out 3 rfl) | (go_at_call 52; refine (GL.out _ _ _ HP.out).mono ?_; clear hz b0 b1 d0 d1 d2 d3; rintro e wn ⟨rfl, hp, ho⟩; have HX2 := hidIt ((ho.block _ (other_block HX.out HP.out.row (by decide))).trans HX.out); have HB2 := hidIt (HB.out.trans (ho.below hgl)); have HP2 := hidIt hp; clear HB HP hp ho; have HB := HB2; have HP := HP2; clear HB2 HP2; have hz := HB.out.size; have b0 := cell_row HP.out.box 0 rfl; have b1 := cell_row HP.out.bit 0 rfl; clear HX; have HX := HX2; clear HX2; have d0 := cell_row HX.out 0 rfl; have d1 := cell_row HX.out 1 rfl; have d2 := cell_row HX.out 2 rfl; have d3 := cell_row HX.out 3 rfl))
          exact ⟨⟨k + 1, _, by omega, by go_num, HP.out, HB.out, HZ.out⟩, by simp [intOf]; omega⟩
        · have hlt' : ¬ (k : Int) < (h.length : Int) := by omega
          obtain rfl : k = h.length := by omega
          rw [List.drop_length] at HZ
          have HZ2 : Hid (d = Z) := HZ.out
          clear HZ
          go_wp2_with fail
          go_ret
          obtain rfl := HZ2.out
          exact ⟨gl, rfl, hgl, HP.out.row, HP.out.len, HB.out⟩
end Go.Proofs.Ytjbkhaafaplceaa
