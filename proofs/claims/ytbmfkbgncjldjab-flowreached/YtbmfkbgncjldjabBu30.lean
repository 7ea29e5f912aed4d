/- Texts FT FU FRd FOp. -/
import Derived.Test.YtbmfkbgncjldjabBu29
import Derived.Test.YtbmfkbgncjldjabBu25
import Derived.Test.YtbmfkbgncjldjabBu28
import Derived.Test.YtbmfkbgncjldjabBu04
import Derived.Test.YtbmfkbgncjldjabRows
import Derived.ProofKit
import Derived.OpenShut
import Derived.SliceStrings
import Derived.Lib.LaidU8
import Derived.ChangeOld
import Derived.Below
namespace Go.Proofs.Ytbmfkbgncjldjab
open Go.RowKit

theorem IView.laidN (w : World) (l : List IN) (hm : l.length ≤ maxLen) : IView (w.alloc (.cells (icells l).toArray 37)) (.slice (some ⟨w.heap.size, 0, none⟩) l.length l.length) l :=
  ⟨_, _, rfl, Nat.le_refl _, hm, .inr ⟨_, _, rfl, ILies.of_block (heap_alloc_new w _) rfl (by rw [← icells_len]; simp)⟩⟩
def lNop : List IN := [⟨0, 0, 0, 0⟩]
def lGo : List IN := [⟨0, 167, 3, 0⟩, ⟨3, 167, 0, 0⟩]
def lRet : List IN := [⟨0, 177, 0, 0⟩, ⟨1, 177, 0, 0⟩]
theorem chk_nop : checkZ lNop [] [] = (17, 0) := by kernel_rfl
theorem lead_go : leadZ lGo [] = [true, true] := by kernel_rfl
theorem next_go0 : nextZ lGo 0 = [1] := by kernel_rfl
theorem next_go1 : nextZ lGo 1 = [0] := by kernel_rfl
theorem next_ret0 : nextZ lRet 0 = [] := by kernel_rfl
theorem blk_go {bl : List (Nat × Nat)} (h : Blk (leadZ lGo []) lGo.length 0 bl) : bl = [(0, 1), (1, 2)] := by
  refine h.unique ?_
  rw [lead_go]
  exact .cons (by decide) (by decide) (fun q h1 h2 => by omega) (.inr rfl) (.cons (by decide) (by decide) (fun q h1 h2 => by omega) (.inl rfl) .nil)
theorem nx_go {nu : List Int} (hn : Numb [(0, 1), (1, 2)] nu) : (nextZ lGo (((1 : Nat) : Int) - 1)).map (fun m => (nu[m.toNat]?).getD 0) = [1] ∧ (nextZ lGo (((2 : Nat) : Int) - 1)).map (fun m => (nu[m.toNat]?).getD 0) = [0] := by
  have h0 := hn 0 (0, 1) rfl
  have h1 := hn 1 (1, 2) rfl
  rw [show ((1 : Nat) : Int) - 1 = 0 by omega, show ((2 : Nat) : Int) - 1 = 1 by omega, next_go0, next_go1]
  simp only [List.map_cons, List.map_nil]
  rw [show (1 : Int).toNat = 1 from rfl, show (0 : Int).toNat = 0 from rfl, h0, h1]
  exact ⟨rfl, rfl⟩
theorem reach_ret {r : List Bool} (h : ReachIs lRet [] r) : r = [true, false] := by
  refine h.unique ⟨rfl, fun k hk => ?_⟩
  have hz : ∀ k, Rch lRet [] k → k = 0 := by
    intro k hr
    induction hr with
    | zero => rfl
    | step _ hs ih =>
      subst ih
      rcases hs with hs | ⟨i, x, _, hx, _⟩
      · rw [show ((0 : Nat) : Int) = 0 from rfl, next_ret0] at hs; simp at hs
      · simp at hx
  have hk2 : k < 2 := hk
  match k, hk2 with
  | 0, _ => exact ⟨fun _ => .zero (by decide), fun _ => rfl⟩
  | 1, _ => exact ⟨fun h => by simp at h, fun h => by have := hz 1 h; omega⟩
theorem places_of (l : List IN) (h : l.all (fun x => decide (-4611686018427387904 ≤ x.pl) && decide (x.pl ≤ 4611686018427387904)) = true) : Places l := fun x hx => by
  have := List.all_eq_true.1 h x hx
  simpa using this
theorem pv_go {w : World} {ao : Option Addr} {cap : Nat} {bl : List (Nat × Nat)} {nu : List Int} (hb : Blk (leadZ lGo []) lGo.length 0 bl) (hn : Numb bl nu) (hk : bl = [] ∨ ∃ g cs, ao = some ⟨g, 0, none⟩ ∧ KL w g bl (fun x => (nextZ lGo ((x.2 : Int) - 1)).map (fun m => (nu[m.toNat]?).getD 0)) bl.length cs) :
    bl = [(0, 1), (1, 2)] ∧ PV w (.slice ao 2 cap) [(0, 1), (1, 2)] (fun x => if x.1 = 0 then [1] else [0]) := by
  have e := blk_go hb
  subst e
  refine ⟨rfl, ao, cap, rfl, by decide, fun j x hj => ?_⟩
  rcases hk with h | ⟨g, cs, rfl, hk⟩
  · cases h
  · obtain ⟨h1, h2, _⟩ := hk.fst j x hj
    obtain ⟨u, h3, h4⟩ := hk.lst j x hj (List.getElem?_eq_some_iff.1 hj).1
    refine ⟨g, 0, u, rfl, cell_row hk.row _ (by rw [Nat.zero_add]; exact h1), cell_row hk.row _ (by rw [Nat.zero_add]; exact h2), cell_row hk.row _ (by rw [Nat.zero_add]; exact h3), ?_⟩
    have hnx := nx_go hn
    match j, hj with
    | 0, hj => simp at hj; subst hj; have := h4.view; dsimp only at this; rw [hnx.1] at this; exact this
    | 1, hj => simp at hj; subst hj; have := h4.view; dsimp only at this; rw [hnx.2] at this; exact this
    | j + 2, hj => simp at hj
theorem NView.laid1 (w : World) (y : Int) : NView (w.alloc (.cells #[.int .i64 y] 3)) (.slice (some ⟨w.heap.size, 0, none⟩) 1 1) [y] := by
  refine ⟨_, _, rfl, Nat.le_refl _, by decide, .inr ⟨_, _, rfl, fun j x hj => ?_⟩⟩
  match j, hj with
  | 0, hj => simp at hj; subst hj; exact cell_row (heap_alloc_new w _) 0 rfl
  | j + 1, hj => simp at hj
theorem PV.below {w w' : World} {v : Value} {bl : List (Nat × Nat)} {nx : Nat × Nat → List Int} (h : PV w v bl nx) (hb : Below w.heap.size w w') : PV w' v bl nx := by
  obtain ⟨ao, cap, e, h1, h2⟩ := h
  refine ⟨ao, cap, e, h1, fun j x hj => ?_⟩
  obtain ⟨g, off, u, e, c0, c1, c2, n⟩ := h2 j x hj
  exact ⟨g, off, u, e, cell_later hb c0, cell_later hb c1, cell_later hb c2, n.below hb⟩
theorem pv_lit (w : World) : PV (((w.alloc (.cells #[.int .i64 1] 3)).alloc (.cells #[.int .i64 0] 3)).alloc (.cells #[.int .i64 0, .int .i64 1, .slice (some ⟨w.heap.size, 0, none⟩) 1 1, .int .i64 1, .int .i64 2, .slice (some ⟨w.heap.size + 1, 0, none⟩) 1 1] 66)) (.slice (some ⟨w.heap.size + 1 + 1, 0, none⟩) 2 2) [(0, 1), (1, 2)] (fun x => if x.1 = 0 then [1] else [0]) := by
  have hr := heap_alloc_new' (w := (w.alloc (.cells #[.int .i64 1] 3)).alloc (.cells #[.int .i64 0] 3)) (o := .cells #[.int .i64 0, .int .i64 1, .slice (some ⟨w.heap.size, 0, none⟩) 1 1, .int .i64 1, .int .i64 2, .slice (some ⟨w.heap.size + 1, 0, none⟩) 1 1] 66) (k := w.heap.size + 1 + 1) (by simp)
  have n1 := ((NView.laid1 w 1).below (below_alloc _ (.cells #[.int .i64 0] 3))).below (below_alloc _ (.cells #[.int .i64 0, .int .i64 1, .slice (some ⟨w.heap.size, 0, none⟩) 1 1, .int .i64 1, .int .i64 2, .slice (some ⟨w.heap.size + 1, 0, none⟩) 1 1] 66))
  have n2 := (NView.laid1 (w.alloc (.cells #[.int .i64 1] 3)) 0).below (below_alloc _ (.cells #[.int .i64 0, .int .i64 1, .slice (some ⟨w.heap.size, 0, none⟩) 1 1, .int .i64 1, .int .i64 2, .slice (some ⟨w.heap.size + 1, 0, none⟩) 1 1] 66))
  rw [show (w.alloc (.cells #[.int .i64 1] 3)).heap.size = w.heap.size + 1 by simp] at n2
  refine ⟨_, 2, rfl, by decide, fun j x hj => ⟨w.heap.size + 1 + 1, 0, ?_⟩⟩
  match j, hj with
  | 0, hj => simp at hj; subst hj; exact ⟨_, rfl, cell_row hr 0 rfl, cell_row hr 1 rfl, cell_row hr 2 rfl, n1⟩
  | 1, hj => simp at hj; subst hj; exact ⟨_, rfl, cell_row hr 3 rfl, cell_row hr 4 rfl, cell_row hr 5 rfl, n2⟩
  | j + 2, hj => simp at hj
theorem BView.laidN (w : World) (d : List Bool) (hm : d.length ≤ maxLen) : BView (w.alloc (.cells (bcellsB d) 4)) (.slice (some ⟨w.heap.size, 0, none⟩) d.length d.length) d :=
  ⟨_, _, rfl, Nat.le_refl _, hm, .inr ⟨_, _, rfl, fun j x hj => cell_row (heap_alloc_new w _) _ (by rw [Nat.zero_add]; simp [bcellsB, hj])⟩⟩
theorem BView.row_of {w : World} {g n : Nat} {d : List Bool} (h : w.heap[g]? = some (.cells (bcellsB d) 4 (0, 0))) (hn : d.length = n) (hm : d.length ≤ maxLen) : BView w (.slice (some ⟨g, 0, none⟩) n n) d := by
  subst hn
  exact ⟨_, _, rfl, Nat.le_refl _, hm, .inr ⟨_, _, rfl, fun j x hj => cell_row h _ (by rw [Nat.zero_add]; simp [bcellsB, hj])⟩⟩
end Go.Proofs.Ytbmfkbgncjldjab
namespace Go.Proofs.Ytbmfkbgncjldjab
open Go.RowKit

set_option maxRecDepth 8000 in
set_option maxHeartbeats 4000000 in
theorem known_any (w : World) : Calls Try.prog 11 #[] w fun e w' => e = .returned (.bool true) ∧ Below w.heap.size w w' := by
  have GI := hidIt (fun (p op a : Int) W => inst_any p op a W)
  have HB := hidIt (Below.refl w.heap.size w)
  go_enter Try.func11, Try.ntmps11
  go_wp2_with fail
  refine (GI.out _ _ _ _).mono ?_
  rintro e w1 ⟨rfl, b1⟩
  have HB1 := hidIt (HB.out.trans (b1.mono HB.out.size))
  clear HB b1
  have V1 : IView (w1.alloc (.cells #[.int .i64 0, .int .i64 0, .int .i64 0, .int .i64 0] 37)) (.slice (some ⟨w1.heap.size, 0, none⟩) 1 1) lNop := IView.laidN w1 lNop (by decide)
  have G1 := hidIt (check_any _ _ _ lNop [] [] _ V1 (HView.nil _) (FView.nil _) (places_of _ (by kernel_rfl)))
  rw [chk_nop] at G1
  unfold Ans at G1
  have HB2 := hidIt (HB1.out.trans ((below_alloc w1 (.cells #[.int .i64 0, .int .i64 0, .int .i64 0, .int .i64 0] 37)).mono HB1.out.size))
  clear V1 HB1
  go_wp2_with fail
  refine G1.out.mono ?_
  rintro e w2 ⟨rfl, b2⟩
  have HB3 := hidIt (HB2.out.trans (b2.mono HB2.out.size))
  clear HB2 b2 G1
  go_wp2_with fail
  refine (GI.out _ _ _ _).mono ?_
  rintro e w3 ⟨rfl, b3⟩
  have HB4 := hidIt (HB3.out.trans (b3.mono HB3.out.size))
  clear HB3 b3
  go_wp2_with fail
  refine (GI.out _ _ _ _).mono ?_
  rintro e w4 ⟨rfl, b4⟩
  have HB5 := hidIt (HB4.out.trans (b4.mono HB4.out.size))
  clear HB4 b4
  have V2 : IView (w4.alloc (.cells #[.int .i64 0, .int .i64 167, .int .i64 3, .int .i64 0, .int .i64 3, .int .i64 167, .int .i64 0, .int .i64 0] 37)) (.slice (some ⟨w4.heap.size, 0, none⟩) 2 2) lGo := IView.laidN w4 lGo (by decide)
  have G2 := hidIt (blocks_any _ _ lGo [] _ V2 (HView.nil _) (by decide))
  have HB6 := hidIt (HB5.out.trans ((below_alloc w4 (.cells #[.int .i64 0, .int .i64 167, .int .i64 3, .int .i64 0, .int .i64 3, .int .i64 167, .int .i64 0, .int .i64 0] 37)).mono HB5.out.size))
  clear V2 HB5
  go_wp2_with fail
  refine G2.out.mono ?_
  rintro e w5 ⟨ao, cap, bl, nu, rfl, hbk, hnb, hnl, b5, hkl⟩
  obtain ⟨e5, hpv⟩ := pv_go (cap := cap) hbk hnb hkl
  subst e5
  have HB7 := hidIt (HB6.out.trans (b5.mono HB6.out.size))
  have HPV := hidIt (hpv.below (((below_alloc w5 (.cells #[.int .i64 1] 3)).alloc (below_alloc w5 (.cells #[.int .i64 1] 3)).size (.cells #[.int .i64 0] 3)).alloc (Nat.le_trans (below_alloc w5 (.cells #[.int .i64 1] 3)).size (below_alloc _ (.cells #[.int .i64 0] 3)).size) (.cells #[.int .i64 0, .int .i64 1, .slice (some ⟨w5.heap.size, 0, none⟩) 1 1, .int .i64 1, .int .i64 2, .slice (some ⟨w5.heap.size + 1, 0, none⟩) 1 1] 66)))
  have GS := hidIt (same_any _ _ _ _ _ HPV.out (pv_lit w5))
  have hlen2 : ([(0, 1), (1, 2)] : List (Nat × Nat)).length = 2 := rfl
  clear HB6 b5 G2 hpv hkl hnb hbk hnl HPV
  rw [hlen2]
  clear hlen2
  have HB8 := hidIt (HB7.out.trans ((((below_alloc w5 (.cells #[.int .i64 1] 3)).alloc (below_alloc w5 (.cells #[.int .i64 1] 3)).size (.cells #[.int .i64 0] 3)).alloc (Nat.le_trans (below_alloc w5 (.cells #[.int .i64 1] 3)).size (below_alloc _ (.cells #[.int .i64 0] 3)).size) (.cells #[.int .i64 0, .int .i64 1, .slice (some ⟨w5.heap.size, 0, none⟩) 1 1, .int .i64 1, .int .i64 2, .slice (some ⟨w5.heap.size + 1, 0, none⟩) 1 1] 66)).mono HB7.out.size))
  clear HB7
  go_wp2_with fail
  refine GS.out.mono ?_
  rintro e w6 ⟨rfl, q, hq⟩
  have HB9 := hidIt (below_drewN HB8.out q)
  rw [← hq] at HB9
  clear hq HB8 GS
  go_wp2_with fail
  refine (GI.out _ _ _ _).mono ?_
  rintro e w7 ⟨rfl, b7⟩
  have HB10 := hidIt (HB9.out.trans (b7.mono HB9.out.size))
  clear HB9 b7
  go_wp2_with fail
  refine (GI.out _ _ _ _).mono ?_
  rintro e w8 ⟨rfl, b8⟩
  have HB11 := hidIt (HB10.out.trans (b8.mono HB10.out.size))
  clear HB10 b8 GI
  have V3 : IView (w8.alloc (.cells #[.int .i64 0, .int .i64 177, .int .i64 0, .int .i64 0, .int .i64 1, .int .i64 177, .int .i64 0, .int .i64 0] 37)) (.slice (some ⟨w8.heap.size, 0, none⟩) 2 2) lRet := IView.laidN w8 lRet (by decide)
  have G3 := hidIt (reach_any _ _ lRet [] _ V3 (HView.nil _) (by decide))
  have HB12 := hidIt (HB11.out.trans ((below_alloc w8 (.cells #[.int .i64 0, .int .i64 177, .int .i64 0, .int .i64 0, .int .i64 1, .int .i64 177, .int .i64 0, .int .i64 0] 37)).mono HB11.out.size))
  clear V3 HB11
  go_wp2_with fail
  refine G3.out.mono ?_
  rintro e w9 ⟨g, r, rfl, hg, hrow, hri, b9⟩
  have er := reach_ret hri
  subst er
  have HB13 := hidIt (HB12.out.trans (b9.mono HB12.out.size))
  have BV := (BView.row_of (n := 2) hrow rfl (by decide)).below (below_alloc w9 (.cells #[.bool true, .bool false] 4))
  have BL : BView (w9.alloc (.cells #[.bool true, .bool false] 4)) (.slice (some ⟨w9.heap.size, 0, none⟩) 2 2) [true, false] := BView.laidN w9 [true, false] (by decide)
  have GB := hidIt (bsame_any _ _ _ _ BV BL)
  have HB14 := hidIt (HB13.out.trans ((below_alloc w9 (.cells #[.bool true, .bool false] 4)).mono HB13.out.size))
  have hl2 : lRet.length = 2 := rfl
  rw [hl2]
  clear HB12 HB13 b9 hg hrow hri BV BL hl2 G3
  go_wp2_with fail
  refine GB.out.mono ?_
  rintro e w10 ⟨rfl, q2, hq2⟩
  have HB15 := hidIt (below_drewN HB14.out q2)
  rw [← hq2] at HB15
  clear hq2 HB14 GB
  go_wp2_with fail
  go_ret
  exact ⟨rfl, HB15.out⟩
end Go.Proofs.Ytbmfkbgncjldjab
namespace Go.Proofs.Ytbmfkbgncjldjab
open Go.RowKit

theorem bit_at' {r : List Bool} {w : World} {g k : Nat} {b : Bool} (h : w.heap[g]? = some (.cells (bcellsB r) 4 (0, 0))) (hk : r[k]? = some b) : w.cell? ⟨g, k, none⟩ = some (.bool b) := cell_row h k (by simp [bcellsB, hk])
set_option maxRecDepth 8000 in
set_option maxHeartbeats 8000000 in
theorem reached_any (vr : Value) (rl : List Int) (w : World) (hr : M.NV w.heap.size w.heap.size w vr rl) :
    Calls Try.prog 4 #[vr] w fun e w' => e = .returned (.bool true) ∧ Below w.heap.size w w' := by
  have GC := hidIt (code2_any vr rl w hr)
  obtain ⟨aor, capr, rfl, -⟩ := hr
  go_enter Try.func4, Try.ntmps4
  go_upto_region 2 with (go_at_call 5; refine GC.out.mono ?_; rintro e w1 ⟨vl, vh, vf, σ, rfl, hσ, hl, hh, hb1⟩; have HL := hidIt hl; have HH := hidIt hh; have HB := hidIt hb1; have HST := hidIt (M.hands_stand (M.body_ended hσ)); have hpos := M.code_pos (M.body_ended hσ); have hsm := (made_small hσ).2; clear hb1 GC hσ)
  generalize M.codeZ σ = l at *
  generalize M.handsZ σ = h at *
  obtain ⟨aol, capl, rfl, hlc, hlm, -⟩ := hl
  obtain ⟨aoh, caph, rfl, hhc, hhm, -⟩ := hh
  unfold maxLen at hlm hhm
  have GR := hidIt (reach_any _ _ l h w1 HL.out HH.out (by omega))
  have hne : ((l.length : Int) == 0) = false := by rw [beq_eq_false_iff_ne]; omega
  go_upto_region 3 with (go_at_call 12; refine GR.out.mono ?_; rintro e w2 ⟨g, r, rfl, hg, hrow, hri, hb2⟩; have HRow := hidIt hrow; have HRI := hidIt hri; have HB2 := hidIt hb2; clear hrow hri hb2 GR)
  have HBw := hidIt (HB.out.trans (HB2.out.mono HB.out.size))
  have HT : Hid (∀ k : Nat, Rch l h k → r[k]? = some true) := fun k hk => (HRI.out.2 k hk.lt).2 hk
  have HRW : Hid (∀ W, Below w2.heap.size w2 W → W.heap[g]? = some (.cells (bcellsB r) 4 (0, 0))) := fun W hb => (hb.block _ (Array.getElem?_eq_some_iff.1 HRow.out).1).trans HRow.out
  have GN := hidIt (fun (n : Int) W (hb : Below w2.heap.size w2 W) => next_any _ l n W ((HL.out.below HB2.out).below hb))
  have GF := hidIt (fun (n : Int) W (hb : Below w2.heap.size w2 W) => find_any _ l n W ((HL.out.below HB2.out).below hb))
  have HLr := hidIt (fun W (hb : Below w2.heap.size w2 W) => (HL.out.below HB2.out).below hb)
  have HHr := hidIt (fun W (hb : Below w2.heap.size w2 W) => (HH.out.below HB2.out).below hb)
  have c0 : w2.cell? ⟨g, 0, none⟩ = some (.bool true) := bit_at' HRow.out (HT.out 0 (.zero hpos))
  have HW := hidIt (Below.refl w2.heap.size w2)
  clear HL HH HB HB2
  go_wp2_with fail
  clear c0 HRow
  go_loopw [7, 8, 9, 10, 11] (fun i _ _ _ _ wr => ∃ k : Nat, i = .int .i64 (k : Int) ∧ k ≤ l.length ∧ Below w2.heap.size w2 wr) (fun i _ _ _ _ _ => l.length - (intOf i).toNat)
  case atStart => exact ⟨0, rfl, Nat.zero_le _, HW.out⟩
  case round =>
    clear HW
    obtain ⟨k, rfl, hk, hbk⟩ := hrel
    have HW := hidIt hbk
    clear hbk
    by_cases hlt : k < l.length
    · have hlt' : (k : Int) < (l.length : Int) := by omega
      obtain ⟨d, hd⟩ : ∃ d, r[k]? = some d := ⟨_, List.getElem?_eq_getElem (by rw [HRI.out.1]; exact hlt)⟩
      have c0 := bit_at' (HRW.out _ HW.out) hd
      cases d with
      | false =>
        clear hd
        go_wp2_with fail
        exact ⟨⟨k + 1, by go_num, by omega, HW.out⟩, by simp [intOf]; omega⟩
      | true =>
        have HRk := hidIt ((HRI.out.2 k hlt).1 hd)
        obtain ⟨x, hx⟩ : ∃ x, l[k]? = some x := ⟨l[k], List.getElem?_eq_getElem hlt⟩
        have HX := hidIt hx
        clear hd hx
        go_upto_region 10 with (go_at_call 10; refine (GN.out _ _ HW.out).mono ?_; clear c0; rintro e w3 ⟨vn, rfl, hn, hb3⟩; have HN := hidIt hn; have HBn := hidIt (HW.out.trans (hb3.mono HW.out.size)); clear HW hb3 hn; have HW := HBn; clear HBn)
        have HNs : Hid (∀ m ∈ nextZ l (k : Int), 0 ≤ m ∧ m < l.length ∧ r[m.toNat]? = some true) := fun m hm => by
          have h1 := nextZ_range hm
          exact ⟨h1.1, h1.2, HT.out _ (HRk.out.step (.inl (by rw [Int.toNat_of_nonneg h1.1]; exact hm)))⟩
        have hNl := nextZ_len l (k : Int)
        generalize nextZ l (k : Int) = NX at *
        obtain ⟨aon, capn, rfl⟩ := own_slice HN.out
        go_wp2_with fail
        go_loopw [9] (fun j wr => wr = w3 ∧ ∃ q : Nat, j = .int .i64 (q : Int) ∧ q ≤ NX.length) (fun j _ => NX.length - (intOf j).toNat)
        case atStart => exact ⟨rfl, 0, rfl, Nat.zero_le _⟩
        case round =>
          obtain ⟨hwr, q, rfl, hq⟩ := hrel
          cases hwr
          by_cases hql : q < NX.length
          · have hql' : (q : Int) < (NX.length : Int) := by omega
            obtain ⟨m0, hm0⟩ : ∃ m0, NX[q]? = some m0 := ⟨NX[q], List.getElem?_eq_getElem hql⟩
            obtain ⟨h1, h2, h3⟩ := HNs.out m0 (List.mem_of_getElem? hm0)
            obtain ⟨m, rfl⟩ := Int.eq_ofNat_of_zero_le h1
            rw [Int.toNat_natCast] at h3
            obtain ⟨gn, offn, rfl, c1⟩ := HN.out.view.row hm0
            have c2 := bit_at' (HRW.out _ HW.out) h3
            clear hm0 h3 h1
            go_wp2_with fail
            exact ⟨⟨by first | rfl | trivial, q + 1, by go_num, by omega⟩, by simp [intOf]; omega⟩
          · have hql' : ¬ (q : Int) < (NX.length : Int) := by omega
            clear HNs HN
            go_wp2_with fail
            go_loopw [10, 11] (fun j _ wr => ∃ q : Nat, j = .int .i64 (q : Int) ∧ q ≤ h.length ∧ Below w2.heap.size w2 wr) (fun j _ _ => h.length - (intOf j).toNat)
            case atStart => exact ⟨0, rfl, Nat.zero_le _, HW.out⟩
            case round =>
              clear HW
              obtain ⟨q2, rfl, hq2, hbq⟩ := hrel
              have HW := hidIt hbq
              clear hbq
              by_cases hqh : q2 < h.length
              · have hqh' : (q2 : Int) < (h.length : Int) := by omega
                obtain ⟨y, hy⟩ : ∃ y, h[q2]? = some y := ⟨h[q2], List.getElem?_eq_getElem hqh⟩
                obtain ⟨g1, off1, rfl, d0, d1, d2, d3⟩ := (HHr.out _ HW.out).row hy
                obtain ⟨g2, off2, rfl, x0, x1, x2, x3⟩ := (HLr.out _ HW.out).row HX.out
                have HSt := hidIt (HST.out y (List.mem_of_getElem? hy))
                have HMem := hidIt (List.mem_of_getElem? hy)
                have HD : Hid (∀ W, Below w2.heap.size w2 W → W.cell? ⟨g1, off1 + q2 * 4 + 2, none⟩ = some (.int .i64 y.a)) := fun W hb => by obtain ⟨g', off', e, c0, c1, c2, c3⟩ := (HHr.out W hb).row hy; cases e; exact c2
                clear hy x1 x2 x3 d2 d3
                by_cases h1 : y.f ≤ x.pl
                · by_cases h2 : x.pl < y.t
                  · go_wp2_with fail
                    go_quiet (fail)
                    have HBq := hidIt (below_drewN HW.out nq)
                    clear x0 d0 d1 HW
                    generalize wr.drewN nq = W4 at *
                    have d2 := HD.out _ HBq.out
                    have GF1 := hidIt (GF.out y.a _ HBq.out)
                    obtain ⟨n, hn⟩ := Int.eq_ofNat_of_zero_le HSt.out.2.2
                    have hnl := (findZ_lt l y.a).2
                    rw [hn] at GF1 hnl
                    have hrn := HT.out n (HRk.out.step (.inr ⟨x, y, HX.out, HMem.out, h1, h2, hn⟩))
                    have HRN := hidIt hrn
                    clear hrn hn
                    have hn0 : ¬ ((n : Int) < 0) := by omega
                    go_upto_region 20 with (go_at_call 13; refine GF1.out.mono ?_; clear d2; rintro e w5 ⟨rfl, hb5⟩; have HBn := hidIt (HBq.out.trans (hb5.mono HBq.out.size)); clear HBq hb5; have HBq := HBn; clear HBn)
                    have c2 := bit_at' (HRW.out _ HBq.out) HRN.out
                    go_wp2_with fail
                    exact ⟨⟨q2 + 1, by go_num, by omega, HBq.out⟩, by simp [intOf]; omega⟩
                  · go_wp2_with fail
                    go_quiet (fail)
                    go_wp2
                    exact ⟨⟨q2 + 1, by go_num, by omega, below_drewN HW.out nq⟩, by simp [intOf]; omega⟩
                · have h1d : decide (y.f ≤ x.pl) = false := decide_eq_false h1
                  go_wp2_with fail
                  go_quiet (fail)
                  go_wp2
                  exact ⟨⟨q2 + 1, by go_num, by omega, below_drewN HW.out nq⟩, by simp [intOf]; omega⟩
              · have hqh' : ¬ (q2 : Int) < (h.length : Int) := by omega
                go_wp2_with fail
                exact ⟨⟨k + 1, by go_num, by omega, HW.out⟩, by simp [intOf]; omega⟩
    · have hlt' : ¬ (k : Int) < (l.length : Int) := by omega
      go_wp2_with (go_at_call 11; refine (known_any _).mono ?_; rintro e wg ⟨rfl, hbg⟩; have HBn := hidIt (HW.out.trans (hbg.mono HW.out.size)); clear HW hbg; have HW := HBn; clear HBn)
      go_ret
      exact ⟨rfl, HBw.out.trans (HW.out.mono HBw.out.size)⟩
end Go.Proofs.Ytbmfkbgncjldjab
namespace Go.Proofs.Ytbmfkbgncjldjab.O
open Go.ChangeShapes Go.WideShapes Go.ChangeAt Go.RowKit
open Go.ChangeMaps (open_string shut_string)

theorem addr_add (b o j : Nat) : (⟨b, o, none⟩ : Addr).add j = ⟨b, o + j, none⟩ := by unfold Addr.add; split <;> simp_all
theorem cells3 : Try.prog.cellsOf 3 = 1 := by kernel_rfl
set_option maxRecDepth 20000 in
theorem open_nums {H : Type} {enc : TypeId × Value → H} {W : World} {base : Nat} {v : Value} {d : DataW H} {p : List MemPlace} (hval : Value.okWide Try.prog W .any base 22 v)
    (h : DataW.Trod enc Try.prog W 0 (fun _ => true) true 22 v d p) : ∃ rl : List Int, ∃ ao cap, v = .slice ao rl.length cap ∧ rl.length ≤ cap ∧ cap ≤ maxLen ∧ (∀ x ∈ rl, -9223372036854775808 ≤ x ∧ x ≤ 9223372036854775807) ∧ (rl = [] ∨ ∃ g off, ao = some ⟨g, off, none⟩ ∧ g < W.heap.size ∧ g < W.heap.size ∧ ∀ (j : Nat) x, rl[j]? = some x → W.cell? ⟨g, off + j, none⟩ = some (.int .i64 x)) := by
  obtain ⟨a, len, cap, rfl⟩ := okWide_slice Try.underlying22 hval
  obtain ⟨fuel, hf⟩ := h
  rcases open_ints Try.underlying22 Try.underlying3 cells3 hf with ⟨hcs, hx⟩ | ⟨x, l, c, zs, hcs, _, hl, hm, hz, hx, hcell, hwz⟩
  · simp [Value.cells] at hcs
    obtain ⟨rfl, rfl, rfl⟩ := hcs
    exact ⟨[], none, 0, rfl, Nat.le_refl _, by unfold maxLen; omega, by simp, .inl rfl⟩
  · simp [Value.cells] at hcs
    obtain ⟨rfl, rfl, rfl⟩ := hcs
    have hzl : zs.length = cap := by simpa using hz
    refine ⟨zs.take len, some x, cap, ?_, ?_, hm, fun y hy => bounds_i64 (hwz y (List.mem_of_mem_take hy)), ?_⟩
    · rw [List.length_take, Nat.min_eq_left (by omega)]
    · rw [List.length_take]; omega
    · by_cases h0 : len = 0
      · left; simp [h0]
      · right
        have h00 := hcell 0 (by omega)
        obtain ⟨b, o, sp⟩ := x
        have hsp : sp = none := by
          have e : (⟨b, o, sp⟩ : Addr).add 0 = ⟨b, o, sp⟩ := by unfold Addr.add; simp
          rw [e] at h00
          exact cell_spot h00
        subst hsp
        have hb : b < W.heap.size := by
          have e : (⟨b, o, none⟩ : Addr).add 0 = ⟨b, o, none⟩ := by unfold Addr.add; simp
          rw [e] at h00
          exact cell_lt h00
        refine ⟨b, o, rfl, hb, hb, fun j y hj => ?_⟩
        have hj1 : j < len := by
          have := (List.getElem?_eq_some_iff.1 hj).1
          simp at this; omega
        have hj2 : zs[j]? = some y := by rwa [List.getElem?_take_of_lt hj1] at hj
        have hc := hcell j (by omega)
        have e : (⟨b, o, none⟩ : Addr).add j = ⟨b, o + j, none⟩ := by unfold Addr.add; split <;> simp_all
        rw [e] at hc
        rw [hc]
        simp [List.getD, hj2]
end Go.Proofs.Ytbmfkbgncjldjab.O
