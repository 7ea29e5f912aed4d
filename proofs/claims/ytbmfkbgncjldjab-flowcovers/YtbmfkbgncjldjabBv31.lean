/- Texts FT FU FYp FCv FOp. -/
import Derived.Test.YtbmfkbgncjldjabBv30
import Derived.Test.YtbmfkbgncjldjabBv29
import Derived.Test.YtbmfkbgncjldjabBv25
import Derived.Test.YtbmfkbgncjldjabBv04
import Derived.Test.YtbmfkbgncjldjabRows
import Derived.ProofKit
import Derived.OpenShut
import Derived.SliceStrings
import Derived.Lib.LaidU8
import Derived.ChangeOld
import Derived.Below
namespace Go.Proofs.Ytbmfkbgncjldjab
open Go.RowKit

theorem IView.laidN (w : World) (l : List IN) (hm : l.length ≤ maxLen) : IView (w.alloc (.cells (icells l).toArray 37)) (.slice (some ⟨w.heap.size, 0, none⟩) l.length l.length) l :=
  ⟨_, _, rfl, Nat.le_refl _, hm, .inr ⟨_, _, rfl, ILies.of_block (heap_alloc_new w _) rfl (by rw [← icells_len]; simp)⟩⟩
def lNop : List IN := [⟨0, 0, 0, 0⟩]
def lGo : List IN := [⟨0, 167, 3, 0⟩, ⟨3, 167, 0, 0⟩]
def lRet : List IN := [⟨0, 177, 0, 0⟩, ⟨1, 177, 0, 0⟩]
theorem chk_nop : checkZ lNop [] [] = (17, 0) := by kernel_rfl
theorem lead_go : leadZ lGo [] = [true, true] := by kernel_rfl
theorem next_go0 : nextZ lGo 0 = [1] := by kernel_rfl
theorem next_go1 : nextZ lGo 1 = [0] := by kernel_rfl
theorem next_ret0 : nextZ lRet 0 = [] := by kernel_rfl
theorem blk_go {bl : List (Nat × Nat)} (h : Blk (leadZ lGo []) lGo.length 0 bl) : bl = [(0, 1), (1, 2)] := by
  refine h.unique ?_
  rw [lead_go]
  exact .cons (by decide) (by decide) (fun q h1 h2 => by omega) (.inr rfl) (.cons (by decide) (by decide) (fun q h1 h2 => by omega) (.inl rfl) .nil)
theorem nx_go {nu : List Int} (hn : Numb [(0, 1), (1, 2)] nu) : (nextZ lGo (((1 : Nat) : Int) - 1)).map (fun m => (nu[m.toNat]?).getD 0) = [1] ∧ (nextZ lGo (((2 : Nat) : Int) - 1)).map (fun m => (nu[m.toNat]?).getD 0) = [0] := by
  have h0 := hn 0 (0, 1) rfl
  have h1 := hn 1 (1, 2) rfl
  rw [show ((1 : Nat) : Int) - 1 = 0 by omega, show ((2 : Nat) : Int) - 1 = 1 by omega, next_go0, next_go1]
  simp only [List.map_cons, List.map_nil]
  rw [show (1 : Int).toNat = 1 from rfl, show (0 : Int).toNat = 0 from rfl, h0, h1]
  exact ⟨rfl, rfl⟩
theorem reach_ret {r : List Bool} (h : ReachIs lRet [] r) : r = [true, false] := by
  refine h.unique ⟨rfl, fun k hk => ?_⟩
  have hz : ∀ k, Rch lRet [] k → k = 0 := by
    intro k hr
    induction hr with
    | zero => rfl
    | step _ hs ih =>
      subst ih
      rcases hs with hs | ⟨i, x, _, hx, _⟩
      · rw [show ((0 : Nat) : Int) = 0 from rfl, next_ret0] at hs; simp at hs
      · simp at hx
  have hk2 : k < 2 := hk
  match k, hk2 with
  | 0, _ => exact ⟨fun _ => .zero (by decide), fun _ => rfl⟩
  | 1, _ => exact ⟨fun h => by simp at h, fun h => by have := hz 1 h; omega⟩
theorem places_of (l : List IN) (h : l.all (fun x => decide (-4611686018427387904 ≤ x.pl) && decide (x.pl ≤ 4611686018427387904)) = true) : Places l := fun x hx => by
  have := List.all_eq_true.1 h x hx
  simpa using this
theorem pv_go {w : World} {ao : Option Addr} {cap : Nat} {bl : List (Nat × Nat)} {nu : List Int} (hb : Blk (leadZ lGo []) lGo.length 0 bl) (hn : Numb bl nu) (hk : bl = [] ∨ ∃ g cs, ao = some ⟨g, 0, none⟩ ∧ KL w g bl (fun x => (nextZ lGo ((x.2 : Int) - 1)).map (fun m => (nu[m.toNat]?).getD 0)) bl.length cs) :
    bl = [(0, 1), (1, 2)] ∧ PV w (.slice ao 2 cap) [(0, 1), (1, 2)] (fun x => if x.1 = 0 then [1] else [0]) := by
  have e := blk_go hb
  subst e
  refine ⟨rfl, ao, cap, rfl, by decide, fun j x hj => ?_⟩
  rcases hk with h | ⟨g, cs, rfl, hk⟩
  · cases h
  · obtain ⟨h1, h2, _⟩ := hk.fst j x hj
    obtain ⟨u, h3, h4⟩ := hk.lst j x hj (List.getElem?_eq_some_iff.1 hj).1
    refine ⟨g, 0, u, rfl, cell_row hk.row _ (by rw [Nat.zero_add]; exact h1), cell_row hk.row _ (by rw [Nat.zero_add]; exact h2), cell_row hk.row _ (by rw [Nat.zero_add]; exact h3), ?_⟩
    have hnx := nx_go hn
    match j, hj with
    | 0, hj => simp at hj; subst hj; have := h4.view; dsimp only at this; rw [hnx.1] at this; exact this
    | 1, hj => simp at hj; subst hj; have := h4.view; dsimp only at this; rw [hnx.2] at this; exact this
    | j + 2, hj => simp at hj
theorem NView.laid1 (w : World) (y : Int) : NView (w.alloc (.cells #[.int .i64 y] 3)) (.slice (some ⟨w.heap.size, 0, none⟩) 1 1) [y] := by
  refine ⟨_, _, rfl, Nat.le_refl _, by decide, .inr ⟨_, _, rfl, fun j x hj => ?_⟩⟩
  match j, hj with
  | 0, hj => simp at hj; subst hj; exact cell_row (heap_alloc_new w _) 0 rfl
  | j + 1, hj => simp at hj
theorem PV.below {w w' : World} {v : Value} {bl : List (Nat × Nat)} {nx : Nat × Nat → List Int} (h : PV w v bl nx) (hb : Below w.heap.size w w') : PV w' v bl nx := by
  obtain ⟨ao, cap, e, h1, h2⟩ := h
  refine ⟨ao, cap, e, h1, fun j x hj => ?_⟩
  obtain ⟨g, off, u, e, c0, c1, c2, n⟩ := h2 j x hj
  exact ⟨g, off, u, e, cell_later hb c0, cell_later hb c1, cell_later hb c2, n.below hb⟩
theorem pv_lit (w : World) : PV (((w.alloc (.cells #[.int .i64 1] 3)).alloc (.cells #[.int .i64 0] 3)).alloc (.cells #[.int .i64 0, .int .i64 1, .slice (some ⟨w.heap.size, 0, none⟩) 1 1, .int .i64 1, .int .i64 2, .slice (some ⟨w.heap.size + 1, 0, none⟩) 1 1] 66)) (.slice (some ⟨w.heap.size + 1 + 1, 0, none⟩) 2 2) [(0, 1), (1, 2)] (fun x => if x.1 = 0 then [1] else [0]) := by
  have hr := heap_alloc_new' (w := (w.alloc (.cells #[.int .i64 1] 3)).alloc (.cells #[.int .i64 0] 3)) (o := .cells #[.int .i64 0, .int .i64 1, .slice (some ⟨w.heap.size, 0, none⟩) 1 1, .int .i64 1, .int .i64 2, .slice (some ⟨w.heap.size + 1, 0, none⟩) 1 1] 66) (k := w.heap.size + 1 + 1) (by simp)
  have n1 := ((NView.laid1 w 1).below (below_alloc _ (.cells #[.int .i64 0] 3))).below (below_alloc _ (.cells #[.int .i64 0, .int .i64 1, .slice (some ⟨w.heap.size, 0, none⟩) 1 1, .int .i64 1, .int .i64 2, .slice (some ⟨w.heap.size + 1, 0, none⟩) 1 1] 66))
  have n2 := (NView.laid1 (w.alloc (.cells #[.int .i64 1] 3)) 0).below (below_alloc _ (.cells #[.int .i64 0, .int .i64 1, .slice (some ⟨w.heap.size, 0, none⟩) 1 1, .int .i64 1, .int .i64 2, .slice (some ⟨w.heap.size + 1, 0, none⟩) 1 1] 66))
  rw [show (w.alloc (.cells #[.int .i64 1] 3)).heap.size = w.heap.size + 1 by simp] at n2
  refine ⟨_, 2, rfl, by decide, fun j x hj => ⟨w.heap.size + 1 + 1, 0, ?_⟩⟩
  match j, hj with
  | 0, hj => simp at hj; subst hj; exact ⟨_, rfl, cell_row hr 0 rfl, cell_row hr 1 rfl, cell_row hr 2 rfl, n1⟩
  | 1, hj => simp at hj; subst hj; exact ⟨_, rfl, cell_row hr 3 rfl, cell_row hr 4 rfl, cell_row hr 5 rfl, n2⟩
  | j + 2, hj => simp at hj
theorem BView.laidN (w : World) (d : List Bool) (hm : d.length ≤ maxLen) : BView (w.alloc (.cells (bcellsB d) 4)) (.slice (some ⟨w.heap.size, 0, none⟩) d.length d.length) d :=
  ⟨_, _, rfl, Nat.le_refl _, hm, .inr ⟨_, _, rfl, fun j x hj => cell_row (heap_alloc_new w _) _ (by rw [Nat.zero_add]; simp [bcellsB, hj])⟩⟩
theorem BView.row_of {w : World} {g n : Nat} {d : List Bool} (h : w.heap[g]? = some (.cells (bcellsB d) 4 (0, 0))) (hn : d.length = n) (hm : d.length ≤ maxLen) : BView w (.slice (some ⟨g, 0, none⟩) n n) d := by
  subst hn
  exact ⟨_, _, rfl, Nat.le_refl _, hm, .inr ⟨_, _, rfl, fun j x hj => cell_row h _ (by rw [Nat.zero_add]; simp [bcellsB, hj])⟩⟩
end Go.Proofs.Ytbmfkbgncjldjab
namespace Go.Proofs.Ytbmfkbgncjldjab
open Go.RowKit

set_option maxRecDepth 8000 in
set_option maxHeartbeats 4000000 in
theorem known_any (w : World) : Calls Try.prog 11 #[] w fun e w' => e = .returned (.bool true) ∧ Below w.heap.size w w' := by
  have GI := hidIt (fun (p op a : Int) W => inst_any p op a W)
  have HB := hidIt (Below.refl w.heap.size w)
  go_enter Try.func11, Try.ntmps11
  go_wp2_with fail
  refine (GI.out _ _ _ _).mono ?_
  rintro e w1 ⟨rfl, b1⟩
  have HB1 := hidIt (HB.out.trans (b1.mono HB.out.size))
  clear HB b1
  have V1 : IView (w1.alloc (.cells #[.int .i64 0, .int .i64 0, .int .i64 0, .int .i64 0] 37)) (.slice (some ⟨w1.heap.size, 0, none⟩) 1 1) lNop := IView.laidN w1 lNop (by decide)
  have G1 := hidIt (check_any _ _ _ lNop [] [] _ V1 (HView.nil _) (FView.nil _) (places_of _ (by kernel_rfl)))
  rw [chk_nop] at G1
  unfold Ans at G1
  have HB2 := hidIt (HB1.out.trans ((below_alloc w1 (.cells #[.int .i64 0, .int .i64 0, .int .i64 0, .int .i64 0] 37)).mono HB1.out.size))
  clear V1 HB1
  go_wp2_with fail
  refine G1.out.mono ?_
  rintro e w2 ⟨rfl, b2⟩
  have HB3 := hidIt (HB2.out.trans (b2.mono HB2.out.size))
  clear HB2 b2 G1
  go_wp2_with fail
  refine (GI.out _ _ _ _).mono ?_
  rintro e w3 ⟨rfl, b3⟩
  have HB4 := hidIt (HB3.out.trans (b3.mono HB3.out.size))
  clear HB3 b3
  go_wp2_with fail
  refine (GI.out _ _ _ _).mono ?_
  rintro e w4 ⟨rfl, b4⟩
  have HB5 := hidIt (HB4.out.trans (b4.mono HB4.out.size))
  clear HB4 b4
  have V2 : IView (w4.alloc (.cells #[.int .i64 0, .int .i64 167, .int .i64 3, .int .i64 0, .int .i64 3, .int .i64 167, .int .i64 0, .int .i64 0] 37)) (.slice (some ⟨w4.heap.size, 0, none⟩) 2 2) lGo := IView.laidN w4 lGo (by decide)
  have G2 := hidIt (blocks_any _ _ lGo [] _ V2 (HView.nil _) (by decide))
  have HB6 := hidIt (HB5.out.trans ((below_alloc w4 (.cells #[.int .i64 0, .int .i64 167, .int .i64 3, .int .i64 0, .int .i64 3, .int .i64 167, .int .i64 0, .int .i64 0] 37)).mono HB5.out.size))
  clear V2 HB5
  go_wp2_with fail
  refine G2.out.mono ?_
  rintro e w5 ⟨ao, cap, bl, nu, rfl, hbk, hnb, hnl, b5, hkl⟩
  obtain ⟨e5, hpv⟩ := pv_go (cap := cap) hbk hnb hkl
  subst e5
  have HB7 := hidIt (HB6.out.trans (b5.mono HB6.out.size))
  have HPV := hidIt (hpv.below (((below_alloc w5 (.cells #[.int .i64 1] 3)).alloc (below_alloc w5 (.cells #[.int .i64 1] 3)).size (.cells #[.int .i64 0] 3)).alloc (Nat.le_trans (below_alloc w5 (.cells #[.int .i64 1] 3)).size (below_alloc _ (.cells #[.int .i64 0] 3)).size) (.cells #[.int .i64 0, .int .i64 1, .slice (some ⟨w5.heap.size, 0, none⟩) 1 1, .int .i64 1, .int .i64 2, .slice (some ⟨w5.heap.size + 1, 0, none⟩) 1 1] 66)))
  have GS := hidIt (same_any _ _ _ _ _ HPV.out (pv_lit w5))
  have hlen2 : ([(0, 1), (1, 2)] : List (Nat × Nat)).length = 2 := rfl
  clear HB6 b5 G2 hpv hkl hnb hbk hnl HPV
  rw [hlen2]
  clear hlen2
  have HB8 := hidIt (HB7.out.trans ((((below_alloc w5 (.cells #[.int .i64 1] 3)).alloc (below_alloc w5 (.cells #[.int .i64 1] 3)).size (.cells #[.int .i64 0] 3)).alloc (Nat.le_trans (below_alloc w5 (.cells #[.int .i64 1] 3)).size (below_alloc _ (.cells #[.int .i64 0] 3)).size) (.cells #[.int .i64 0, .int .i64 1, .slice (some ⟨w5.heap.size, 0, none⟩) 1 1, .int .i64 1, .int .i64 2, .slice (some ⟨w5.heap.size + 1, 0, none⟩) 1 1] 66)).mono HB7.out.size))
  clear HB7
  go_wp2_with fail
  refine GS.out.mono ?_
  rintro e w6 ⟨rfl, q, hq⟩
  have HB9 := hidIt (below_drewN HB8.out q)
  rw [← hq] at HB9
  clear hq HB8 GS
  go_wp2_with fail
  refine (GI.out _ _ _ _).mono ?_
  rintro e w7 ⟨rfl, b7⟩
  have HB10 := hidIt (HB9.out.trans (b7.mono HB9.out.size))
  clear HB9 b7
  go_wp2_with fail
  refine (GI.out _ _ _ _).mono ?_
  rintro e w8 ⟨rfl, b8⟩
  have HB11 := hidIt (HB10.out.trans (b8.mono HB10.out.size))
  clear HB10 b8 GI
  have V3 : IView (w8.alloc (.cells #[.int .i64 0, .int .i64 177, .int .i64 0, .int .i64 0, .int .i64 1, .int .i64 177, .int .i64 0, .int .i64 0] 37)) (.slice (some ⟨w8.heap.size, 0, none⟩) 2 2) lRet := IView.laidN w8 lRet (by decide)
  have G3 := hidIt (reach_any _ _ lRet [] _ V3 (HView.nil _) (by decide))
  have HB12 := hidIt (HB11.out.trans ((below_alloc w8 (.cells #[.int .i64 0, .int .i64 177, .int .i64 0, .int .i64 0, .int .i64 1, .int .i64 177, .int .i64 0, .int .i64 0] 37)).mono HB11.out.size))
  clear V3 HB11
  go_wp2_with fail
  refine G3.out.mono ?_
  rintro e w9 ⟨g, r, rfl, hg, hrow, hri, b9⟩
  have er := reach_ret hri
  subst er
  have HB13 := hidIt (HB12.out.trans (b9.mono HB12.out.size))
  have BV := (BView.row_of (n := 2) hrow rfl (by decide)).below (below_alloc w9 (.cells #[.bool true, .bool false] 4))
  have BL : BView (w9.alloc (.cells #[.bool true, .bool false] 4)) (.slice (some ⟨w9.heap.size, 0, none⟩) 2 2) [true, false] := BView.laidN w9 [true, false] (by decide)
  have GB := hidIt (bsame_any _ _ _ _ BV BL)
  have HB14 := hidIt (HB13.out.trans ((below_alloc w9 (.cells #[.bool true, .bool false] 4)).mono HB13.out.size))
  have hl2 : lRet.length = 2 := rfl
  rw [hl2]
  clear HB12 HB13 b9 hg hrow hri BV BL hl2 G3
  go_wp2_with fail
  refine GB.out.mono ?_
  rintro e w10 ⟨rfl, q2, hq2⟩
  have HB15 := hidIt (below_drewN HB14.out q2)
  rw [← hq2] at HB15
  clear hq2 HB14 GB
  go_wp2_with fail
  go_ret
  exact ⟨rfl, HB15.out⟩
end Go.Proofs.Ytbmfkbgncjldjab
namespace Go.Proofs.Ytbmfkbgncjldjab
open Go.RowKit

theorem setB_mono {b : List Bool} {n : Int} {k : Nat} (h : b[k]? = some true) : (setB b n)[k]? = some true := by
  unfold setB
  split
  · exact set_mono h
  · exact h
theorem setB_self {b : List Bool} {n : Int} (h : 0 ≤ n) (h2 : n < b.length) : (setB b n)[n.toNat]? = some true := by
  unfold setB
  rw [if_pos ⟨h, h2⟩, List.getElem?_set_self (by omega)]
theorem lead1_mono (l : List IN) : ∀ (r : List IN) (k : Nat) (b : List Bool) (j : Nat), b[j]? = some true → (lead1 l k r b)[j]? = some true
  | [], _, _, _, h => h
  | x :: r, k, b, j, h => by
    rw [lead1_cons]
    refine lead1_mono l r (k + 1) _ j ?_
    split
    · exact setB_mono (setB_mono h)
    · exact setB_mono h
theorem lead2_mono (l : List IN) : ∀ (r : List HN) (b : List Bool) (j : Nat), b[j]? = some true → (lead2 l r b)[j]? = some true
  | [], _, _, h => h
  | x :: r, b, j, h => by rw [lead2_cons]; exact lead2_mono l r _ j (setB_mono (setB_mono (setB_mono h)))
theorem lead1_tgt (l : List IN) (x : IN) : ∀ (r : List IN) (k : Nat) (b : List Bool), b.length = l.length → x ∈ r → 0 ≤ tgtZ l x → (lead1 l k r b)[(tgtZ l x).toNat]? = some true
  | [], _, _, _, h, _ => by simp at h
  | y :: r, k, b, hb, h, h0 => by
    have ht : tgtZ l x < l.length := by
      unfold tgtZ
      split
      · exact (findZ_lt l x.a).2
      · omega
    rw [lead1_cons]
    rcases List.mem_cons.1 h with rfl | h
    · refine lead1_mono l r _ _ _ ?_
      have := setB_self (b := b) h0 (by rw [hb]; exact ht)
      split
      · exact setB_mono this
      · exact this
    · refine lead1_tgt l x r (k + 1) _ ?_ h h0
      split <;> simp only [setB_len, hb]
theorem leadZ_tgt (l : List IN) (h : List HN) (x : IN) (hx : x ∈ l) (h0 : 0 ≤ tgtZ l x) : (leadZ l h)[(tgtZ l x).toNat]? = some true :=
  lead2_mono l h _ _ (lead1_tgt l x l 0 _ (by rw [setB_len]; simp) hx h0)
theorem next_leads (l : List IN) (h : List HN) (t : Nat) (ht : 0 < t) (hn : t ≤ l.length) (hd : t = l.length ∨ (leadZ l h)[t]? = some true) (m : Int) (hm : m ∈ nextZ l ((t : Int) - 1)) : 0 ≤ m ∧ (leadZ l h)[m.toNat]? = some true := by
  obtain ⟨k, rfl⟩ : ∃ k, t = k + 1 := ⟨t - 1, by omega⟩
  have hk : k < l.length := by omega
  rw [show ((k + 1 : Nat) : Int) - 1 = (k : Int) by omega, nextZ_at (List.getElem?_eq_getElem hk)] at hm
  have ht : ∀ q, q = tgtZ l l[k] → ¬ q < 0 → 0 ≤ q ∧ (leadZ l h)[q.toNat]? = some true := fun q e h0 => by subst e; exact ⟨by omega, leadZ_tgt l h _ (List.getElem_mem hk) (by omega)⟩
  unfold nextL at hm
  split at hm
  · rename_i hc
    simp only [Bool.and_eq_true, decide_eq_true_eq] at hc
    have hs : ∀ q, q = (k : Int) + 1 → 0 ≤ q ∧ (leadZ l h)[q.toNat]? = some true := fun q e => by
      subst e
      refine ⟨by omega, ?_⟩
      rcases hd with hd | hd
      · omega
      · rw [show ((k : Int) + 1).toNat = k + 1 by omega]; exact hd
    split at hm
    · exact hs m (by simpa using hm)
    · rename_i h0
      split at hm
      · simp at hm
        rcases hm with hm | hm
        · exact ht m hm (by omega)
        · exact hs m hm
      · split at hm
        · exact hs m (by simpa using hm)
        · simp at hm
          rcases hm with hm | hm
          · exact hs m hm
          · exact ht m hm (by omega)
  · split at hm
    · simp at hm
    · rename_i h0
      exact ht m (by simpa using hm) (by simp at hm; omega)
end Go.Proofs.Ytbmfkbgncjldjab
namespace Go.Proofs.Ytbmfkbgncjldjab
open Go.RowKit

theorem pv_kl {w : World} {ao : Option Addr} {cap : Nat} {bl : List (Nat × Nat)} {nx : Nat × Nat → List Int} (hl : bl.length ≤ 1000000000000) (hk : bl = [] ∨ ∃ g cs, ao = some ⟨g, 0, none⟩ ∧ KL w g bl nx bl.length cs) : PV w (.slice ao bl.length cap) bl nx := by
  refine ⟨ao, cap, rfl, hl, fun j x hj => ?_⟩
  rcases hk with rfl | ⟨g, cs, rfl, h⟩
  · simp at hj
  · obtain ⟨h1, h2, _⟩ := h.fst j x hj
    obtain ⟨u, h3, h4⟩ := h.lst j x hj (List.getElem?_eq_some_iff.1 hj).1
    exact ⟨g, 0, u, rfl, cell_row h.row _ (by rw [Nat.zero_add]; exact h1), cell_row h.row _ (by rw [Nat.zero_add]; exact h2), cell_row h.row _ (by rw [Nat.zero_add]; exact h3), h4.view⟩
theorem blk_len {d : List Bool} {n p : Nat} {bl : List (Nat × Nat)} (h : Blk d n p bl) : p + bl.length ≤ n := by
  induction h with
  | nil => exact Nat.le_refl _
  | cons h1 _ _ _ _ ih => simp only [List.length_cons]; omega
def bat (p : Nat) (bl : List (Nat × Nat)) (k : Nat) : Nat := if k = 0 then p else ((bl[k - 1]?).map Prod.snd).getD 0
theorem bat_next {p : Nat} {bl : List (Nat × Nat)} {k : Nat} {x : Nat × Nat} (h : bl[k]? = some x) : bat p bl (k + 1) = x.2 := by
  unfold bat
  rw [if_neg (by omega), Nat.add_sub_cancel, h]
  rfl
theorem blk_at {d : List Bool} {n p : Nat} {bl : List (Nat × Nat)} (h : Blk d n p bl) : (∀ (k : Nat) (x : Nat × Nat), bl[k]? = some x → x.1 = bat p bl k ∧ x.1 < x.2 ∧ x.2 ≤ n ∧ (∀ q, x.1 < q → q < x.2 → d[q]? = some false) ∧ (x.2 = n ∨ d[x.2]? = some true)) ∧ bat p bl bl.length = n := by
  induction h with
  | nil => exact ⟨fun k x hx => by simp at hx, rfl⟩
  | @cons p t r h1 h2 h3 h4 _ ih =>
    refine ⟨fun k x hx => ?_, ?_⟩
    · cases k with
      | zero => simp at hx; subst hx; exact ⟨rfl, h1, h2, h3, h4⟩
      | succ k =>
        have hx' : r[k]? = some x := by simpa using hx
        obtain ⟨e, g⟩ := ih.1 k x hx'
        refine ⟨?_, g⟩
        rw [e]
        cases k with
        | zero => rfl
        | succ k =>
          unfold bat
          rw [if_neg (by omega), if_neg (by omega)]
          simp
    · have := ih.2
      rw [← this]
      cases r with
      | nil => rfl
      | cons y r => simp [bat]
theorem blk_lead {d : List Bool} {n p : Nat} {bl : List (Nat × Nat)} (h : Blk d n p bl) (q : Nat) (hq : q < n) (hp : p ≤ q) (hd : q = p ∨ d[q]? = some true) : ∃ (j : Nat) (z : Nat × Nat), bl[j]? = some z ∧ z.1 = q := by
  induction h with
  | nil => omega
  | @cons p t r h1 h2 h3 h4 _ ih =>
    by_cases e : q = p
    · exact ⟨0, _, rfl, e.symm⟩
    · have hd' : d[q]? = some true := hd.resolve_left e
      have ht : t ≤ q := by
        apply Nat.le_of_not_lt
        intro hlt
        rw [h3 q (by omega) hlt] at hd'
        cases hd'
      obtain ⟨j, z, h5, h6⟩ := ih ht (.inr hd')
      exact ⟨j + 1, z, by simpa using h5, h6⟩
theorem lead1_nx (l : List IN) : ∀ (r : List IN) (k : Nat) (b : List Bool) (j : Nat) (y : IN), r[j]? = some y → (kd y.op = 6 ∨ endsB y.op = true) → b.length = l.length → k + j + 1 < l.length → (lead1 l k r b)[k + j + 1]? = some true
  | [], _, _, _, _, h, _, _, _ => by simp at h
  | x :: r, k, b, 0, y, h, hy, hb, hl => by
    simp at h
    subst h
    rw [lead1_cons]
    refine lead1_mono l r _ _ _ ?_
    rw [if_pos (by rcases hy with hy | hy <;> simp [hy])]
    have := setB_self (b := setB b (tgtZ l x)) (n := (k : Int) + 1) (by omega) (by rw [setB_len, hb]; omega)
    rwa [show ((k : Int) + 1).toNat = k + 0 + 1 by omega] at this
  | x :: r, k, b, j + 1, y, h, hy, hb, hl => by
    rw [lead1_cons, show k + (j + 1) + 1 = (k + 1) + j + 1 by omega]
    refine lead1_nx l r (k + 1) _ j y (by simpa using h) hy ?_ (by omega)
    split <;> simp only [setB_len, hb]
theorem leadZ_nx (l : List IN) (h : List HN) (q : Nat) (y : IN) (hy : l[q]? = some y) (hk : kd y.op = 6 ∨ endsB y.op = true) (hl : q + 1 < l.length) : (leadZ l h)[q + 1]? = some true := by
  refine lead2_mono l h _ _ ?_
  have := lead1_nx l l 0 (setB (List.replicate l.length false) 0) q y hy hk (by rw [setB_len]; simp) (by omega)
  rwa [show 0 + q + 1 = q + 1 by omega] at this
theorem next_block {l : List IN} {h : List HN} {bl : List (Nat × Nat)} {nu : List Int} (hb : Blk (leadZ l h) l.length 0 bl) (hn : Numb bl nu) {x : Nat × Nat} {k : Nat} (hx : bl[k]? = some x) (m : Int) (hm : m ∈ nextZ l ((x.2 : Int) - 1)) : ∃ (j : Nat) (z : Nat × Nat), bl[j]? = some z ∧ m = (z.1 : Int) ∧ (nu[m.toNat]?).getD 0 = (j : Int) := by
  obtain ⟨_, h1, h2, _, h4⟩ := (blk_at hb).1 k x hx
  obtain ⟨m0, hmd⟩ := next_leads l h x.2 (by omega) h2 h4 m hm
  obtain ⟨q, rfl⟩ := Int.eq_ofNat_of_zero_le m0
  rw [Int.toNat_natCast] at hmd ⊢
  have hq := nextZ_range hm
  obtain ⟨j, z, h5, h6⟩ := blk_lead hb q (by omega) (Nat.zero_le _) (.inr hmd)
  refine ⟨j, z, h5, by rw [h6], ?_⟩
  have := hn j z h5
  rw [h6] at this
  rw [this]
  rfl
set_option maxRecDepth 8000 in
set_option maxHeartbeats 8000000 in
theorem covers_any (vr : Value) (rl : List Int) (w : World) (hr : M.NV w.heap.size w.heap.size w vr rl) :
    Calls Try.prog 3 #[vr] w fun e w' => e = .returned (.bool true) ∧ Below w.heap.size w w' := by
  have GC := hidIt (code2_any vr rl w hr)
  obtain ⟨aor, capr, rfl, -⟩ := hr
  go_enter Try.func3, Try.ntmps3
  go_upto_region 2 with (go_at_call 5; refine GC.out.mono ?_; rintro e w1 ⟨vl, vh, vf, σ, rfl, hσ, hl, hh, hb1⟩; have HL := hidIt hl; have HH := hidIt hh; have HB := hidIt hb1; have HCk := hidIt (M.made_check hσ); have hpos := M.code_pos (M.body_ended hσ); have hsm := (made_small hσ).2; have HPl := hidIt (made_small hσ).1; clear hb1 GC hσ)
  generalize M.codeZ σ = l at *
  generalize M.handsZ σ = h at *
  obtain ⟨aol, capl, rfl, hlc, hlm, -⟩ := hl
  obtain ⟨aoh, caph, rfl, hhc, hhm, -⟩ := hh
  unfold maxLen at hlm hhm
  have GA := hidIt (check_any _ _ _ l h [] w1 HL.out HH.out (FView.nil w1) HPl.out)
  rw [HCk.out] at GA
  unfold Ans at GA
  dsimp only at GA
  go_upto_region 5 with (go_at_call 6; refine GA.out.mono ?_; rintro e w2 ⟨rfl, hb2⟩; have HB2 := hidIt hb2; clear hb2 GA)
  have HL2 := hidIt (HL.out.below HB2.out)
  have HH2 := hidIt (HH.out.below HB2.out)
  have HBw := hidIt (HB.out.trans (HB2.out.mono HB.out.size))
  have GB := hidIt (blocks_any _ _ l h w2 HL2.out HH2.out (by omega))
  clear HL HH HB HB2 HCk HPl
  go_upto_region 6 with (go_at_call 7; refine GB.out.mono ?_; rintro e w3 ⟨aob, capb, bl, nu, rfl, hbk, hnb, hnl, hb3, hkl⟩; have HBK := hidIt hbk; have HNB := hidIt hnb; have HB3 := hidIt hb3; have HKL := hidIt hkl; clear hbk hnb hb3 hkl GB)
  have hbl := blk_len HBK.out
  have HPV := hidIt (pv_kl (cap := capb) (by omega) HKL.out)
  have HAt := hidIt (blk_at HBK.out)
  have HNx := hidIt (fun (k : Nat) (x : Nat × Nat) (hx : bl[k]? = some x) (m : Int) hm => next_block HBK.out HNB.out hx m hm)
  have HLd := hidIt (fun (q : Nat) (y : IN) hy hk hl => leadZ_nx l h q y hy hk hl)
  have HBx := hidIt (HBw.out.trans (HB3.out.mono HBw.out.size))
  have HLr := hidIt (fun W (hb : Below w3.heap.size w3 W) => (HL2.out.below HB3.out).below hb)
  have GN := hidIt (fun (n : Int) W (hb : Below w3.heap.size w3 W) => next_any _ l n W ((HL2.out.below HB3.out).below hb))
  generalize leadZ l h = dd at *
  obtain ⟨NXF, hNXF⟩ : ∃ NXF : Nat × Nat → List Int, NXF = (fun x => (nextZ l ((x.2 : Int) - 1)).map (fun m => (nu[m.toNat]?).getD 0)) := ⟨_, rfl⟩
  rw [← hNXF] at HPV
  have HNF := hidIt hNXF
  clear HKL HL2 HH2 HBw HB3 HBK HNB hNXF
  have HW := hidIt (Below.refl w3.heap.size w3)
  have hat0 : bat 0 bl 0 = 0 := rfl
  go_wp2_with fail
  go_loopw [9, 10, 11, 12, 13] (fun at_ i _ _ _ wr => ∃ k : Nat, i = .int .i64 (k : Int) ∧ k ≤ bl.length ∧ at_ = .int .i64 ((bat 0 bl k : Nat) : Int) ∧ Below w3.heap.size w3 wr) (fun _ i _ _ _ _ => bl.length - (intOf i).toNat)
  case atStart => exact ⟨0, rfl, Nat.zero_le _, rfl, HW.out⟩
  case round =>
    clear HW
    rename World => w4
    obtain ⟨k, rfl, hk, rfl, hbk⟩ := hrel
    have HW := hidIt hbk
    clear hbk
    by_cases hlt : k < bl.length
    · have hlt' : (k : Int) < (bl.length : Int) := by omega
      obtain ⟨x, hx⟩ : ∃ x, bl[k]? = some x := ⟨bl[k], List.getElem?_eq_getElem hlt⟩
      obtain ⟨a1, a2, a3, a4, a5⟩ := HAt.out.1 k x hx
      have hnext := bat_next (p := 0) hx
      obtain ⟨x1, x2⟩ := x
      have HX := hidIt hx
      have HA4 := hidIt a4
      have HNk := hidIt (HNx.out k (x1, x2) hx)
      have hNF : NXF (x1, x2) = (nextZ l ((x2 : Int) - 1)).map (fun m => (nu[m.toNat]?).getD 0) := by rw [HNF.out]
      have GN1 := hidIt (fun W hb => GN.out ((x2 : Int) - 1) W hb)
      have hNl := nextZ_len l ((x2 : Int) - 1)
      dsimp only at a1 a2 a3 hnext HNk HA4
      have HCc : Hid (∃ g off au cu, aob = some ⟨g, off, none⟩ ∧ ∀ W, Below w3.heap.size w3 W → W.cell? ⟨g, off + k * 3, none⟩ = some (.int .i64 (x1 : Int)) ∧ W.cell? ⟨g, off + k * 3 + 1, none⟩ = some (.int .i64 (x2 : Int)) ∧ W.cell? ⟨g, off + k * 3 + 2, none⟩ = some (.slice au (nextZ l ((x2 : Int) - 1)).length cu) ∧ NView W (.slice au (nextZ l ((x2 : Int) - 1)).length cu) ((nextZ l ((x2 : Int) - 1)).map (fun m => (nu[m.toNat]?).getD 0)) ∧ ∀ (j : Nat) (z : Nat × Nat), bl[j]? = some z → W.cell? ⟨g, off + j * 3, none⟩ = some (.int .i64 (z.1 : Int))) := by
        obtain ⟨ao1, cap1, e1, _, hpv⟩ := HPV.out
        cases e1
        obtain ⟨g, off, u, e2, c0, c1, c2, hu⟩ := hpv k (x1, x2) HX.out
        rw [hNF] at hu
        have hu' := hu
        obtain ⟨au, cu, e3, _⟩ := hu
        rw [List.length_map] at e3
        subst e3
        refine ⟨g, off, au, cu, e2, fun W hb => ⟨cell_later hb c0, cell_later hb c1, cell_later hb c2, hu'.below hb, fun j z hz => ?_⟩⟩
        obtain ⟨g', off', u', e5, k0, _⟩ := hpv j z hz
        rw [e2] at e5
        cases e5
        exact cell_later hb k0
      obtain ⟨g, off, au, cu, rfl, hcc⟩ := HCc.out
      have HC := hidIt hcc
      have HNe := hidIt hnext
      obtain ⟨c0, c1, c2, hu, -⟩ := hcc w4 HW.out
      clear HCc hcc hNF hx a4 a5 hnext hu
      rw [← a1]
      generalize nextZ l ((x2 : Int) - 1) = NX at *
      have a2' : ¬ (x2 : Int) ≤ (x1 : Int) := by omega
      have a3' : ¬ (l.length : Int) < (x2 : Int) := by omega
      clear a1
      go_wp2_with fail
      go_loopw [11] (fun j wr => wr = w4 ∧ ∃ q : Nat, j = .int .i64 (q : Int) ∧ x1 ≤ q ∧ q + 1 ≤ x2) (fun j _ => x2 - (intOf j).toNat)
      case atStart => exact ⟨rfl, x1, rfl, Nat.le_refl _, by omega⟩
      case round =>
        obtain ⟨hwr, q, rfl, hq1, hq2⟩ := hrel
        cases hwr
        by_cases hql : q + 1 < x2
        · have hql' : (q : Int) < (x2 : Int) - 1 := by omega
          obtain ⟨y, hy⟩ : ∃ y, l[q]? = some y := ⟨l[q], List.getElem?_eq_getElem (by omega)⟩
          have hqll : (q : Int) < (l.length : Int) := by omega
          have hd := HA4.out (q + 1) (by omega) hql
          have h6 : ¬ kd y.op = 6 := fun h => by have := HLd.out q y hy (.inl h) (by omega); rw [hd] at this; cases this
          have he : endsB y.op = false := by
            cases he : endsB y.op with
            | false => rfl
            | true => have := HLd.out q y hy (.inr he) (by omega); rw [hd] at this; cases this
          obtain ⟨gl, ofl, rfl, y0, y1, y2, y3⟩ := (HLr.out _ HW.out).row hy
          have GB := hidIt (fun W => rbranch y.op W)
          have GE := hidIt (fun W => rends y.op W)
          rw [decide_eq_false h6] at GB
          rw [he] at GE
          clear hy hd h6 he y0 y2 y3
          go_wp2_with (first | (go_at_call 8; refine (GB.out _).mono ?_; rintro e w' ⟨rfl, hww⟩; cases hww) | (go_at_call 9; refine (GE.out _).mono ?_; rintro e w' ⟨rfl, hww⟩; cases hww))
          exact ⟨⟨by first | rfl | trivial, q + 1, by go_num, by omega, by omega⟩, by simp [intOf]; omega⟩
        · have hql' : ¬ (q : Int) < (x2 : Int) - 1 := by omega
          go_upto_region 18 with (go_at_call 10; refine (GN1.out _ HW.out).mono ?_; clear c0 c1 c2; rintro e w5 ⟨vn, rfl, hn, hb5⟩; have HN := hidIt hn; have HBn := hidIt (HW.out.trans (hb5.mono HW.out.size)); clear HW hb5 hn; have HW := HBn; clear HBn)
          obtain ⟨aon, capn, rfl⟩ := own_slice HN.out
          obtain ⟨c0, c1, c2, hu, -⟩ := HC.out w5 HW.out
          clear hu
          go_wp2_with fail
          clear c0 c1 c2
          go_loopw [13] (fun j wr => ∃ q n : Nat, j = .int .i64 (q : Int) ∧ q ≤ NX.length ∧ wr = w5.drewN n) (fun j _ => NX.length - (intOf j).toNat)
          case atStart => exact ⟨0, 0, rfl, Nat.zero_le _, rfl⟩
          case round =>
            obtain ⟨q3, n, rfl, hq3, rfl⟩ := hrel
            obtain ⟨W, hW⟩ : ∃ W, W = w5.drewN n := ⟨_, rfl⟩
            have HBW : Hid (Below w3.heap.size w3 W) := by rw [hW]; exact below_drewN HW.out n
            have HNW : Hid (NOwn W w4.heap.size (.slice aon NX.length capn) NX) := by rw [hW]; exact HN.out.drewN n
            rw [← hW]
            have HWe := hidIt hW
            clear hW
            obtain ⟨c0, c1, c2, hu, hall⟩ := HC.out W HBW.out
            by_cases hqn : q3 < NX.length
            · have hqn' : (q3 : Int) < (NX.length : Int) := by omega
              obtain ⟨m, hm⟩ : ∃ m, NX[q3]? = some m := ⟨NX[q3], List.getElem?_eq_getElem hqn⟩
              obtain ⟨j, z, hz1, hz2, hz3⟩ := HNk.out m (List.mem_of_getElem? hm)
              obtain ⟨gu, ofu, rfl, u0⟩ := hu.row (j := q3) (x := (j : Int)) (by rw [List.getElem?_map, hm, ← hz3]; rfl)
              obtain ⟨gn, ofn, rfl, n0⟩ := HNW.out.view.row hm
              have z0 := hall j z hz1
              have hjl := (List.getElem?_eq_some_iff.1 hz1).1
              have hj0 : ¬ ((j : Int) < 0) := by omega
              have hj1 : ¬ ((bl.length : Int) ≤ (j : Int)) := by omega
              have hj2 : (j : Int) < (bl.length : Int) := by omega
              subst hz2
              clear hm hz1 hz3 hu hall HNk
              go_wp2_with fail
              go_quiet (fail)
              go_wp2
              refine ⟨⟨q3 + 1, n + nq, by go_num, by omega, ?_⟩, by simp [intOf]; omega⟩
              rw [HWe.out, World.drewN_drewN]
            · have hqn' : ¬ (q3 : Int) < (NX.length : Int) := by omega
              clear hu hall
              go_wp2_with fail
              exact ⟨⟨k + 1, by go_num, by omega, by rw [HNe.out], HBW.out⟩, by simp [intOf]; omega⟩
    · have hlt' : ¬ (k : Int) < (bl.length : Int) := by omega
      obtain rfl : k = bl.length := by omega
      rw [HAt.out.2]
      go_wp2_with (go_at_call 11; refine (known_any _).mono ?_; rintro e wg ⟨rfl, hbg⟩; have HBn := hidIt (HW.out.trans (hbg.mono HW.out.size)); clear HW hbg; have HW := HBn; clear HBn)
      go_ret
      exact ⟨rfl, HBx.out.trans (HW.out.mono HBx.out.size)⟩
end Go.Proofs.Ytbmfkbgncjldjab
namespace Go.Proofs.Ytbmfkbgncjldjab.O
open Go.ChangeShapes Go.WideShapes Go.ChangeAt Go.RowKit
open Go.ChangeMaps (open_string shut_string)

theorem addr_add (b o j : Nat) : (⟨b, o, none⟩ : Addr).add j = ⟨b, o + j, none⟩ := by unfold Addr.add; split <;> simp_all
theorem cells3 : Try.prog.cellsOf 3 = 1 := by kernel_rfl
set_option maxRecDepth 20000 in
theorem open_nums {H : Type} {enc : TypeId × Value → H} {W : World} {base : Nat} {v : Value} {d : DataW H} {p : List MemPlace} (hval : Value.okWide Try.prog W .any base 22 v)
    (h : DataW.Trod enc Try.prog W 0 (fun _ => true) true 22 v d p) : ∃ rl : List Int, ∃ ao cap, v = .slice ao rl.length cap ∧ rl.length ≤ cap ∧ cap ≤ maxLen ∧ (∀ x ∈ rl, -9223372036854775808 ≤ x ∧ x ≤ 9223372036854775807) ∧ (rl = [] ∨ ∃ g off, ao = some ⟨g, off, none⟩ ∧ g < W.heap.size ∧ g < W.heap.size ∧ ∀ (j : Nat) x, rl[j]? = some x → W.cell? ⟨g, off + j, none⟩ = some (.int .i64 x)) := by
  obtain ⟨a, len, cap, rfl⟩ := okWide_slice Try.underlying22 hval
  obtain ⟨fuel, hf⟩ := h
  rcases open_ints Try.underlying22 Try.underlying3 cells3 hf with ⟨hcs, hx⟩ | ⟨x, l, c, zs, hcs, _, hl, hm, hz, hx, hcell, hwz⟩
  · simp [Value.cells] at hcs
    obtain ⟨rfl, rfl, rfl⟩ := hcs
    exact ⟨[], none, 0, rfl, Nat.le_refl _, by unfold maxLen; omega, by simp, .inl rfl⟩
  · simp [Value.cells] at hcs
    obtain ⟨rfl, rfl, rfl⟩ := hcs
    have hzl : zs.length = cap := by simpa using hz
    refine ⟨zs.take len, some x, cap, ?_, ?_, hm, fun y hy => bounds_i64 (hwz y (List.mem_of_mem_take hy)), ?_⟩
    · rw [List.length_take, Nat.min_eq_left (by omega)]
    · rw [List.length_take]; omega
    · by_cases h0 : len = 0
      · left; simp [h0]
      · right
        have h00 := hcell 0 (by omega)
        obtain ⟨b, o, sp⟩ := x
        have hsp : sp = none := by
          have e : (⟨b, o, sp⟩ : Addr).add 0 = ⟨b, o, sp⟩ := by unfold Addr.add; simp
          rw [e] at h00
          exact cell_spot h00
        subst hsp
        have hb : b < W.heap.size := by
          have e : (⟨b, o, none⟩ : Addr).add 0 = ⟨b, o, none⟩ := by unfold Addr.add; simp
          rw [e] at h00
          exact cell_lt h00
        refine ⟨b, o, rfl, hb, hb, fun j y hj => ?_⟩
        have hj1 : j < len := by
          have := (List.getElem?_eq_some_iff.1 hj).1
          simp at this; omega
        have hj2 : zs[j]? = some y := by rwa [List.getElem?_take_of_lt hj1] at hj
        have hc := hcell j (by omega)
        have e : (⟨b, o, none⟩ : Addr).add j = ⟨b, o + j, none⟩ := by unfold Addr.add; split <;> simp_all
        rw [e] at hc
        rw [hc]
        simp [List.getD, hj2]
end Go.Proofs.Ytbmfkbgncjldjab.O
