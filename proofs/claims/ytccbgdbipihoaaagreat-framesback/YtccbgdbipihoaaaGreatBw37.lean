/- Texts FRe. -/
import Derived.Test.YtccbgdbipihoaaaGreatBw36
import Derived.Deep.CutRange
namespace Go.Proofs.YtccbgdbipihoaaaGreat.Fr
open Go.RowKit Q Q.D K

theorem OwnT.form {w : World} {B : Nat} {v : Value} {l : List ByteArray} (h : OwnT w B v l) (hl : 0 < l.length) : ∃ g cap cur, v = .slice (some ⟨g, 0, none⟩) l.length cap ∧ B ≤ g ∧ w.heap[g]? = some (.cells cur 9 (0, 0)) ∧ l.length ≤ cap ∧ cap ≤ maxLen ∧ cur.size = cap ∧ cur.toList.take l.length = tx l := by
  rcases h.2 with ⟨_, e⟩ | ⟨g, cap, cur, e, hB, hg, h1, h2, h3, h4⟩
  · omega
  · exact ⟨g, cap, cur, e, hB, hg, h1, h2, by simpa using h3, by simpa using h4⟩
theorem OwnT.set {w : World} {B g cap n : Nat} {l : List ByteArray} (h : OwnT w B (.slice (some ⟨g, 0, none⟩) l.length cap) l) (hn : n < l.length) (t : ByteArray) : OwnT (w.setCell ⟨g, n, none⟩ (.string t)) B (.slice (some ⟨g, 0, none⟩) l.length cap) (l.set n t) := by
  obtain ⟨g', cap', cur, e, hB, hg, h1, h2, h3, h4⟩ := h.form (by omega)
  cases e
  refine ⟨by simp [tx], .inr ⟨g, cap, cur.setIfInBounds n (.string t), by simp, hB, ?_, by simpa using h1, h2, by simpa using h3, ?_⟩⟩
  · exact Blk.set (show Blk w g cur 9 from hg) n (.string t)
  · rw [List.length_set, Nat.mul_one, Array.toList_setIfInBounds, List.take_set, h4, tx, tx, List.map_set]
theorem OwnT.cell {w : World} {B g cap n : Nat} {l : List ByteArray} (h : OwnT w B (.slice (some ⟨g, 0, none⟩) l.length cap) l) {s : ByteArray} (hn : l[n]? = some s) : w.cell? ⟨g, n, none⟩ = some (.string s) ∧ w.frozen? ⟨g, n, none⟩ = false := by
  have hlt := (List.getElem?_eq_some_iff.1 hn).1
  obtain ⟨g', cap', cur, e, hB, hg, h1, h2, h3, h4⟩ := h.form (by omega)
  cases e
  refine ⟨?_, Blk.frozen (show Blk w g cur 9 from hg) n⟩
  have := h.cells (g := g) rfl n (.string s) (by simp [tx, hn])
  rwa [Addr.add_lit, Nat.zero_add] at this
theorem OwnT.other_cell {w : World} {B g n : Nat} {v u : Value} {l : List ByteArray} (h : OwnT w B v l) (hne : v.ownBlock ≠ some g) : OwnT (w.setCell ⟨g, n, none⟩ u) B v l := ownsRow_setCell_other (a := ⟨g, n, none⟩) h hne u
set_option maxRecDepth 8000 in
set_option maxHeartbeats 2000000 in
theorem set_ok (w : World) (v : Value) (f : RD) (h : FrV w v f) (n : Nat) (t : ByteArray) (n1 : f.loc.length ≤ 8796093022050) (n2 : f.stk.length ≤ 8796093022050) (hn : n < f.loc.length) :
    Calls Tryz.prog 24 #[v, .int .i64 (n : Int), .string t] w fun e w' => ∃ v', e = .returned (.tuple #[v', .int .i64 0]) ∧ OwnF w' w.heap.size v' ⟨f.aT, f.loc.set n t, f.stk⟩ ∧ Below w.heap.size w w' := by
  obtain ⟨o1, c1, o2, c2, rfl, k1, k2⟩ := h
  obtain ⟨aT, loc, stk⟩ := f
  simp only at *
  have hn0 : ¬ (n : Int) < 0 := by omega
  have hn1 : ¬ (n : Int) ≥ (loc.length : Int) := by omega
  have hn2 : (n : Int) < (loc.length : Int) := by omega
  have B2 : Below w.heap.size w ((w.alloc (.cells #[.int .i64 aT, .slice o1 loc.length c1, .slice o2 stk.length c2] 25)).alloc (.cells #[.int .i64 0, .slice none 0 0, .slice none 0 0] 25)) := ((Below.refl _ w).alloc (Nat.le_refl _) _).alloc (by simp) _
  have Y2 := Blk.new (w.alloc (.cells #[.int .i64 aT, .slice o1 loc.length c1, .slice o2 stk.length c2] 25)) #[.int .i64 0, .slice none 0 0, .slice none 0 0] 25
  rw [World.size_alloc] at Y2
  have hz2 : ((w.alloc (.cells #[.int .i64 aT, .slice o1 loc.length c1, .slice o2 stk.length c2] 25)).alloc (.cells #[.int .i64 0, .slice none 0 0, .slice none 0 0] 25)).heap.size = w.heap.size + 1 + 1 := by simp
  have K2 := lists1 (k2.below B2 (fun _ _ h => h))
  have B3 := B2.trans ((balloc _ (.cells #[.slice o2 stk.length c2] 23)).mono B2.size)
  have HM := D.hidIt (made_any _ aT o1 c1 loc _ _ [stk] (k1.below B3 (fun _ _ h => h)) K2 (by omega) (by simp; omega))
  rw [hz2, show [stk].length = 1 from rfl, show [stk].flatten = stk by simp] at HM
  have Y3 := D.hidIt (Y2.alloc (.cells #[.slice o2 stk.length c2] 23))
  have HB3 := D.hidIt B3
  clear K2 k1 k2 hz2 B2 B3 Y2
  go_enter Tryz.func24, Tryz.ntmps24
  go_wp2_with fail
  refine HM.out.mono ?_
  rintro e w4 ⟨v4, rfl, of4, b4⟩
  have Y4 := Y3.out.below b4
  have B4 := HB3.out.trans (b4.mono HB3.out.size)
  have hsz := HB3.out.size
  have hY4 := Y4.lt
  obtain ⟨v1, v2, m, rfl, ow1, ow2, hm1, hm2, hk⟩ := of4
  simp only at ow1 ow2
  obtain ⟨g, p1, cur, rfl, hg0, hg, _⟩ := ow1.form (by omega)
  obtain ⟨a2, p2, rfl⟩ := own_slice ow2
  have hg1 := hg0
  simp only [World.size_alloc] at hg1
  have hgl := (Array.getElem?_eq_some_iff.1 hg).1
  have hgm := hk g rfl
  have F5 := Blk.new w4 #[.int .i64 0, .slice none 0 0, .slice none 0 0] 25
  have b5 := balloc w4 (.cells #[.int .i64 0, .slice none 0 0, .slice none 0 0] 25)
  have O1 := D.hidIt ((ow1.below b5).other F5 (by decide) #[.int .i64 aT, .slice (some ⟨g, 0, none⟩) loc.length p1, .slice a2 stk.length p2])
  have O2 := D.hidIt ((ow2.below b5).other F5 (by decide) #[.int .i64 aT, .slice (some ⟨g, 0, none⟩) loc.length p1, .slice a2 stk.length p2])
  have F6 := setRow_heap _ _ _ #[.int .i64 aT, .slice (some ⟨g, 0, none⟩) loc.length p1, .slice a2 stk.length p2] _ _ F5
  have Y5 := Y4.below b5
  have Y6 : Blk ((w4.alloc (.cells #[.int .i64 0, .slice none 0 0, .slice none 0 0] 25)).setRow w4.heap.size #[.int .i64 aT, .slice (some ⟨g, 0, none⟩) loc.length p1, .slice a2 stk.length p2]) (w.heap.size + 1) #[.int .i64 0, .slice none 0 0, .slice none 0 0] 25 := by
    show _ = _
    rw [World.setRow]
    simp only
    rw [Array.getElem?_modify, if_neg (by omega)]
    exact Y5
  have B6 := D.hidIt (below_setRow (B4.trans (b5.mono B4.size)) (show w.heap.size ≤ w4.heap.size by omega) #[.int .i64 aT, .slice (some ⟨g, 0, none⟩) loc.length p1, .slice a2 stk.length p2])
  have HY6 := D.hidIt Y6
  have HF6 := D.hidIt F6
  have hz6 : m ≤ ((w4.alloc (.cells #[.int .i64 0, .slice none 0 0, .slice none 0 0] 25)).setRow w4.heap.size #[.int .i64 aT, .slice (some ⟨g, 0, none⟩) loc.length p1, .slice a2 stk.length p2]).heap.size := by simp [World.setRow]; omega
  clear HM Y3 HB3 b4 ow1 ow2 hg Y4 Y5 Y6 F6
  go_upto_region 4 with (refine wpList_store_row rfl 25 _ _ rfl w4.heap.size #[.int .i64 aT, .slice (some ⟨g, 0, none⟩) loc.length p1, .slice a2 stk.length p2] rfl rfl 25 _ F5 (by kernel_rfl) rfl (by simp [Value.oneCell']) ?_)
  generalize (w4.alloc (.cells #[.int .i64 0, .slice none 0 0, .slice none 0 0] 25)).setRow w4.heap.size #[.int .i64 aT, .slice (some ⟨g, 0, none⟩) loc.length p1, .slice a2 stk.length p2] = W6 at *
  have X6 : Blk W6 w4.heap.size #[.int .i64 aT, .slice (some ⟨g, 0, none⟩) loc.length p1, .slice a2 stk.length p2] 25 := HF6.out
  have x1 := X6.cell 1
  simp at x1
  obtain ⟨s0, hs0⟩ : ∃ s, loc[n]? = some s := ⟨_, List.getElem?_eq_getElem hn⟩
  obtain ⟨y0, y1⟩ := O1.out.cell hs0
  have O7 := D.hidIt (OwnT.set O1.out hn t)
  have O8 := D.hidIt (O2.out.other_cell (g := g) (n := n) (u := .string t) (fun e => by have := (O2.out.lt g e).1; omega))
  have X7 := X6.other (b' := g) (by omega) n (.string t)
  have Y7 := Blk.other HY6.out (b' := g) (by omega) n (.string t)
  have B7 := D.hidIt (below_set B6.out (show w.heap.size ≤ g by omega) n (.string t))
  have z0 := X7.cell 0
  have z1 := X7.cell 1
  have z2 := X7.cell 2
  simp at z0 z1 z2
  clear O1 O2 hs0
  go_wp2_with (refine wpList_store_row rfl 25 _ _ rfl (w.heap.size + 1) #[.int .i64 aT, .slice (some ⟨g, 0, none⟩) loc.length p1, .slice a2 stk.length p2] rfl rfl 25 _ Y7 (by kernel_rfl) rfl (by simp [Value.oneCell']) ?_)
  refine bodyPost_ret (results_rowb rfl _ _ (w.heap.size + 1) 25 _ (0, 0) _ rfl (setRow_heap _ _ _ _ _ _ Y7) Tryz.underlying25 rfl (by kernel_rfl)) rfl ?_
  have hz7 : m ≤ (W6.setCell ⟨g, n, none⟩ (.string t)).heap.size := by simpa [World.setCell] using hz6
  refine ⟨_, rfl, ⟨_, _, m, rfl, ?_, OwnT.other O8.out Y7 (by decide) _, by omega, by simpa [World.setRow] using hz7, fun k hk => ?_⟩, below_setRow B7.out (by omega) _⟩
  · have := (OwnT.other O7.out Y7 (by decide) #[.int .i64 aT, .slice (some ⟨g, 0, none⟩) loc.length p1, .slice a2 stk.length p2]).mono hsz
    simpa using this
  · simp [Value.ownBlock] at hk
    omega
set_option maxRecDepth 8000 in
set_option maxHeartbeats 2000000 in
theorem set_no (w : World) (v : Value) (f : RD) (h : FrV w v f) (n : Int) (t : ByteArray) (hn : n < 0 ∨ (f.loc.length : Int) ≤ n) :
    Calls Tryz.prog 24 #[v, .int .i64 n, .string t] w fun e w' => e = .returned (.tuple #[zeroF, .int .i64 19]) ∧ Below w.heap.size w w' := by
  obtain ⟨o1, c1, o2, c2, rfl, k1, k2⟩ := h
  obtain ⟨aT, loc, stk⟩ := f
  simp only at *
  have B2 : Below w.heap.size w ((w.alloc (.cells #[.int .i64 aT, .slice o1 loc.length c1, .slice o2 stk.length c2] 25)).alloc (.cells #[.int .i64 0, .slice none 0 0, .slice none 0 0] 25)) := ((Below.refl _ w).alloc (Nat.le_refl _) _).alloc (by simp) _
  have Y2 := Blk.new (w.alloc (.cells #[.int .i64 aT, .slice o1 loc.length c1, .slice o2 stk.length c2] 25)) #[.int .i64 0, .slice none 0 0, .slice none 0 0] 25
  rw [World.size_alloc] at Y2
  clear k1 k2
  have hd : decide (n < 0) = true ∨ decide (n < 0) = false ∧ (n ≥ (loc.length : Int)) := by
    by_cases h0 : n < 0
    · exact .inl (by simpa using h0)
    · exact .inr ⟨by simpa using h0, by omega⟩
  rcases hd with hd | ⟨hd, hge⟩
  · have hn0 : n < 0 := by simpa using hd
    go_enter Tryz.func24, Tryz.ntmps24
    go_wp2_with (refine wpList_store_row rfl 25 _ _ rfl (w.heap.size + 1) #[.int .i64 0, .slice none 0 0, .slice none 0 0] rfl rfl 25 _ Y2 (by kernel_rfl) rfl (by simp [Value.oneCell']) ?_)
    refine bodyPost_ret (results_rowb rfl _ _ (w.heap.size + 1) 25 _ (0, 0) _ rfl (setRow_heap _ _ _ _ _ _ Y2) Tryz.underlying25 rfl (by kernel_rfl)) rfl ?_
    exact ⟨rfl, below_setRow B2 (by omega) _⟩
  · have hn0 : ¬ n < 0 := by simpa using hd
    go_enter Tryz.func24, Tryz.ntmps24
    go_wp2_with (refine wpList_store_row rfl 25 _ _ rfl (w.heap.size + 1) #[.int .i64 0, .slice none 0 0, .slice none 0 0] rfl rfl 25 _ Y2 (by kernel_rfl) rfl (by simp [Value.oneCell']) ?_)
    refine bodyPost_ret (results_rowb rfl _ _ (w.heap.size + 1) 25 _ (0, 0) _ rfl (setRow_heap _ _ _ _ _ _ Y2) Tryz.underlying25 rfl (by kernel_rfl)) rfl ?_
    exact ⟨rfl, below_setRow B2 (by omega) _⟩
end Go.Proofs.YtccbgdbipihoaaaGreat.Fr
