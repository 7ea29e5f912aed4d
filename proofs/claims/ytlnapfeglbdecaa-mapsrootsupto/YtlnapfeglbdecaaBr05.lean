/- Texts LVf LVg LVh LVk LVs. -/
import Derived.Test.YtlnapfeglbdecaaBr04
import Derived.Deep.CutRange
import Derived.Test.YtlnapfeglbdecaaBr02
import Derived.Deep.RegionHeld3
import Derived.Test.YtlnapfeglbdecaaBr03
namespace Go.Proofs.Ytlnapfeglbdecaa
open Go.RowKit

theorem Try.infoMI : (Try.prog.info? 3).map (fun i => (i.zero, i.size, i.bytes)) = some (some (.int .i64 0), 1, 8) := by kernel_rfl
theorem Try.infoMN : (Try.prog.info? 25).map (fun i => (i.zero, i.size, i.bytes)) = some (some (.slice none 0 0), 1, 24) := by kernel_rfl
theorem Try.infoMS : (Try.prog.info? 77).map (fun i => (i.zero, i.size, i.bytes)) = some (some (.int .u16 0), 1, 2) := by kernel_rfl
structure Bg (w : World) (gg gn gc gs : Nat) (vl vh : Value) (nl nh : Nat) (cn cc cu : Array Value) (W : World) : Prop where
  bl : Below w.heap.size w W
  row : W.heap[gg]? = some (.cells #[vl, .slice (some ⟨gn, 0, none⟩) nl nl, vh, .slice (some ⟨gc, 0, none⟩) nh nh, .slice (some ⟨gs, 0, none⟩) nl nl] 76 (0, 0))
  nx : W.heap[gn]? = some (.cells cn 25 (0, 0))
  ct : W.heap[gc]? = some (.cells cc 3 (0, 0))
  sv : W.heap[gs]? = some (.cells cu 77 (0, 0))
  n0 : w.heap.size ≤ gn
  c0 : w.heap.size ≤ gc
  s0 : w.heap.size ≤ gs
theorem al (W : World) (o : Obj) : (W.alloc o).heap[W.heap.size]? = some o := heap_alloc_new W o
theorem alo {W : World} {o p : Obj} {k : Nat} (h : W.heap[k]? = some p) : (W.alloc o).heap[k]? = some p := ((below_alloc W o).block k (Array.getElem?_eq_some_iff.1 h).1).trans h
theorem al1 {W : World} {o p : Obj} {k : Nat} (hk : k = W.heap.size + 1) : ((W.alloc p).alloc o).heap[k]? = some o := by subst hk; exact heap_alloc_new' (by simp)
theorem al2 {W : World} {o p q : Obj} {k : Nat} (hk : k = W.heap.size + 1 + 1) : (((W.alloc q).alloc p).alloc o).heap[k]? = some o := by subst hk; exact heap_alloc_new' (by simp)
theorem al3 {W : World} {o p q r : Obj} {k : Nat} (hk : k = W.heap.size + 1 + 1 + 1) : ((((W.alloc r).alloc q).alloc p).alloc o).heap[k]? = some o := by subst hk; exact heap_alloc_new' (by simp)
theorem Bg.below {w : World} {gg gn gc gs : Nat} {vl vh : Value} {nl nh : Nat} {cn cc cu : Array Value} {W W' : World} (p : Bg w gg gn gc gs vl vh nl nh cn cc cu W) (hb : Below W.heap.size W W') : Bg w gg gn gc gs vl vh nl nh cn cc cu W' := by
  have H : ∀ {k : Nat} {o : Obj}, W.heap[k]? = some o → W'.heap[k]? = some o := fun hk => (hb.block _ (Array.getElem?_eq_some_iff.1 hk).1).trans hk
  exact ⟨p.bl.trans (hb.mono p.bl.size), H p.row, H p.nx, H p.ct, H p.sv, p.n0, p.c0, p.s0⟩
theorem Bg.setN {w : World} {gg gn gc gs : Nat} {vl vh : Value} {nl nh : Nat} {cn cc cu : Array Value} {W : World} (p : Bg w gg gn gc gs vl vh nl nh cn cc cu W) (k : Nat) (u : Value) : Bg w gg gn gc gs vl vh nl nh (cn.setIfInBounds k u) cc cu (W.setCell ⟨gn, k, none⟩ u) := by
  have H : ∀ {b : Nat} {cs : Array Value} {T : TypeId}, W.heap[b]? = some (.cells cs T (0, 0)) → T ≠ 25 → (W.setCell ⟨gn, k, none⟩ u).heap[b]? = some (.cells cs T (0, 0)) := fun {b cs T} hk hT => by
    rw [Below.heap_setCell _ _ _ _ (show b ≠ gn from other_block hk p.nx hT)]
    exact hk
  exact ⟨p.bl.setCell (p := ⟨gn, k, none⟩) p.n0 _, H p.row (by decide), set_row p.nx, H p.ct (by decide), H p.sv (by decide), p.n0, p.c0, p.s0⟩
theorem Bg.setC {w : World} {gg gn gc gs : Nat} {vl vh : Value} {nl nh : Nat} {cn cc cu : Array Value} {W : World} (p : Bg w gg gn gc gs vl vh nl nh cn cc cu W) (k : Nat) (u : Value) : Bg w gg gn gc gs vl vh nl nh cn (cc.setIfInBounds k u) cu (W.setCell ⟨gc, k, none⟩ u) := by
  have H : ∀ {b : Nat} {cs : Array Value} {T : TypeId}, W.heap[b]? = some (.cells cs T (0, 0)) → T ≠ 3 → (W.setCell ⟨gc, k, none⟩ u).heap[b]? = some (.cells cs T (0, 0)) := fun {b cs T} hk hT => by
    rw [Below.heap_setCell _ _ _ _ (show b ≠ gc from other_block hk p.ct hT)]
    exact hk
  exact ⟨p.bl.setCell (p := ⟨gc, k, none⟩) p.c0 _, H p.row (by decide), H p.nx (by decide), set_row p.ct, H p.sv (by decide), p.n0, p.c0, p.s0⟩
theorem NOwn.setLt {w : World} {B g o : Nat} {u v : Value} {l : List Int} (h : NOwn w B v l) (hg : g < B) : NOwn (w.setCell ⟨g, o, none⟩ u) B v l := by
  refine ⟨h.1, ?_⟩
  rcases h.2 with x | ⟨k, cap, cur, rfl, hB, hk, r⟩
  · exact .inl x
  · exact .inr ⟨k, cap, cur, rfl, hB, (Below.heap_setCell _ _ _ _ (by show k ≠ g; omega)).trans hk, r⟩
def Nxs (l : List IN) (B k : Nat) (cn : Array Value) (W : World) : Prop := cn.size = l.length ∧ ∀ j : Nat, j < k → ∃ u, cn[j]? = some u ∧ NOwn W B u (nextZ l (j : Int))
theorem Nxs.below {l : List IN} {B k : Nat} {cn : Array Value} {W W' : World} (h : Nxs l B k cn W) (hb : Below W.heap.size W W') : Nxs l B k cn W' := ⟨h.1, fun j hj => by
  obtain ⟨u, h1, h2⟩ := h.2 j hj
  exact ⟨u, h1, h2.step hb⟩⟩
theorem Nxs.setC {l : List IN} {B k g o : Nat} {cn : Array Value} {W : World} {u : Value} (h : Nxs l B k cn W) (hg : g < B) : Nxs l B k cn (W.setCell ⟨g, o, none⟩ u) := ⟨h.1, fun j hj => by
  obtain ⟨v, h1, h2⟩ := h.2 j hj
  exact ⟨v, h1, h2.setLt hg⟩⟩
theorem Nxs.setN {l : List IN} {B k g : Nat} {cn : Array Value} {W : World} {u : Value} (h : Nxs l B k cn W) (hk : k < l.length) (hg : W.heap[g]? = some (.cells cn 25 (0, 0))) (hu : NOwn W B u (nextZ l (k : Int))) : Nxs l B (k + 1) (cn.setIfInBounds k u) (W.setCell ⟨g, k, none⟩ u) := ⟨by simpa using h.1, fun j hj => by
  by_cases e : j = k
  · subst e
    exact ⟨u, Array.getElem?_setIfInBounds_self_of_lt (by rw [h.1]; exact hk), own_set hu hg (by decide)⟩
  · obtain ⟨v, h1, h2⟩ := h.2 j (by omega)
    exact ⟨v, by rw [Array.getElem?_setIfInBounds_ne (by omega)]; exact h1, own_set h2 hg (by decide)⟩⟩
theorem made_sets (n : Nat) : madeCells #[Value.int .u16 0] n = ucells (List.replicate n 0#16) := by
  apply Array.toList_inj.1
  rw [toList_madeCells_one]
  simp [ucells, su]
theorem made_ints (n : Nat) : madeCells #[Value.int .i64 0] n = (ncells (List.replicate n 0)).toArray := by
  apply Array.toList_inj.1
  rw [toList_madeCells_one]
  simp [ncells]
theorem made_size (v : Value) (n : Nat) : (madeCells #[v] n).size = n := by
  have := congrArg List.length (toList_madeCells_one v n)
  simpa using this
set_option maxRecDepth 8000 in
set_option maxHeartbeats 4000000 in
theorem begin_any (vl vh : Value) (l : List IN) (h : List HN) (w : World) (hv : IView w vl l) (hu : HView w vh h) (hl : l.length ≤ 1000000000000) (hh : h.length ≤ 1000000000000) :
    Calls Try.prog 21 #[vl, vh] w fun e w' => ∃ gg, e = .returned (.pointer (some ⟨gg, 0, none⟩)) ∧ ∃ gn gc gs, Gr w gg gn gc gs vl vh l h (List.replicate l.length 0#16) w' := by
  have HV := hidIt hv
  have HU := hidIt hu
  obtain ⟨iI, hI, hI0, hI1, hI2⟩ := info_parts Try.infoMI
  obtain ⟨iN, hN, hN0, hN1, hN2⟩ := info_parts Try.infoMN
  obtain ⟨iS, hS, hS0, hS1, hS2⟩ := info_parts Try.infoMS
  obtain ⟨ao, cap, rfl, hc, hm, _⟩ := hv
  obtain ⟨ao2, cap2, rfl, hc2, hm2, _⟩ := hu
  unfold maxLen at hm hm2
  go_enter Try.func21, Try.ntmps21
  go_upto_region 1 with (fail)
  go_cut [5] from 9 to 21 (fun p wx => ∃ gg gn gc gs, p = .pointer (some ⟨gg, 0, none⟩) ∧ Bg w gg gn gc gs (.slice ao l.length cap) (.slice ao2 h.length cap2) l.length h.length (madeCells #[.slice none 0 0] l.length) (madeCells #[.int .i64 0] h.length) (madeCells #[.int .u16 0] l.length) wx)
  case first =>
    have m1 : ∀ W : World, (Instr.makeSlice 73 (.int .i64 (l.length : Int)) (.int .i64 (l.length : Int))).run Try.prog W = .ok (.slice (some ⟨W.heap.size, 0, none⟩) l.length l.length) (W.alloc (.cells (madeCells #[.slice none 0 0] l.length) 25)) := fun W => run_make_row _ _ iN _ Try.underlying73 hN hN0 hN1 rfl _ _ _ (by rw [hN2]; omega) (by omega) W
    have m2 : ∀ W : World, (Instr.makeSlice 25 (.int .i64 (h.length : Int)) (.int .i64 (h.length : Int))).run Try.prog W = .ok (.slice (some ⟨W.heap.size, 0, none⟩) h.length h.length) (W.alloc (.cells (madeCells #[.int .i64 0] h.length) 3)) := fun W => run_make_row _ _ iI _ Try.underlying25 hI hI0 hI1 rfl _ _ _ (by rw [hI2]; omega) (by omega) W
    have m3 : ∀ W : World, (Instr.makeSlice 74 (.int .i64 (l.length : Int)) (.int .i64 (l.length : Int))).run Try.prog W = .ok (.slice (some ⟨W.heap.size, 0, none⟩) l.length l.length) (W.alloc (.cells (madeCells #[.int .u16 0] l.length) 77)) := fun W => run_make_row _ _ iS _ Try.underlying74 hS hS0 hS1 rfl _ _ _ (by rw [hS2]; omega) (by omega) W
    clear hI hN hS hI0 hN0 hS0 hI1 hN1 hS1 hI2 hN2 hS2
    go_region_with (fail)
    all_goals clear m1 m2 m3
    all_goals go_wp2_with fail
    all_goals go_meet
    all_goals refine ⟨_, _, _, _, rfl, (((((Below.refl _ w).drew).alloc (Nat.le_refl _) _).alloc (by simp) _).alloc (by simp; omega) _).alloc (by simp; omega) _, al3 rfl, ?_, ?_, ?_, ?_, ?_, ?_⟩
    all_goals first | exact alo (W := ((w.alloc _).alloc _).alloc _) (alo (alo (al _ _))) | exact alo (W := ((w.alloc _).alloc _).alloc _) (alo (al1 rfl)) | exact alo (W := ((w.alloc _).alloc _).alloc _) (al2 rfl) | exact Nat.le_refl _ | omega
  case rest =>
    clear hI hN hS hI0 hN0 hS0 hI1 hN1 hS1 hI2 hN2 hS2
    obtain ⟨gg, gn, gc, gs, rfl, hbg⟩ := hcut
    have GN := hidIt (fun (n : Int) W (hb : Below w.heap.size w W) => next_any _ l n W (HV.out.below hb))
    have GF := hidIt (fun (n : Int) W (hb : Below w.heap.size w W) => find_any _ l n W (HV.out.below hb))
    have HB := hidIt hbg
    have HX : Hid (Nxs l (gc + 1) 0 (madeCells #[.slice none 0 0] l.length) wc) := ⟨made_size _ _, fun j hj => absurd hj (Nat.not_lt_zero _)⟩
    clear hbg
    go_wp2_with fail
    go_loopw [6, 24] (fun _ i wr => ∃ (k : Nat) (cn : Array Value), k ≤ l.length ∧ i = .int .i64 (k : Int) ∧ Bg w gg gn gc gs (.slice ao l.length cap) (.slice ao2 h.length cap2) l.length h.length cn (madeCells #[.int .i64 0] h.length) (madeCells #[.int .u16 0] l.length) wr ∧ Nxs l (gc + 1) k cn wr) (fun _ i _ => l.length - (intOf i).toNat)
    case atStart => exact ⟨0, _, Nat.zero_le _, rfl, HB.out, HX.out⟩
    case round =>
      clear HB HX
      obtain ⟨k, cn, hk, rfl, hb, hx⟩ := hrel
      have HB := hidIt hb
      have HX := hidIt hx
      clear hb hx
      by_cases hlt : k < l.length
      · have hlt' : (k : Int) < (l.length : Int) := by omega
        have hcg : gc + 1 ≤ wr.heap.size := (Array.getElem?_eq_some_iff.1 HB.out.ct).1
        go_upto_region 5 with (fail)
        have S0 : Hid (wr.drew.cell? ⟨gg, 1, none⟩ = some (.slice (some ⟨gn, 0, none⟩) l.length l.length)) := cell_row HB.out.row 1 rfl
        have B0 : Hid (Below w.heap.size w wr.drew) := HB.out.bl.drew
        go_region_held3 (fun W => W.cell? ⟨gg, 1, none⟩ = some (.slice (some ⟨gn, 0, none⟩) l.length l.length)) (first | exact S0.out | exact S1.out | exact S2.out)
          (first | (go_at_call 33; refine (GN.out _ _ B0.out).mono ?_; rintro e w2 ⟨vn, rfl, hn, hb2⟩; obtain ⟨aon, capn, hvn⟩ := own_slice hn; subst hvn; have hbb : Below wr.heap.size wr w2 := ⟨hb2.os, hb2.tape, hb2.output, hb2.size, hb2.block⟩; have HB2 := hidIt (HB.out.below hbb); have HX2 := hidIt (HX.out.below hbb); have HN2 := hidIt (hn.wk hcg); have S1 : Hid (w2.cell? ⟨gg, 1, none⟩ = some (.slice (some ⟨gn, 0, none⟩) l.length l.length)) := cell_row HB2.out.row 1 rfl; have S2 : Hid ((w2.setCell ⟨gn, k, none⟩ (.slice aon (nextZ l (k : Int)).length capn)).cell? ⟨gg, 1, none⟩ = some (.slice (some ⟨gn, 0, none⟩) l.length l.length)) := cell_row (HB2.out.setN k _).row 1 rfl; obtain ⟨u0, hu0⟩ : ∃ u0, cn[k]? = some u0 := ⟨_, Array.getElem?_eq_getElem (by rw [HX.out.1]; exact hlt)⟩; have c1 := cell_row HB2.out.nx k hu0; have hf := frozen_row HB2.out.nx k; clear hn hb2 hbb hu0))
        have HB3 := hidIt (HB2.out.setN k (.slice aon (nextZ l (k : Int)).length capn))
        have HX3 := hidIt (HX2.out.setN hlt HB2.out.nx HN2.out)
        clear HB2 HX2 HN2 S1 S2 c1 hf S0 B0 HB HX
        generalize w2.setCell ⟨gn, k, none⟩ (.slice aon (nextZ l (k : Int)).length capn) = w3 at *
        go_wp2_with fail
        exact ⟨⟨k + 1, _, by omega, by go_num, HB3.out, HX3.out⟩, by simp [intOf]; omega⟩
      · have hlt' : ¬ (k : Int) < (l.length : Int) := by omega
        obtain rfl : k = l.length := by omega
        have HC : Hid ((List.replicate h.length (0 : Int)).length = h.length ∧ ∀ j : Nat, j < 0 → (List.replicate h.length (0 : Int))[j]? = (h.map (fun y => findZ l y.a))[j]?) := ⟨by simp, fun j hj => absurd hj (Nat.not_lt_zero _)⟩
        rw [made_ints] at HB
        clear GN
        go_wp2_with fail
        obtain ⟨W, hW⟩ : ∃ W, W = wr := ⟨wr, rfl⟩
        subst hW
        go_loopw [7, 8, 39] (fun _ _ i wr => ∃ (k : Nat) (cc : List Int), k ≤ h.length ∧ i = .int .i64 (k : Int) ∧ Bg w gg gn gc gs (.slice ao l.length cap) (.slice ao2 h.length cap2) l.length h.length cn (ncells cc).toArray (madeCells #[.int .u16 0] l.length) wr ∧ Nxs l (gc + 1) l.length cn wr ∧ (cc.length = h.length ∧ ∀ j : Nat, j < k → cc[j]? = (h.map (fun y => findZ l y.a))[j]?)) (fun _ _ i _ => h.length - (intOf i).toNat)
        case atStart => exact ⟨0, _, Nat.zero_le _, rfl, HB.out, HX.out, HC.out⟩
        case round =>
          clear HB HX HC
          obtain ⟨k, cc, hk, rfl, hb, hx, hcc⟩ := hrel
          have HB := hidIt hb
          have HX := hidIt hx
          have HC := hidIt hcc
          clear hb hx hcc
          by_cases hlh : k < h.length
          · have hlh' : (k : Int) < (h.length : Int) := by omega
            obtain ⟨y, hy⟩ : ∃ y, h[k]? = some y := ⟨h[k], List.getElem?_eq_getElem hlh⟩
            obtain ⟨gh, offh, rfl, d0, d1, d2, d3⟩ := (HU.out.below HB.out.bl).row hy
            have HY := hidIt hy
            clear hy
            have HA := hidIt (below_alloc wr (.cells #[.int .i64 y.f, .int .i64 y.t, .int .i64 y.a, .string y.ty] 55))
            have HE := hidIt (heap_alloc_new wr (.cells #[.int .i64 y.f, .int .i64 y.t, .int .i64 y.a, .string y.ty] 55))
            have HB1 := hidIt (HB.out.below HA.out)
            have HX1 := hidIt (HX.out.below HA.out)
            go_upto_region 10 with (fail)
            clear d0 d1 d2 d3 HB HX HA
            generalize wr.alloc (.cells #[.int .i64 y.f, .int .i64 y.t, .int .i64 y.a, .string y.ty] 55) = w1 at *
            have hbx : Hid (∀ W, Below w1.heap.size w1 W → W.heap[wr.heap.size]? = some (.cells #[.int .i64 y.f, .int .i64 y.t, .int .i64 y.a, .string y.ty] 55 (0, 0))) := fun W b => (b.block _ (Array.getElem?_eq_some_iff.1 HE.out).1).trans HE.out
            have S0 : Hid (w1.drew.cell? ⟨gg, 3, none⟩ = some (.slice (some ⟨gc, 0, none⟩) h.length h.length) ∧ w1.drew.cell? ⟨wr.heap.size, 2, none⟩ = some (.int .i64 y.a)) := ⟨cell_row HB1.out.row 3 rfl, cell_row HE.out 2 rfl⟩
            have B0 : Hid (Below w.heap.size w w1.drew) := HB1.out.bl.drew
            go_region_held3 (fun W => W.cell? ⟨gg, 3, none⟩ = some (.slice (some ⟨gc, 0, none⟩) h.length h.length) ∧ W.cell? ⟨wr.heap.size, 2, none⟩ = some (.int .i64 y.a)) (first | exact S0.out | exact S1.out | exact S2.out)
              (first | (go_at_call 34; refine (GF.out _ _ B0.out).mono ?_; rintro e w2 ⟨rfl, hb2⟩; have hbb : Below w1.heap.size w1 w2 := ⟨hb2.os, hb2.tape, hb2.output, hb2.size, hb2.block⟩; have HB2 := hidIt (HB1.out.below hbb); have HX2 := hidIt (HX1.out.below hbb); have HE2 := hidIt (hbx.out _ hbb); have S1 : Hid (w2.cell? ⟨gg, 3, none⟩ = some (.slice (some ⟨gc, 0, none⟩) h.length h.length) ∧ w2.cell? ⟨wr.heap.size, 2, none⟩ = some (.int .i64 y.a)) := ⟨cell_row HB2.out.row 3 rfl, cell_row HE2.out 2 rfl⟩; have S2 : Hid ((w2.setCell ⟨gc, k, none⟩ (.int .i64 (findZ l y.a))).cell? ⟨gg, 3, none⟩ = some (.slice (some ⟨gc, 0, none⟩) h.length h.length) ∧ (w2.setCell ⟨gc, k, none⟩ (.int .i64 (findZ l y.a))).cell? ⟨wr.heap.size, 2, none⟩ = some (.int .i64 y.a)) := ⟨cell_row (HB2.out.setC k _).row 3 rfl, cell_row ((Below.heap_setCell _ _ _ _ (show wr.heap.size ≠ gc from other_block HE2.out HB2.out.ct (by decide))).trans HE2.out) 2 rfl⟩; obtain ⟨u0, hu0⟩ : ∃ u0, (ncells cc).toArray[k]? = some u0 := ⟨_, Array.getElem?_eq_getElem (by simp [ncells]; rw [HC.out.1]; exact hlh)⟩; have c1 := cell_row HB2.out.ct k hu0; have hf := frozen_row HB2.out.ct k; clear hb2 hbb hu0))
            have HB3 := hidIt (HB2.out.setC k (.int .i64 (findZ l y.a)))
            have HX3 := hidIt (HX2.out.setC (g := gc) (o := k) (u := .int .i64 (findZ l y.a)) (Nat.lt_succ_self _))
            have ecc : (ncells cc).toArray.setIfInBounds k (.int .i64 (findZ l y.a)) = (ncells (cc.set k (findZ l y.a))).toArray := by simp [ncells, List.map_set]
            rw [ecc] at HB3
            have HC3 : Hid ((cc.set k (findZ l y.a)).length = h.length ∧ ∀ j : Nat, j < k + 1 → (cc.set k (findZ l y.a))[j]? = (h.map (fun y => findZ l y.a))[j]?) := ⟨by rw [List.length_set]; exact HC.out.1, fun j hj => by
              by_cases e : k = j
              · subst e
                rw [List.getElem?_set_self (by rw [HC.out.1]; exact hlh), List.getElem?_map, HY.out]
                rfl
              · rw [List.getElem?_set_ne e]
                exact HC.out.2 j (by omega)⟩
            clear HB2 HX2 S1 S2 c1 hf S0 B0 HB1 HX1 HC ecc HE HE2 hbx HY
            generalize w2.setCell ⟨gc, k, none⟩ (.int .i64 (findZ l y.a)) = w3 at *
            generalize cc.set k (findZ l y.a) = cc3 at *
            go_wp2_with fail
            exact ⟨⟨k + 1, cc3, by omega, by go_num, HB3.out, HX3.out, HC3.out⟩, by simp [intOf]; omega⟩
          · have hlh' : ¬ (k : Int) < (h.length : Int) := by omega
            obtain rfl : k = h.length := by omega
            have ecc : cc = h.map (fun y => findZ l y.a) := by
              apply List.ext_getElem?
              intro j
              by_cases e : j < h.length
              · exact HC.out.2 j e
              · rw [List.getElem?_eq_none (by rw [HC.out.1]; omega), List.getElem?_eq_none (by simp; omega)]
            subst ecc
            rw [made_sets] at HB
            have HR : Hid (Gr w gg gn gc gs (.slice ao l.length cap) (.slice ao2 h.length cap2) l h (List.replicate l.length 0#16) wr) := ⟨HB.out.bl, HV.out, HU.out, HB.out.row, ⟨cn, HB.out.nx, fun j hj => by
              obtain ⟨u, h1, h2⟩ := HX.out.2 j hj
              exact ⟨u, h1, h2.wk (Nat.zero_le _)⟩⟩, HB.out.ct, HB.out.sv, by simp, HB.out.s0⟩
            go_wp2_with fail
            go_ret
            exact ⟨gg, rfl, gn, gc, gs, HR.out⟩
end Go.Proofs.Ytlnapfeglbdecaa
namespace Go.Proofs.Ytlnapfeglbdecaa
open Go.RowKit

theorem Try.infoMB : (Try.prog.info? 22).map (fun i => (i.zero, i.size, i.bytes)) = some (some (.slice none 0 0), 1, 24) := by kernel_rfl
def Lvs (s : List (BitVec 16)) (n L k : Nat) (cs : Array Value) (w : World) : Prop := cs.size = n ∧ ∀ j : Nat, j < k → ∃ gb, cs[j]? = some (.slice (some ⟨gb, 0, none⟩) L L) ∧ w.heap[gb]? = some (.cells (bcellsB (bitsL (getS s (j : Int)) L)) 4 (0, 0))
theorem Lvs.below {s : List (BitVec 16)} {n L k : Nat} {cs : Array Value} {w w' : World} (p : Lvs s n L k cs w) (hb : Below w.heap.size w w') : Lvs s n L k cs w' := ⟨p.1, fun j hj => by
  obtain ⟨gb, h1, h2⟩ := p.2 j hj
  exact ⟨gb, h1, (hb.block _ (Array.getElem?_eq_some_iff.1 h2).1).trans h2⟩⟩
theorem Lvs.set {s : List (BitVec 16)} {n L k g gb : Nat} {cs : Array Value} {w : World} (p : Lvs s n L k cs w) (hk : k < n) (hg : w.heap[g]? = some (.cells cs 22 (0, 0))) (h : w.heap[gb]? = some (.cells (bcellsB (bitsL (getS s (k : Int)) L)) 4 (0, 0))) : Lvs s n L (k + 1) (cs.setIfInBounds k (.slice (some ⟨gb, 0, none⟩) L L)) (w.setCell ⟨g, k, none⟩ (.slice (some ⟨gb, 0, none⟩) L L)) := ⟨by simpa using p.1, fun j hj => by
  by_cases e : j = k
  · subst e
    exact ⟨gb, Array.getElem?_setIfInBounds_self_of_lt (by rw [p.1]; exact hk), (Below.heap_setCell _ _ _ _ (show gb ≠ g from other_block h hg (by decide))).trans h⟩
  · obtain ⟨gc, h1, h2⟩ := p.2 j (by omega)
    exact ⟨gc, by rw [Array.getElem?_setIfInBounds_ne (by omega)]; exact h1, (Below.heap_setCell _ _ _ _ (show gc ≠ g from other_block h2 hg (by decide))).trans h2⟩⟩
def LiveQ (w : World) (l : List IN) (h : List HN) (L : Nat) (e : Ending) (w' : World) : Prop := ∃ (gv : Nat) (cs : Array Value) (s : List (BitVec 16)), e = .returned (.slice (some ⟨gv, 0, none⟩) l.length l.length) ∧ LiveIs l h s ∧ w'.heap[gv]? = some (.cells cs 22 (0, 0)) ∧ Lvs s l.length L l.length cs w' ∧ w.heap.size ≤ gv ∧ Below w.heap.size w w'
def locZ (n : Int) : Nat := if n < 0 then 0 else if 16 < n then 16 else n.toNat
theorem locZ_le (n : Int) : locZ n ≤ 16 := by unfold locZ; split <;> (try split) <;> omega
set_option maxRecDepth 8000 in
set_option maxHeartbeats 4000000 in
theorem live_any (vl vh : Value) (l : List IN) (h : List HN) (loc : Int) (w : World) (hv : IView w vl l) (hu : HView w vh h) (hl : l.length ≤ 1000000000000) (hh : h.length ≤ 1000000000000) :
    Calls Try.prog 11 #[vl, vh, .int .i64 loc] w (LiveQ w l h (locZ loc)) := by
  have G1 := hidIt (begin_any vl vh l h w hv hu hl hh)
  have G2 := hidIt (fun (gg gn gc gs : Nat) (s0 : List (BitVec 16)) (W : World) (p : Gr w gg gn gc gs vl vh l h s0 W) (hi : Inc l h s0) => grow_any W p hi (by omega))
  have G3 := hidIt (fun (s : BitVec 16) (W : World) => list_any s (locZ loc) (locZ_le loc) W)
  obtain ⟨i0, hi, hz0, hz1, hz2⟩ := info_parts Try.infoMB
  obtain ⟨ao, cap, rfl, hc, hm, _⟩ := hv
  obtain ⟨ao2, cap2, rfl, -⟩ := hu
  have EL : max 0 (min loc 16) = ((locZ loc : Nat) : Int) := by
    unfold locZ
    split
    · omega
    · split <;> omega
  have HE := hidIt EL
  clear EL
  generalize locZ loc = L at *
  obtain ⟨QQ, HQ0⟩ : ∃ QQ, QQ = LiveQ w l h L := ⟨_, rfl⟩
  have HQ := hidIt HQ0
  rw [← HQ0]
  clear HQ0
  go_enter Try.func11, Try.ntmps11
  go_upto_region 2 with (fail)
  try rw [HE.out]
  go_upto_region 3 with (go_at_call 21; refine G1.out.mono ?_; rintro e w1 ⟨gg, rfl, gn, gc, gs, hp1⟩; have HP1 := hidIt hp1; clear G1 hp1)
  go_upto_region 4 with (go_at_call 22; refine (G2.out _ _ _ _ _ _ HP1.out (Inc.begin l h)).mono ?_; rintro e w2 ⟨rfl, s, hp2, hls⟩; have HP2 := hidIt hp2; have HLS := hidIt hls; clear HP1 G2 hp2 hls)
  go_upto_region 5 with (at_make; refine wpList_make_row _ rfl _ _ 47 rfl 22 i0 (.slice none 0 0) Try.underlying47 hi hz0 hz1 rfl _ _ l.length rfl rfl (by rw [hz2]; omega) (by omega) ?_)
  have HA := hidIt (below_alloc w2 (.cells (madeCells #[.slice none 0 0] l.length) 22))
  have HV := hidIt (heap_alloc_new w2 (.cells (madeCells #[.slice none 0 0] l.length) 22))
  have HP3 := hidIt (HP2.out.below HA.out)
  have hgv : w.heap.size ≤ w2.heap.size := HP2.out.bl.size
  have HB3 := hidIt HP3.out.bl
  have HX3 : Hid (Lvs s l.length L 0 (madeCells #[.slice none 0 0] l.length) (w2.alloc (.cells (madeCells #[.slice none 0 0] l.length) 22))) := ⟨made_size _ _, fun j hj => absurd hj (Nat.not_lt_zero _)⟩
  clear HP2 HA
  generalize w2.alloc (.cells (madeCells #[.slice none 0 0] l.length) 22) = w3 at *
  generalize w2.heap.size = gv at *
  have r4 := cell_row HP3.out.row 4 rfl
  have hln := HP3.out.ln
  have HS3 := hidIt HP3.out.sv
  have HLN := hidIt hln
  clear hln
  go_wp2_with fail
  clear r4 HP3
  go_loopw [9, 10, 27] (fun _ _ i wr => ∃ (k : Nat) (cs : Array Value), k ≤ l.length ∧ i = .int .i64 (k : Int) ∧ wr.heap[gv]? = some (.cells cs 22 (0, 0)) ∧ wr.heap[gs]? = some (.cells (ucells s) 77 (0, 0)) ∧ Lvs s l.length L k cs wr ∧ Below w.heap.size w wr) (fun _ _ i _ => l.length - (intOf i).toNat)
  case atStart => exact ⟨0, _, Nat.zero_le _, rfl, HV.out, HS3.out, HX3.out, HB3.out⟩
  case round =>
    clear HV HS3 HX3 HB3
    obtain ⟨k, cs, hk, rfl, hv, hs, hx, hb⟩ := hrel
    have HV := hidIt hv
    have HS := hidIt hs
    have HX := hidIt hx
    have HB := hidIt hb
    clear hv hs hx hb
    by_cases hlt : k < l.length
    · have hlt' : (k : Int) < (l.length : Int) := by omega
      have c0 : wr.cell? ⟨gs, k, none⟩ = some (.int .u16 (su (getS s (k : Int)))) := by
        refine cell_row HS.out k ?_
        unfold ucells getS
        rw [Int.toNat_natCast, List.getElem?_toArray, List.getElem?_map, List.getElem?_eq_getElem (by rw [HLN.out]; exact hlt)]
        rfl
      go_upto_region 9 with (go_at_call 23; refine (G3.out _ _).mono ?_; rintro e w4 ⟨gb, rfl, hgb, hrow, hb4⟩; have HV4 := hidIt ((hb4.block _ (Array.getElem?_eq_some_iff.1 HV.out).1).trans HV.out); have HS4 := hidIt ((hb4.block _ (Array.getElem?_eq_some_iff.1 HS.out).1).trans HS.out); have HX4 := hidIt (HX.out.below hb4); have HB4 := hidIt (HB.out.trans (hb4.mono HB.out.size)); have HW4 := hidIt hrow; obtain ⟨u0, hu0⟩ : ∃ u0, cs[k]? = some u0 := ⟨_, Array.getElem?_eq_getElem (by rw [HX.out.1]; exact hlt)⟩; have c1 := cell_row HV4.out k hu0; have hf := frozen_row HV4.out k; clear c0 hgb hrow hb4 hu0)
      have HV5 := hidIt (set_row (j := k) (u := .slice (some ⟨gb, 0, none⟩) L L) HV4.out)
      have HS5 := hidIt ((Below.heap_setCell w4 ⟨gv, k, none⟩ (.slice (some ⟨gb, 0, none⟩) L L) gs (show gs ≠ gv from other_block HS4.out HV4.out (by decide))).trans HS4.out)
      have HX5 := hidIt (HX4.out.set hlt HV4.out HW4.out)
      have HB5 := hidIt (HB4.out.setCell (p := ⟨gv, k, none⟩) hgv (.slice (some ⟨gb, 0, none⟩) L L))
      clear HV4 HS4 HX4 HB4 HW4 c1 hf HV HS HX HB
      generalize w4.setCell ⟨gv, k, none⟩ (.slice (some ⟨gb, 0, none⟩) L L) = w5 at *
      go_wp2_with fail
      exact ⟨⟨k + 1, _, by omega, by go_num, HV5.out, HS5.out, HX5.out, HB5.out⟩, by simp [intOf]; omega⟩
    · have hlt' : ¬ (k : Int) < (l.length : Int) := by omega
      obtain rfl : k = l.length := by omega
      have HF : Hid (QQ (.returned (.slice (some ⟨gv, 0, none⟩) l.length l.length)) wr) := by
        show QQ _ _
        rw [HQ.out]
        exact ⟨gv, cs, s, rfl, HLS.out, HV.out, HX.out, hgv, HB.out⟩
      go_wp2_with fail
      first | exact HF.out | (go_ret; exact HF.out)
end Go.Proofs.Ytlnapfeglbdecaa
namespace Go.Proofs.Ytlnapfeglbdecaa
open Go.RowKit

def LLV (w : World) (g : Nat) (R : List (List Bool)) : Prop := ∀ (j : Nat) (r : List Bool), R[j]? = some r → ∃ u, w.cell? ⟨g, j, none⟩ = some u ∧ BView w u r
theorem LLV.below {w w' : World} {g : Nat} {R : List (List Bool)} (h : LLV w g R) (hb : Below w.heap.size w w') : LLV w' g R := fun j r hj => by
  obtain ⟨u, h1, h2⟩ := h j r hj
  exact ⟨u, cell_later hb h1, h2.below hb⟩
theorem BView.of_row {w : World} {g n : Nat} {r : List Bool} (h : w.heap[g]? = some (.cells (bcellsB r) 4 (0, 0))) (hn : r.length = n) (hm : n ≤ 9223372036854775807) : BView w (.slice (some ⟨g, 0, none⟩) n n) r := by
  subst hn
  exact ⟨_, _, rfl, Nat.le_refl _, by unfold maxLen; omega, .inr ⟨g, 0, rfl, fun j x hj => by rw [Nat.zero_add]; exact bit_at h hj⟩⟩
set_option maxRecDepth 8000 in
set_option maxHeartbeats 4000000 in
theorem lives_any (g g' : Nat) (R : List (List Bool)) (n : Nat) (hR : R.length = n) (w : World) (hv : LLV w g R) (hu : LLV w g' R) (hn : R.length ≤ 1000000000000) :
    Calls Try.prog 15 #[.slice (some ⟨g, 0, none⟩) n n, .slice (some ⟨g', 0, none⟩) n n] w fun e w' => e = .returned (.bool true) ∧ Below w.heap.size w w' := by
  subst hR
  have HV := hidIt (fun W (b : Below w.heap.size w W) => hv.below b)
  have HU := hidIt (fun W (b : Below w.heap.size w W) => hu.below b)
  have GS := hidIt (fun v u l W hv hu => bsame_any v u l W hv hu)
  clear hv hu
  go_enter Try.func15, Try.ntmps15
  go_wp2_with fail
  go_loopw [5] (fun i wr => ∃ k : Nat, k ≤ R.length ∧ i = .int .i64 (k : Int) ∧ Below w.heap.size w wr) (fun i _ => R.length - (intOf i).toNat)
  case atStart => exact ⟨0, Nat.zero_le _, rfl, Below.refl _ w⟩
  case round =>
    obtain ⟨k, hk, rfl, hb⟩ := hrel
    have HB := hidIt hb
    clear hb
    by_cases hlt : k < R.length
    · have hlt' : (k : Int) < (R.length : Int) := by omega
      obtain ⟨r, hr⟩ : ∃ r, R[k]? = some r := ⟨R[k], List.getElem?_eq_getElem hlt⟩
      obtain ⟨u1, c1, v1⟩ := HV.out _ HB.out k r hr
      obtain ⟨u2, c2, v2⟩ := HU.out _ HB.out k r hr
      have V1 := hidIt v1
      have V2 := hidIt v2
      obtain ⟨a1, p1, rfl, -⟩ := v1
      obtain ⟨a2, p2, rfl, -⟩ := v2
      have S0 : Hid (wr.drew.cell? ⟨g, k, none⟩ = some (.slice a1 r.length p1) ∧ wr.drew.cell? ⟨g', k, none⟩ = some (.slice a2 r.length p2)) := ⟨c1, c2⟩
      have G := hidIt (GS.out _ _ _ wr.drew V1.out V2.out)
      clear hr c1 c2
      go_upto_region 6 with (fail)
      go_region_held3 (fun W => W.cell? ⟨g, k, none⟩ = some (.slice a1 r.length p1) ∧ W.cell? ⟨g', k, none⟩ = some (.slice a2 r.length p2)) (first | exact S0.out | exact S1.out)
        (first | (go_at_call 26; refine G.out.mono ?_; rintro e w2 ⟨rfl, q2, hq2⟩; have S1 : Hid (w2.cell? ⟨g, k, none⟩ = some (.slice a1 r.length p1) ∧ w2.cell? ⟨g', k, none⟩ = some (.slice a2 r.length p2)) := (by rw [hq2]; exact S0.out); have HB2 : Hid (Below w.heap.size w w2) := (by rw [hq2]; exact below_drewN HB.out.drew q2); clear hq2))
      go_wp2_with fail
      exact ⟨⟨k + 1, by omega, by go_num, HB2.out⟩, by simp [intOf]; omega⟩
    · have hlt' : ¬ (k : Int) < (R.length : Int) := by omega
      go_wp2_with fail
      go_ret
      exact ⟨rfl, HB.out⟩
def liveL (s : List (BitVec 16)) (n L : Nat) : List (List Bool) := (List.range n).map (fun (j : Nat) => bitsL (getS s (j : Int)) L)
theorem Lvs.llv {s : List (BitVec 16)} {n L g : Nat} {cs : Array Value} {w : World} (hg : w.heap[g]? = some (.cells cs 22 (0, 0))) (h : Lvs s n L n cs w) (hL : L ≤ 16) : LLV w g (liveL s n L) := fun j r hj => by
  have hlt : j < n := by
    have := (List.getElem?_eq_some_iff.1 hj).1
    simpa [liveL] using this
  obtain ⟨gb, h1, h2⟩ := h.2 j hlt
  have e : r = bitsL (getS s (j : Int)) L := by
    simp [liveL, hlt] at hj
    exact hj.symm
  subst e
  exact ⟨_, cell_row hg j h1, BView.of_row h2 (bitsL_len _ _) (by omega)⟩
theorem live_plain {l : List IN} {s : List (BitVec 16)} (h : LiveIs l [] s) (j : Nat) (x : IN) (hx : l[j]? = some x) (T : List Int) (hT : nextZ l (j : Int) = T) : getS s (j : Int) = rdS x ||| (orL s T 0#16 &&& ~~~ stS x) := by
  rw [← h.fx j x hx]
  unfold ahZ
  rw [hT]
  rfl
def lA : List IN := [⟨0, 21, 0, 0⟩, ⟨2, 172, 0, 0⟩]
def lB : List IN := [⟨0, 54, 0, 0⟩, ⟨2, 21, 0, 0⟩, ⟨4, 172, 0, 0⟩]
theorem live_A {s : List (BitVec 16)} (h : LiveIs lA [] s) : liveL s 2 1 = [[true], [false]] := by
  have h1 := live_plain h 1 ⟨2, 172, 0, 0⟩ rfl [] (by decide +kernel)
  have h0 := live_plain h 0 ⟨0, 21, 0, 0⟩ rfl [1] (by decide +kernel)
  have e1 : getS s 1 = 0#16 := h1.trans (by simp [orL, rdS])
  have e0 : getS s 0 = 1#16 := h0.trans (by simp only [orL]; rw [e1]; decide +kernel)
  show [bitsL (getS s 0) 1, bitsL (getS s 1) 1] = _
  rw [e0, e1]
  decide +kernel
theorem live_B {s : List (BitVec 16)} (h : LiveIs lB [] s) : liveL s 3 1 = [[false], [true], [false]] := by
  have h2 := live_plain h 2 ⟨4, 172, 0, 0⟩ rfl [] (by decide +kernel)
  have h1 := live_plain h 1 ⟨2, 21, 0, 0⟩ rfl [2] (by decide +kernel)
  have h0 := live_plain h 0 ⟨0, 54, 0, 0⟩ rfl [1] (by decide +kernel)
  have e2 : getS s 2 = 0#16 := h2.trans (by simp [orL, rdS])
  have e1 : getS s 1 = 1#16 := h1.trans (by simp only [orL]; rw [e2]; decide +kernel)
  have e0 : getS s 0 = 0#16 := h0.trans (by simp only [orL]; rw [e1]; decide +kernel)
  show [bitsL (getS s 0) 1, bitsL (getS s 1) 1, bitsL (getS s 2) 1] = _
  rw [e0, e1, e2]
  decide +kernel
end Go.Proofs.Ytlnapfeglbdecaa
namespace Go.Proofs.Ytlnapfeglbdecaa
open Go.RowKit

theorem IView.laidM (w : World) (l : List IN) (hm : l.length ≤ maxLen) : IView (w.alloc (.cells (icells l).toArray 52)) (.slice (some ⟨w.heap.size, 0, none⟩) l.length l.length) l :=
  ⟨_, _, rfl, Nat.le_refl _, hm, .inr ⟨_, _, rfl, ILies.of_block (heap_alloc_new w _) rfl (by rw [← icells_len]; simp)⟩⟩
theorem llv_cells {w : World} {g : Nat} {cs : Array Value} {R : List (List Bool)} (hg : w.heap[g]? = some (.cells cs 22 (0, 0))) (h : ∀ (j : Nat) (r : List Bool), R[j]? = some r → ∃ gb, cs[j]? = some (.slice (some ⟨gb, 0, none⟩) 1 1) ∧ r.length = 1 ∧ w.heap[gb]? = some (.cells (bcellsB r) 4 (0, 0))) : LLV w g R := fun j r hj => by
  obtain ⟨gb, h1, h2, h3⟩ := h j r hj
  exact ⟨_, cell_row hg j h1, BView.of_row h3 h2 (by omega)⟩
set_option maxRecDepth 8000 in
set_option maxHeartbeats 4000000 in
theorem knownM_any (w : World) : Calls Try.prog 8 #[] w fun e w' => e = .returned (.bool true) ∧ Below w.heap.size w w' := by
  have V1 := hidIt (IView.laidM w lA (by decide))
  have HA1 := hidIt (below_alloc w (.cells (icells lA).toArray 52))
  have GA := hidIt (live_any _ (.slice none 0 0) lA [] 1 _ V1.out (HView.nil _) (by decide) (by simp))
  have GL := hidIt (fun g g' R n hR W hv hu hn => lives_any g g' R n hR W hv hu hn)
  go_enter Try.func8, Try.ntmps8
  go_upto_region 2 with (go_at_call 11; refine GA.out.mono ?_; rintro e w1 ⟨ga, ca, sa, rfl, hs1, hg1, hl1, hz1, hb1⟩)
  have HB1 := hidIt (HA1.out.trans (hb1.mono HA1.out.size))
  have L1 := hidIt (hl1.llv hg1 (by decide))
  rw [show liveL sa lA.length (locZ 1) = [[true], [false]] from live_A hs1] at L1
  clear hs1 hg1 hl1 hz1 hb1 HA1 V1 GA
  have V2 := hidIt (IView.laidM w1 lB (by decide))
  have HA2 := hidIt (below_alloc w1 (.cells (icells lB).toArray 52))
  have GA := hidIt (live_any _ (.slice none 0 0) lB [] 1 _ V2.out (HView.nil _) (by decide) (by simp))
  have hlA : lA.length = 2 := rfl
  rw [hlA]
  clear hlA
  go_upto_region 3 with (go_at_call 11; refine GA.out.mono ?_; rintro e w2 ⟨gb, cb, sb, rfl, hs2, hg2, hl2, hz2, hb2⟩)
  have HB2 := hidIt (HA2.out.trans (hb2.mono HA2.out.size))
  have L2 := hidIt (hl2.llv hg2 (by decide))
  rw [show liveL sb lB.length (locZ 1) = [[false], [true], [false]] from live_B hs2] at L2
  have L1b := hidIt (L1.out.below HB2.out)
  have HB3 := hidIt (HB1.out.trans (HB2.out.mono HB1.out.size))
  clear hs2 hg2 hl2 hz2 hb2 HA2 V2 GA L1 HB1 HB2
  have hlB : lB.length = 3 := rfl
  rw [hlB]
  clear hlB
  have HC1 := hidIt (((below_alloc w2 (.cells #[.bool true] 4)).alloc (below_alloc w2 (.cells #[.bool true] 4)).size (.cells #[.bool false] 4)).alloc (Nat.le_trans (below_alloc w2 (.cells #[.bool true] 4)).size (below_alloc _ (.cells #[.bool false] 4)).size) (.cells #[.slice (some ⟨w2.heap.size, 0, none⟩) 1 1, .slice (some ⟨w2.heap.size + 1, 0, none⟩) 1 1] 22))
  have R1 : Hid (LLV (((w2.alloc (.cells #[.bool true] 4)).alloc (.cells #[.bool false] 4)).alloc (.cells #[.slice (some ⟨w2.heap.size, 0, none⟩) 1 1, .slice (some ⟨w2.heap.size + 1, 0, none⟩) 1 1] 22)) (w2.heap.size + 1 + 1) [[true], [false]]) := llv_cells (al2 rfl) (fun j r hj => by
    match j, hj with
    | 0, hj => cases hj; exact ⟨_, rfl, rfl, alo (alo (al _ _))⟩
    | 1, hj => cases hj; exact ⟨_, rfl, rfl, alo (al1 rfl)⟩)
  have GL1 := hidIt (GL.out ga (w2.heap.size + 1 + 1) _ 2 rfl _ (L1b.out.below HC1.out) R1.out (by decide))
  have HB4 := hidIt (HB3.out.trans (HC1.out.mono HB3.out.size))
  have L2b := hidIt (L2.out.below HC1.out)
  clear HB3 L2 L1b R1 HC1
  go_wp2_with fail
  refine GL1.out.mono ?_
  rintro e w3 ⟨rfl, hb3⟩
  have HB5 := hidIt (HB4.out.trans (hb3.mono HB4.out.size))
  have L2c := hidIt (L2b.out.below hb3)
  clear HB4 L2b hb3 GL1
  have HC1 := hidIt ((((below_alloc w3 (.cells #[.bool false] 4)).alloc (below_alloc w3 (.cells #[.bool false] 4)).size (.cells #[.bool true] 4)).alloc (Nat.le_trans (below_alloc w3 (.cells #[.bool false] 4)).size (below_alloc _ (.cells #[.bool true] 4)).size) (.cells #[.bool false] 4)).alloc (Nat.le_trans (Nat.le_trans (below_alloc w3 (.cells #[.bool false] 4)).size (below_alloc _ (.cells #[.bool true] 4)).size) (below_alloc _ (.cells #[.bool false] 4)).size) (.cells #[.slice (some ⟨w3.heap.size, 0, none⟩) 1 1, .slice (some ⟨w3.heap.size + 1, 0, none⟩) 1 1, .slice (some ⟨w3.heap.size + 1 + 1, 0, none⟩) 1 1] 22))
  have R1 : Hid (LLV ((((w3.alloc (.cells #[.bool false] 4)).alloc (.cells #[.bool true] 4)).alloc (.cells #[.bool false] 4)).alloc (.cells #[.slice (some ⟨w3.heap.size, 0, none⟩) 1 1, .slice (some ⟨w3.heap.size + 1, 0, none⟩) 1 1, .slice (some ⟨w3.heap.size + 1 + 1, 0, none⟩) 1 1] 22)) (w3.heap.size + 1 + 1 + 1) [[false], [true], [false]]) := llv_cells (al3 rfl) (fun j r hj => by
    match j, hj with
    | 0, hj => cases hj; exact ⟨_, rfl, rfl, alo (alo (alo (al _ _)))⟩
    | 1, hj => cases hj; exact ⟨_, rfl, rfl, alo (alo (al1 rfl))⟩
    | 2, hj => cases hj; exact ⟨_, rfl, rfl, alo (al2 rfl)⟩)
  have GL2 := hidIt (GL.out gb (w3.heap.size + 1 + 1 + 1) _ 3 rfl _ (L2c.out.below HC1.out) R1.out (by decide))
  have HB6 := hidIt (HB5.out.trans (HC1.out.mono HB5.out.size))
  clear HB5 L2c R1 HC1 GL
  go_wp2_with fail
  refine GL2.out.mono ?_
  rintro e w4 ⟨rfl, hb4⟩
  have HB7 := hidIt (HB6.out.trans (hb4.mono HB6.out.size))
  clear HB6 hb4 GL2
  go_wp2_with fail
  go_ret
  exact ⟨rfl, HB7.out⟩
end Go.Proofs.Ytlnapfeglbdecaa
namespace Go.Proofs.Ytlnapfeglbdecaa
open Go.RowKit

theorem rtL_mem (live : List Bool) : ∀ (r : List Bool) (j : Nat) (x : Int), x ∈ rtL live r j → (j : Int) ≤ x ∧ x < (j : Int) + r.length
  | [], j, x, h => by simp [rtL] at h
  | b :: r, j, x, h => by
    rw [rtL] at h
    rcases List.mem_append.1 h with h | h
    · split at h
      · simp at h; subst h; simp only [List.length_cons]; omega
      · simp at h
    · have := rtL_mem live r (j + 1) x h
      simp only [List.length_cons]
      omega
theorem rtS_mem : ∀ (r : List Bool) (j : Int) (x : Int), x ∈ rtS r j → j ≤ x
  | [], j, x, h => by simp [rtS] at h
  | b :: r, j, x, h => by
    rw [rtS] at h
    rcases List.mem_append.1 h with h | h
    · split at h
      · simp at h; omega
      · simp at h
    · have := rtS_mem r (j + 1) x h
      omega
theorem rtL_pair (live : List Bool) : ∀ (r : List Bool) (j : Nat), (rtL live r j).Pairwise (· < ·)
  | [], j => by simp [rtL]
  | b :: r, j => by
    rw [rtL, List.pairwise_append]
    refine ⟨by split <;> simp, rtL_pair live r (j + 1), fun x hx y hy => ?_⟩
    have := rtL_mem live r (j + 1) y hy
    split at hx
    · simp at hx; omega
    · simp at hx
theorem rtS_pair : ∀ (r : List Bool) (j : Int), (rtS r j).Pairwise (· < ·)
  | [], j => by simp [rtS]
  | b :: r, j => by
    rw [rtS, List.pairwise_append]
    refine ⟨by split <;> simp, rtS_pair r (j + 1), fun x hx y hy => ?_⟩
    have := rtS_mem r (j + 1) y hy
    split at hx
    · simp at hx; omega
    · simp at hx
theorem roots_pair (loc live stk : List Bool) : (rootsZ loc live stk).Pairwise (· < ·) := by
  unfold rootsZ
  rw [List.pairwise_append]
  refine ⟨rtL_pair _ _ _, rtS_pair _ _, fun x hx y hy => ?_⟩
  have := rtL_mem _ _ _ x hx
  have := rtS_mem _ _ y hy
  omega
theorem rtL_len (live : List Bool) : ∀ (r : List Bool) (j : Nat), (rtL live r j).length ≤ r.length
  | [], j => by simp [rtL]
  | b :: r, j => by
    have := rtL_len live r (j + 1)
    rw [rtL, List.length_append, List.length_cons]
    split <;> simp <;> omega
theorem rtS_len : ∀ (r : List Bool) (j : Int), (rtS r j).length ≤ r.length
  | [], j => by simp [rtS]
  | b :: r, j => by
    have := rtS_len r (j + 1)
    rw [rtS, List.length_append, List.length_cons]
    split <;> simp <;> omega
theorem roots_len (loc live stk : List Bool) : (rootsZ loc live stk).length ≤ loc.length + stk.length := by
  unfold rootsZ
  rw [List.length_append]
  have := rtL_len live loc 0
  have := rtS_len stk (loc.length : Int)
  omega
set_option maxRecDepth 8000 in
set_option maxHeartbeats 4000000 in
theorem mapsRoots_any (at_ : Int) (vl vs vv : Value) (loc stk live : List Bool) (w : World) (hl : BView w vl loc) (hs : BView w vs stk) (hv : BView w vv live) (hn : loc.length + stk.length ≤ 10000000000) :
    Calls Try.prog 3 #[.agg #[.int .i64 at_, vl, vs, vv]] w fun e w' => e = .returned (.bool true) ∧ Below w.heap.size w w' := by
  have G1 := hidIt (fun W (b : Below w.heap.size w W) => roots_any at_ vl vs vv loc stk live W (hl.below b) (hs.below b) (hv.below b) hn)
  have G2 := hidIt (fun W (b : Below w.heap.size w W) => rroots_any at_ vl vs vv loc stk live W (hl.below b) (hs.below b) (hv.below b) hn)
  have HPR := hidIt (roots_pair loc live stk)
  have hrl := roots_len loc live stk
  generalize rootsZ loc live stk = Z at *
  obtain ⟨a1, p1, rfl, -⟩ := hl
  obtain ⟨a2, p2, rfl, -⟩ := hs
  obtain ⟨a3, p3, rfl, -⟩ := hv
  have HA := hidIt (below_alloc w (.cells #[.int .i64 at_, .slice a1 loc.length p1, .slice a2 stk.length p2, .slice a3 live.length p3] 24))
  have HX := hidIt (heap_alloc_new w (.cells #[.int .i64 at_, .slice a1 loc.length p1, .slice a2 stk.length p2, .slice a3 live.length p3] 24))
  go_enter Try.func3, Try.ntmps3
  go_upto_region 1 with (fail)
  generalize w.alloc (.cells #[.int .i64 at_, .slice a1 loc.length p1, .slice a2 stk.length p2, .slice a3 live.length p3] 24) = w1 at *
  have x0 := cell_row HX.out 0 rfl
  have x1 := cell_row HX.out 1 rfl
  have x2 := cell_row HX.out 2 rfl
  have x3 := cell_row HX.out 3 rfl
  go_upto_region 2 with (go_at_call 5; refine (G1.out _ HA.out).mono ?_; rintro e w2 ⟨v2, rfl, ho2, hb2⟩; obtain ⟨ao2, cap2, hv2⟩ := own_slice ho2; subst hv2; have HV2 := hidIt ho2.view; have HX2 := hidIt ((hb2.block _ (Array.getElem?_eq_some_iff.1 HX.out).1).trans HX.out); have HB2 := hidIt (HA.out.trans (hb2.mono HA.out.size)); clear ho2 hb2 HX HA)
  clear x0 x1 x2 x3 G1
  go_wp2_with fail
  go_loopw [4] (fun i wr => ∃ k : Nat, 1 ≤ k ∧ (k ≤ Z.length ∨ k = 1) ∧ i = .int .i64 (k : Int) ∧ NView wr (.slice ao2 Z.length cap2) Z ∧ wr.heap[w.heap.size]? = some (.cells #[.int .i64 at_, .slice a1 loc.length p1, .slice a2 stk.length p2, .slice a3 live.length p3] 24 (0, 0)) ∧ Below w.heap.size w wr) (fun i _ => Z.length - (intOf i).toNat)
  case atStart => exact ⟨1, Nat.le_refl _, .inr rfl, rfl, HV2.out, HX2.out, HB2.out⟩
  case round =>
    clear HV2 HX2 HB2
    obtain ⟨k, hk1, hk, rfl, v3, x3, b3⟩ := hrel
    have V3 := hidIt v3
    have X3 := hidIt x3
    have B3 := hidIt b3
    clear v3 x3 b3
    by_cases hlt : k < Z.length
    · have hlt' : (k : Int) < (Z.length : Int) := by omega
      obtain ⟨k0, rfl⟩ : ∃ k0, k = k0 + 1 := ⟨k - 1, by omega⟩
      have h01 : Z[k0]'(by omega) < Z[k0 + 1] := (List.pairwise_iff_getElem.1 HPR.out) k0 (k0 + 1) (by omega) hlt (by omega)
      obtain ⟨g, off, rfl, c1⟩ := V3.out.row (j := k0 + 1) (x := Z[k0 + 1]) (List.getElem?_eq_getElem hlt)
      obtain ⟨g', off', eg, c0⟩ := V3.out.row (j := k0) (x := Z[k0]'(by omega)) (List.getElem?_eq_getElem (by omega))
      cases eg
      generalize Z[k0 + 1] = z1 at *
      generalize Z[k0]'(by omega) = z0 at *
      have e1 : (((k0 + 1 : Nat) : Int)) = (k0 : Int) + 1 := by omega
      rw [e1] at *
      go_wp2_with fail
      go_quiet (fail)
      go_wp2_with fail
      exact ⟨⟨k0 + 1 + 1, by omega, .inl (by omega), by go_num, V3.out, X3.out, below_drewN B3.out nq⟩, by simp [intOf]; omega⟩
    · have hlt' : ¬ (k : Int) < (Z.length : Int) := by omega
      have x0 := cell_row X3.out 0 rfl
      have x1 := cell_row X3.out 1 rfl
      have x2 := cell_row X3.out 2 rfl
      have x3 := cell_row X3.out 3 rfl
      have GS := hidIt (fun v u W hv hu => nsame_any v u Z W hv hu)
      go_wp2_with (first
        | (go_at_call 7; refine (G2.out _ B3.out).mono ?_; rintro e w4 ⟨v4, rfl, ho4, hb4⟩; obtain ⟨ao4, cap4, hv4⟩ := own_slice ho4; subst hv4; have HV4 := hidIt ho4.view; have V4 := hidIt (V3.out.below hb4); have HB4 := hidIt (B3.out.trans (hb4.mono B3.out.size)); clear ho4 hb4 x0 x1 x2 x3 X3)
        | (go_at_call 6; refine (GS.out _ _ _ V4.out HV4.out).mono ?_; rintro e w5 ⟨rfl, q5, hq5⟩; have HB5 : Hid (Below w.heap.size w w5) := (by rw [hq5]; exact below_drewN HB4.out q5); clear hq5)
        | (go_at_call 8; refine (knownM_any _).mono ?_; rintro e w6 ⟨rfl, hb6⟩; have HB6 := hidIt (HB5.out.trans (hb6.mono HB5.out.size)); clear hb6))
      go_ret
      exact ⟨rfl, HB6.out⟩
end Go.Proofs.Ytlnapfeglbdecaa
