/- Texts LVl LVm FOp. -/
import Derived.Test.YtlnapfeglbdecaaBm07
import Derived.Test.YtlnapfeglbdecaaBm25
import Derived.Deep.CutRange
import Derived.Test.YtlnapfeglbdecaaRows
import Derived.ProofKit
import Derived.OpenShut
import Derived.SliceStrings
import Derived.Lib.LaidU8
import Derived.ChangeOld
import Derived.Below
namespace Go.Proofs.Ytlnapfeglbdecaa
open Go.RowKit

def rdB (x : IN) (v : Nat) : Bool := decide (x.a = (v : Int)) && (decide (x.op = 21) || decide (x.op = 25) || decide (x.op = 132))
def stB (x : IN) (v : Nat) : Bool := decide (x.a = (v : Int)) && (decide (x.op = 54) || decide (x.op = 58))
def nxB (s : List (BitVec 16)) (x : IN) (v : Nat) (m : Int) : Bool := (getS s m).getLsbD v && !stB x v
def ovB2 (l : List IN) (h : List HN) (s : List (BitVec 16)) (v : Nat) (p : Int) : Bool := match h[p.toNat]? with
  | some y => (getS s (findZ l y.a)).getLsbD v
  | none => false
theorem rd_bit (x : IN) (v : Nat) (hv : v < 16) : (rdS x).getLsbD v = rdB x v := by
  unfold rdS rdB
  by_cases h : x.op = 21 ∨ x.op = 25 ∨ x.op = 132
  · rw [if_pos h, only_a x.a v hv]
    have e : (decide (x.op = 21) || decide (x.op = 25) || decide (x.op = 132)) = true := by
      simp only [Bool.or_eq_true, decide_eq_true_eq]
      omega
    rw [e, Bool.and_true]
  · rw [if_neg h]
    have e : (decide (x.op = 21) || decide (x.op = 25) || decide (x.op = 132)) = false := by
      simp only [Bool.or_eq_false_iff, decide_eq_false_iff_not]
      omega
    rw [e, Bool.and_false]
    simp
theorem st_bit (x : IN) (v : Nat) (hv : v < 16) : (stS x).getLsbD v = stB x v := by
  unfold stS stB
  by_cases h : x.op = 54 ∨ x.op = 58
  · rw [if_pos h, only_a x.a v hv]
    have e : (decide (x.op = 54) || decide (x.op = 58)) = true := by
      simp only [Bool.or_eq_true, decide_eq_true_eq]
      omega
    rw [e, Bool.and_true]
  · rw [if_neg h]
    have e : (decide (x.op = 54) || decide (x.op = 58)) = false := by
      simp only [Bool.or_eq_false_iff, decide_eq_false_iff_not]
      omega
    rw [e, Bool.and_false]
    simp
theorem live_eq {l : List IN} {h : List HN} {s : List (BitVec 16)} (hs : LiveIs l h s) (hf : ∀ y ∈ h, 0 ≤ findZ l y.a) (i : Nat) (x : IN) (hx : l[i]? = some x) (v : Nat) (hv : v < 16) :
    ((rdB x v || (nextZ l (i : Int)).any (nxB s x v)) || (ovL x.pl h 0).any (ovB2 l h s v)) = (getS s (i : Int)).getLsbD v := by
  rw [← hs.fx i x hx, ahZ_bit _ _ _ _ _ _ hv, rd_bit x v hv, st_bit x v hv]
  congr 1
  · congr 1
    have en : nxB s x v = fun m => (getS s m).getLsbD v && !stB x v := rfl
    rw [en]
    cases stB x v <;> simp
  · rw [Bool.eq_iff_iff, List.any_eq_true, List.any_eq_true]
    constructor
    · rintro ⟨p, h1, h2⟩
      obtain ⟨q, y, e1, e2, e3⟩ := (ovL_mem x.pl h 0 p).1 h1
      have ep : p.toNat = q := by omega
      unfold ovB2 at h2
      rw [ep, e1] at h2
      refine ⟨y, List.mem_of_getElem? e1, ?_⟩
      have hy := hf y (List.mem_of_getElem? e1)
      unfold ovB at e2
      unfold ovT
      rw [decide_eq_true hy, Bool.true_and, e2, Bool.true_and]
      exact h2
    · rintro ⟨y, h1, h2⟩
      rw [Bool.and_eq_true] at h2
      obtain ⟨q, hq⟩ := List.getElem?_of_mem h1
      refine ⟨(q : Int), (ovL_mem x.pl h 0 q).2 ⟨q, y, hq, ?_, by simp⟩, ?_⟩
      · have := h2.1
        unfold ovT at this
        unfold ovB
        simp only [Bool.and_eq_true] at this ⊢
        exact ⟨this.1.2, this.2⟩
      · unfold ovB2
        rw [Int.toNat_natCast, hq]
        exact h2.2
def locN : Nat := (M.kinds M.BK.main.pl).length
theorem locN_le : locN ≤ 16 := by decide +kernel
theorem locZ_N : locZ (locN : Int) = locN := by
  have := locN_le
  unfold locZ
  rw [if_neg (by omega), if_neg (by omega), Int.toNat_natCast]
theorem main_parts3 {w w' : World} {e : Ending} (h : M.ClassesQ w e w') : ∃ (g gm cm : Nat) (vc vh vf : Value) (cl : List IN) (hl : List HN) (s0 s1 : ByteArray) (b0 : Bool) (σ : M.SG), M.BodyIs .main [] σ ∧ cl = M.codeZ σ ∧ hl = M.handsZ σ ∧ e = .returned (.slice (some ⟨g, 0, none⟩) 4 4) ∧ Below w.heap.size w w' ∧ w'.cell? ⟨g, 19, none⟩ = some (.slice (some ⟨gm, 0, none⟩) 2 cm) ∧ 2 ≤ cm ∧ cm ≤ 9223372036854775807 ∧
    (w'.cell? ⟨gm, 0, none⟩ = some (.string s0) ∧ w'.cell? ⟨gm, 1, none⟩ = some (.string s1) ∧ w'.cell? ⟨gm, 2, none⟩ = some (.bool b0) ∧ w'.cell? ⟨gm, 3, none⟩ = some (.bool false) ∧ w'.cell? ⟨gm, 4, none⟩ = some (.int .i64 16) ∧ w'.cell? ⟨gm, 5, none⟩ = some (.int .i64 (locN : Int)) ∧ w'.cell? ⟨gm, 6, none⟩ = some vc ∧ w'.cell? ⟨gm, 7, none⟩ = some vh ∧ w'.cell? ⟨gm, 8, none⟩ = some vf) ∧
    View w' vc (encL cl []).1 ∧ HView w' vh hl ∧ (∃ fl, FView w' vf fl) ∧ hl.length ≤ 54 := by
  obtain ⟨g, cA, cB, cT, cC, σa, ob, σt, σm, σc, his, he, hg, hrow, hb, hA, hB, hT, hC⟩ := h
  obtain ⟨pA, fA, mA, rfl, _⟩ := hA
  obtain ⟨pB, fB, mB, rfl, _⟩ := hB
  obtain ⟨pT, fT, mT, rfl, _⟩ := hT
  obtain ⟨pC, fC, mC, rfl, _, _, rows, hrl, hown, hms⟩ := hC
  obtain ⟨r0, rs, rfl⟩ : ∃ r0 rs, rows = r0 :: rs := by
    cases rows with
    | nil => simp at hrl
    | cons a rs => exact ⟨a, rs, rfl⟩
  have hm0 := hms 0 (.main, σm) r0 rfl rfl
  obtain ⟨vc, vh, vf, fs, rfl, h1, h2, h3, h4⟩ := hm0
  rcases hown.2 with ⟨_, h0⟩ | ⟨gm, cm, cur, hv, _, hgm, k1, k2, _⟩
  · simp at h0
  · have hv' : mC = .slice (some ⟨gm, 0, none⟩) 2 cm := hv
    subst hv'
    have hc : ∀ (i : Nat) (u : Value), (#[Value.string M.BK.main.nm, .string M.BK.main.ds, .bool M.BK.main.st, .bool false, .int .i64 16, .int .i64 ((M.kinds M.BK.main.pl).length : Nat), vc, vh, vf] : Array Value).toList[i]? = some u → w'.cell? ⟨gm, i, none⟩ = some u := fun i u hu => by
      have hi := (List.getElem?_eq_some_iff.1 hu).1
      have := hown.cells (g := gm) rfl i u (by rw [List.flatMap_cons, List.getElem?_append_left hi]; exact hu)
      have e : (⟨gm, 0, none⟩ : Addr).add i = ⟨gm, i, none⟩ := by unfold Addr.add; split <;> simp_all
      rw [e] at this
      exact this
    exact ⟨g, gm, cm, vc, vh, vf, M.codeZ σm, M.handsZ σm, _, _, _, σm, his.m, rfl, rfl, he, hb, cell_row hrow 19 (by simp), by simpa using k1, by unfold maxLen at k2; exact k2, ⟨hc 0 _ rfl, hc 1 _ rfl, hc 2 _ rfl, hc 3 _ rfl, hc 4 _ rfl, hc 5 _ rfl, hc 6 _ rfl, hc 7 _ rfl, hc 8 _ rfl⟩, code_view h1, GView.h (GView.of_own (T := 55) (fun _ => rfl) h2), ⟨_, frames_view h3 h4⟩, M.body_hands his.m (by decide)⟩
end Go.Proofs.Ytlnapfeglbdecaa
namespace Go.Proofs.Ytlnapfeglbdecaa
open Go.RowKit

structure Ls (bx gv N : Nat) (row : Array Value) (vl vh : Value) (l : List IN) (h : List HN) (s : List (BitVec 16)) (W : World) : Prop where
  box : W.heap[bx]? = some (.cells row 38 (0, 0))
  il : IView W vl l
  hl : HView W vh h
  lv : ∀ j : Nat, j < l.length → ∃ gb, W.cell? ⟨gv, j, none⟩ = some (.slice (some ⟨gb, 0, none⟩) N N) ∧ W.heap[gb]? = some (.cells (bcellsB (bitsL (getS s (j : Int)) N)) 4 (0, 0))
theorem Ls.below {bx gv N : Nat} {row : Array Value} {vl vh : Value} {l : List IN} {h : List HN} {s : List (BitVec 16)} {W W' : World} (p : Ls bx gv N row vl vh l h s W) (hb : Below W.heap.size W W') : Ls bx gv N row vl vh l h s W' :=
  ⟨(hb.block _ (Array.getElem?_eq_some_iff.1 p.box).1).trans p.box, p.il.below hb, p.hl.below hb, fun j hj => by
    obtain ⟨gb, h1, h2⟩ := p.lv j hj
    exact ⟨gb, cell_later hb h1, (hb.block _ (Array.getElem?_eq_some_iff.1 h2).1).trans h2⟩⟩
theorem Ls.at {bx gv N : Nat} {row : Array Value} {vl vh : Value} {l : List IN} {h : List HN} {s : List (BitVec 16)} {W : World} (p : Ls bx gv N row vl vh l h s W) {j v : Nat} (hj : j < l.length) (hv : v < N) : ∃ gb, W.cell? ⟨gv, j, none⟩ = some (.slice (some ⟨gb, 0, none⟩) N N) ∧ W.cell? ⟨gb, v, none⟩ = some (.bool ((getS s (j : Int)).getLsbD v)) := by
  obtain ⟨gb, h1, h2⟩ := p.lv j hj
  exact ⟨gb, h1, bit_at h2 (bitsL_get _ hv)⟩
set_option maxRecDepth 8000 in
set_option maxHeartbeats 8000000 in
theorem least_any (vr : Value) (rl : List Int) (w : World) (hr : M.NV w.heap.size w.heap.size w vr rl) :
    Calls Try.prog 4 #[vr] w fun e w' => e = .returned (.bool true) ∧ Below w.heap.size w w' := by
  have GD := hidIt (fun v b W hv => rdecode_any rname5 v b W hv)
  have GC := hidIt ((M.classes_any vr rl w hr).mono fun e w' h => main_parts3 h)
  have GL := hidIt (fun vl vh l h loc W hv hu hl hh => live_any vl vh l h loc W hv hu hl hh)
  obtain ⟨aor, capr, rfl, -⟩ := hr
  go_enter Try.func4, Try.ntmps4
  go_upto_region 2 with (go_at_call 9; refine GC.out.mono ?_; rintro e w2 ⟨g, gm, cm, vc, vh, vf, cl, hl, s0, s1, b0, σ, hσ, rfl, rfl, rfl, hb2, m19, hcm1, hcm2, ⟨m0, m1, m2, m3, m4, m5, m6, m7, m8⟩, kc, kh, ⟨fl, kf⟩, kl1⟩)
  obtain ⟨a6, c6, rfl⟩ : ∃ a c, vc = .slice a (encL (M.codeZ σ) []).1.length c := by obtain ⟨a, c, e, _⟩ := kc; exact ⟨a, c, e⟩
  obtain ⟨a7, c7, rfl⟩ : ∃ a c, vh = .slice a (M.handsZ σ).length c := by obtain ⟨a, c, e, _⟩ := kh; exact ⟨a, c, e⟩
  obtain ⟨a8, c8, rfl⟩ : ∃ a c, vf = .slice a fl.length c := by obtain ⟨a, c, e, _⟩ := kf; exact ⟨a, c, e⟩
  have HB2 := hidIt hb2
  have KC := hidIt kc
  have KH := hidIt kh
  have HST := hidIt (M.hands_stand (M.body_ended hσ))
  have HZ := hidIt (M.made_back (M.body_made hσ (by decide)))
  have hsm := (made_small hσ).2
  clear hb2 kc kh kf hσ GC
  have HA := hidIt (below_alloc w2 (.cells #[.string s0, .string s1, .bool b0, .bool false, .int .i64 16, .int .i64 (locN : Int), .slice a6 (encL (M.codeZ σ) []).1.length c6, .slice a7 (M.handsZ σ).length c7, .slice a8 fl.length c8] 38))
  have HX := hidIt (heap_alloc_new w2 (.cells #[.string s0, .string s1, .bool b0, .bool false, .int .i64 16, .int .i64 (locN : Int), .slice a6 (encL (M.codeZ σ) []).1.length c6, .slice a7 (M.handsZ σ).length c7, .slice a8 fl.length c8] 38))
  go_upto_region 3 with (fail)
  clear m0 m1 m2 m3 m4 m5 m6 m7 m8 m19
  have HB3 := hidIt (HB2.out.trans (HA.out.mono HB2.out.size))
  have KH2 := hidIt (KH.out.below HA.out)
  have GD2 := hidIt (GD.out _ _ _ (KC.out.below HA.out))
  rw [HZ.out] at GD2
  dsimp only at GD2
  clear KH KC HA GD HB2
  generalize w2.alloc (.cells #[.string s0, .string s1, .bool b0, .bool false, .int .i64 16, .int .i64 (locN : Int), .slice a6 (encL (M.codeZ σ) []).1.length c6, .slice a7 (M.handsZ σ).length c7, .slice a8 fl.length c8] 38) = w3 at *
  generalize w2.heap.size = bx at *
  have x6 := cell_row HX.out 6 rfl
  go_upto_region 4 with (go_at_call 10; refine GD2.out.mono ?_; rintro e w4 ⟨hb4, v4, rfl, ho4⟩; obtain ⟨ao4, cap4, rfl⟩ := own_slice ho4; have HB4 := hidIt hb4; have HO4 := hidIt (IView.of_own ho4); clear hb4 ho4 GD2 x6)
  have HX4 := hidIt ((HB4.out.block _ (Array.getElem?_eq_some_iff.1 HX.out).1).trans HX.out)
  have KH4 := hidIt (KH2.out.below HB4.out)
  have HB5 := hidIt (HB3.out.trans (HB4.out.mono HB3.out.size))
  clear HB3 HB4 HX KH2 HZ
  generalize M.codeZ σ = l at *
  generalize M.handsZ σ = h at *
  have x7 := cell_row HX4.out 7 rfl
  have x5 := cell_row HX4.out 5 rfl
  have GL1 := hidIt (GL.out _ _ l h (locN : Int) _ HO4.out KH4.out (by omega) (by omega))
  rw [locZ_N] at GL1
  clear GL
  go_upto_region 5 with (go_at_call 11; refine GL1.out.mono ?_; rintro e w5 ⟨gv, cs, s, rfl, hls, hgv, hlv, hz5, hb5⟩; have HLS := hidIt hls; have P0 : Hid (Ls bx gv locN #[.string s0, .string s1, .bool b0, .bool false, .int .i64 16, .int .i64 (locN : Int), .slice a6 (encL l []).1.length c6, .slice a7 h.length c7, .slice a8 fl.length c8] (.slice ao4 l.length cap4) (.slice a7 h.length c7) l h s w5) := ⟨(hb5.block _ (Array.getElem?_eq_some_iff.1 HX4.out).1).trans HX4.out, HO4.out.below hb5, KH4.out.below hb5, fun j hj => by (obtain ⟨gb, h1, h2⟩ := hlv.2 j hj; exact ⟨gb, cell_row hgv j h1, h2⟩)⟩; have HB6 := hidIt (HB5.out.trans (hb5.mono HB5.out.size)); clear hls hgv hlv hz5 hb5 GL1 x7 x5 HX4 KH4 HO4 HB5)
  have HF : Hid (∀ y ∈ h, 0 ≤ findZ l y.a) := fun y hy => (HST.out y hy).2.2
  clear HST
  generalize hRW : (#[.string s0, .string s1, .bool b0, .bool false, .int .i64 16, .int .i64 (locN : Int), .slice a6 (encL l []).1.length c6, .slice a7 h.length c7, .slice a8 fl.length c8] : Array Value) = RW at *
  have R5 : Hid (∀ W : World, W.heap[bx]? = some (.cells RW 38 (0, 0)) → W.cell? ⟨bx, 5, none⟩ = some (.int .i64 (locN : Int))) := fun W hW => cell_row hW 5 (by rw [← hRW]; rfl)
  have R7 : Hid (∀ W : World, W.heap[bx]? = some (.cells RW 38 (0, 0)) → W.cell? ⟨bx, 7, none⟩ = some (.slice a7 h.length c7)) := fun W hW => cell_row hW 7 (by rw [← hRW]; rfl)
  clear hRW
  have HEQ := hidIt (fun i x hx v hv => live_eq HLS.out HF.out i x hx v hv)
  have hLN := locN_le
  have hl7 : l.length ≤ cap4 ∧ cap4 ≤ 9223372036854775807 := by obtain ⟨a, c, e, h1, h2, -⟩ := P0.out.il; cases e; unfold maxLen at h2; exact ⟨h1, h2⟩
  have PW := hidIt (fun W (b : Below w5.heap.size w5 W) => P0.out.below b)
  have GN := hidIt (fun n W (q : Ls bx gv locN RW (.slice ao4 l.length cap4) (.slice a7 h.length c7) l h s W) => rnext_any _ l n W q.il)
  have GO := hidIt (fun k x hx W (q : Ls bx gv locN RW (.slice ao4 l.length cap4) (.slice a7 h.length c7) l h s W) => rover_any _ _ l h k x W q.il q.hl hx (by omega))
  have GF := hidIt (fun n W (q : Ls bx gv locN RW (.slice ao4 l.length cap4) (.slice a7 h.length c7) l h s W) => rfind_any _ l n W q.il)
  generalize locN = LN at *
  go_wp2_with fail
  go_loopw [9, 10, 11, 12, 13, 14, 15, 16] (fun i _ _ _ _ _ _ _ wr => ∃ k : Nat, k ≤ l.length ∧ i = .int .i64 (k : Int) ∧ Below w5.heap.size w5 wr) (fun i _ _ _ _ _ _ _ _ => l.length - (intOf i).toNat)
  case atStart => exact ⟨0, Nat.zero_le _, rfl, Below.refl _ _⟩
  case round =>
    obtain ⟨i, hi, rfl, hb⟩ := hrel
    have HB := hidIt hb
    clear hb
    by_cases hlt : i < l.length
    · have hlt' : (i : Int) < (l.length : Int) := by omega
      obtain ⟨x, hx⟩ : ∃ x, l[i]? = some x := ⟨l[i], List.getElem?_eq_getElem hlt⟩
      have HXI := hidIt hx
      have GO1 := hidIt (fun W q => GO.out i x hx W q)
      have HE1 := hidIt (fun v hv => HEQ.out i x hx v hv)
      clear hx
      go_upto_region 11 with (go_at_call 12; refine (GN.out _ _ (PW.out _ HB.out)).mono ?_; rintro e w6 ⟨vn, rfl, hn, hb6⟩; obtain ⟨aon, capn, hvn⟩ := own_slice hn; subst hvn; have HBn := hidIt (HB.out.trans (hb6.mono HB.out.size)); have HN := hidIt hn; clear HB hn hb6)
      have y7 := R7.out _ (PW.out _ HBn.out).box
      go_upto_region 12 with (go_at_call 13; refine (GO1.out _ (PW.out _ HBn.out)).mono ?_; rintro e w7 ⟨vo, rfl, ho, hb7⟩; obtain ⟨aoo, capo, hvo⟩ := own_slice ho; subst hvo; have HBo := hidIt (HBn.out.trans (hb7.mono HBn.out.size)); have HN7 := hidIt (HN.out.view.below hb7); have HO7 := hidIt ho.view; clear HN HBn ho hb7 y7)
      have P7 := hidIt (PW.out _ HBo.out)
      have HNR : Hid (∀ m ∈ nextZ l (i : Int), 0 ≤ m ∧ m < l.length) := fun m hm => nextZ_range hm
      have hNl := nextZ_len l (i : Int)
      have hOl := ovL_len x.pl h 0
      have HOR : Hid (∀ p ∈ ovL x.pl h 0, ∃ (q : Nat) (y : HN), p = (q : Int) ∧ h[q]? = some y ∧ q < h.length) := fun p hp => by
        obtain ⟨q, y, e1, e2, e3⟩ := (ovL_mem x.pl h 0 p).1 hp
        exact ⟨q, y, by omega, e1, (List.getElem?_eq_some_iff.1 e1).1⟩
      generalize nextZ l (i : Int) = NX at *
      generalize ovL x.pl h 0 = OV at *
      clear GO1
      go_wp2_with fail
      go_loopw [12, 13, 14, 15, 16] (fun vv _ _ _ _ wr => ∃ v : Nat, v ≤ LN ∧ vv = .int .i64 (v : Int) ∧ Below w7.heap.size w7 wr) (fun vv _ _ _ _ _ => LN - (intOf vv).toNat)
      case atStart => exact ⟨0, Nat.zero_le _, rfl, Below.refl _ _⟩
      case round =>
        obtain ⟨v, hv, rfl, hb⟩ := hrel
        have HB := hidIt hb
        clear hb
        have P8 := hidIt (P7.out.below HB.out)
        have y5 := R5.out _ P8.out.box
        by_cases hvl : v < LN
        · have hvl' : (v : Int) < (LN : Int) := by omega
          obtain ⟨gi, oi, rfl, c0, c1, c2, c3⟩ := P8.out.il.row HXI.out
          have HT := hidIt (HE1.out v (by omega))
          go_upto_region 16 with (fail)
          go_cut [14] from 71 to 89 (fun b wx => wx = wr ∧ b = .bool (rdB x v))
          case first =>
            clear c0 c1 c3 y5
            by_cases ha : x.a = (v : Int)
            · have ha' : (x.a == (v : Int)) = true := by rw [beq_iff_eq]; exact ha
              by_cases h1 : x.op = 21
              · have e : rdB x v = true := by unfold rdB; rw [decide_eq_true ha, decide_eq_true h1]; rfl
                have E := hidIt e
                clear e
                have h1' : (x.op == 21) = true := by rw [beq_iff_eq]; exact h1
                clear ha h1
                go_wp2_with fail
                go_meet
                exact ⟨rfl, by rw [E.out]⟩
              · have h1' : (x.op == 21) = false := by rw [beq_eq_false_iff_ne]; exact h1
                by_cases h2 : x.op = 25
                · have e : rdB x v = true := by unfold rdB; rw [decide_eq_true ha, decide_eq_true h2]; simp
                  have E := hidIt e
                  clear e
                  have h2' : (x.op == 25) = true := by rw [beq_iff_eq]; exact h2
                  clear ha h1 h2
                  go_wp2_with fail
                  go_meet
                  exact ⟨rfl, by rw [E.out]⟩
                · have h2' : (x.op == 25) = false := by rw [beq_eq_false_iff_ne]; exact h2
                  by_cases h3 : x.op = 132
                  · have e : rdB x v = true := by unfold rdB; rw [decide_eq_true ha, decide_eq_true h3]; simp
                    have E := hidIt e
                    clear e
                    have h3' : (x.op == 132) = true := by rw [beq_iff_eq]; exact h3
                    clear ha h1 h2 h3
                    go_wp2_with fail
                    go_meet
                    exact ⟨rfl, by rw [E.out]⟩
                  · have e : rdB x v = false := by unfold rdB; rw [decide_eq_false h1, decide_eq_false h2, decide_eq_false h3]; simp
                    have E := hidIt e
                    clear e
                    have h3' : (x.op == 132) = false := by rw [beq_eq_false_iff_ne]; exact h3
                    clear ha h1 h2 h3
                    go_wp2_with fail
                    go_meet
                    exact ⟨rfl, by rw [E.out]⟩
            · have ha' : (x.a == (v : Int)) = false := by rw [beq_eq_false_iff_ne]; exact ha
              have e : rdB x v = false := by unfold rdB; rw [decide_eq_false ha]; rfl
              have E := hidIt e
              clear e
              clear ha
              go_wp2_with fail
              go_meet
              exact ⟨rfl, by rw [E.out]⟩
          case rest =>
            obtain ⟨hwc, rfl⟩ := hcut
            cases hwc
            clear c0 c1 c3 y5
            have HT1 : Hid ((rdB x v || (NX.drop 0).any (nxB s x v)) = (rdB x v || NX.any (nxB s x v))) := rfl
            generalize rdB x v = r0 at *
            generalize (r0 || NX.any (nxB s x v)) = r1 at *
            obtain ⟨W8, hW8⟩ : ∃ W, W = wr := ⟨wr, rfl⟩
            subst hW8
            have HNv := hidIt (HN7.out.below HB.out)
            have HOv := hidIt (HO7.out.below HB.out)
            go_wp2_with fail
            go_loopw [14, 15] (fun b kk wr => wr = W8 ∧ ∃ (k : Nat) (c : Bool), k ≤ NX.length ∧ kk = .int .i64 (k : Int) ∧ b = .bool c ∧ (c || (NX.drop k).any (nxB s x v)) = r1) (fun _ kk _ => NX.length - (intOf kk).toNat)
            case atStart => exact ⟨rfl, 0, r0, Nat.zero_le _, rfl, rfl, HT1.out⟩
            case round =>
              obtain ⟨hwr, k, c, hk, rfl, rfl, hc⟩ := hrel
              cases hwr
              have HC := hidIt hc
              clear hc HT1
              by_cases hkl : k < NX.length
              · have hkl' : (k : Int) < (NX.length : Int) := by omega
                obtain ⟨m0, hm0⟩ : ∃ m0, NX[k]? = some m0 := ⟨NX[k], List.getElem?_eq_getElem hkl⟩
                rw [drop_at hm0, List.any_cons] at HC
                cases c with
                | true =>
                  clear c2
                  go_wp2_with fail
                  exact ⟨⟨by first | rfl | trivial, k + 1, true, by omega, by go_num, rfl, by have := HC.out; simpa using this⟩, by simp [intOf]; omega⟩
                | false =>
                  obtain ⟨h1, h2⟩ := HNR.out m0 (List.mem_of_getElem? hm0)
                  obtain ⟨m, rfl⟩ := Int.eq_ofNat_of_zero_le h1
                  obtain ⟨gn, on, rfl, d1⟩ := HNv.out.row hm0
                  obtain ⟨gb, d2, d3⟩ := P8.out.at (j := m) (by omega) hvl
                  clear hm0 h1
                  rw [show nxB s x v (m : Int) = ((getS s (m : Int)).getLsbD v && !stB x v) from rfl] at HC
                  generalize (getS s (m : Int)).getLsbD v = bb at *
                  have hml : (m : Int) < (l.length : Int) := h2
                  cases bb with
                  | false =>
                    clear c2
                    go_wp2_with fail
                    exact ⟨⟨by first | rfl | trivial, k + 1, false, by omega, by go_num, rfl, by have := HC.out; simpa using this⟩, by simp [intOf]; omega⟩
                  | true =>
                    unfold stB at HC
                    by_cases ha : x.a = (v : Int)
                    · have ha' : (x.a == (v : Int)) = true := by rw [beq_iff_eq]; exact ha
                      rw [decide_eq_true ha] at HC
                      by_cases h5 : x.op = 54
                      · have h5' : (x.op == 54) = true := by rw [beq_iff_eq]; exact h5
                        rw [decide_eq_true h5] at HC
                        clear ha h5
                        go_wp2_with fail
                        exact ⟨⟨by first | rfl | trivial, k + 1, false, by omega, by go_num, rfl, by have := HC.out; simpa using this⟩, by simp [intOf]; omega⟩
                      · have h5' : (x.op == 54) = false := by rw [beq_eq_false_iff_ne]; exact h5
                        rw [decide_eq_false h5] at HC
                        by_cases h6 : x.op = 58
                        · have h6' : (x.op == 58) = true := by rw [beq_iff_eq]; exact h6
                          rw [decide_eq_true h6] at HC
                          clear ha h5 h6
                          go_wp2_with fail
                          exact ⟨⟨by first | rfl | trivial, k + 1, false, by omega, by go_num, rfl, by have := HC.out; simpa using this⟩, by simp [intOf]; omega⟩
                        · have h6' : (x.op == 58) = false := by rw [beq_eq_false_iff_ne]; exact h6
                          rw [decide_eq_false h6] at HC
                          clear ha h5 h6
                          go_wp2_with fail
                          exact ⟨⟨by first | rfl | trivial, k + 1, true, by omega, by go_num, rfl, by have := HC.out; simpa using this⟩, by simp [intOf]; omega⟩
                    · have ha' : (x.a == (v : Int)) = false := by rw [beq_eq_false_iff_ne]; exact ha
                      rw [decide_eq_false ha] at HC
                      clear ha
                      go_wp2_with fail
                      exact ⟨⟨by first | rfl | trivial, k + 1, true, by omega, by go_num, rfl, by have := HC.out; simpa using this⟩, by simp [intOf]; omega⟩
              · have hkl' : ¬ (k : Int) < (NX.length : Int) := by omega
                obtain rfl : k = NX.length := by omega
                rw [List.drop_length] at HC
                have ec : c = r1 := by have := HC.out; simpa using this
                subst ec
                clear HC c2 HNv
                have HT2 : Hid ((c || (OV.drop 0).any (ovB2 l h s v)) = (getS s (i : Int)).getLsbD v) := HT.out
                obtain ⟨T, hT⟩ : ∃ T, T = (getS s (i : Int)).getLsbD v := ⟨_, rfl⟩
                rw [← hT] at HT2
                have HTT := hidIt hT
                clear hT HT
                go_wp2_with fail
                go_loopw [14, 16] (fun b kk wr => Below W8.heap.size W8 wr ∧ ∃ (k : Nat) (c : Bool), k ≤ OV.length ∧ kk = .int .i64 (k : Int) ∧ b = .bool c ∧ (c || (OV.drop k).any (ovB2 l h s v)) = T) (fun _ kk _ => OV.length - (intOf kk).toNat)
                case atStart => exact ⟨Below.refl _ _, 0, c, Nat.zero_le _, rfl, rfl, HT2.out⟩
                case round =>
                  obtain ⟨hbk, k, c, hk, rfl, rfl, hc⟩ := hrel
                  have HC := hidIt hc
                  have HBk := hidIt hbk
                  clear hc hbk HT2
                  by_cases hkl : k < OV.length
                  · have hkl' : (k : Int) < (OV.length : Int) := by omega
                    obtain ⟨m0, hm0⟩ : ∃ m0, OV[k]? = some m0 := ⟨OV[k], List.getElem?_eq_getElem hkl⟩
                    rw [drop_at hm0, List.any_cons] at HC
                    cases c with
                    | true =>
                      clear hm0
                      go_wp2_with fail
                      go_quiet (fail)
                      go_wp2_with fail
                      exact ⟨⟨below_drewN HBk.out nq, k + 1, true, by omega, by go_num, rfl, by have := HC.out; simpa using this⟩, by simp [intOf]; omega⟩
                    | false =>
                      obtain ⟨q, y, rfl, hy, hql⟩ := HOR.out m0 (List.mem_of_getElem? hm0)
                      have P9 := hidIt (P8.out.below HBk.out)
                      obtain ⟨go, oo, rfl, d1⟩ := (HOv.out.below HBk.out).row hm0
                      have EO : Hid (ovB2 l h s v (q : Int) = (getS s (findZ l y.a)).getLsbD v) := by
                        show _ = _
                        unfold ovB2
                        rw [Int.toNat_natCast, hy]
                      rw [EO.out] at HC
                      have hF0 := HF.out y (List.mem_of_getElem? hy)
                      have hF1 := (findZ_lt l y.a).2
                      have HVr := P9.out.hl
                      obtain ⟨gh, oh, rfl, -, -, d2, -⟩ := HVr.row hy
                      have HVd := hidIt d2
                      have y7 := R7.out _ P9.out.box
                      have S0 : Hid (wr.drew.cell? ⟨bx, 7, none⟩ = some (.slice (some ⟨gh, oh, none⟩) h.length c7) ∧ wr.drew.cell? ⟨go, oo + k, none⟩ = some (.int .i64 (q : Int)) ∧ wr.drew.cell? ⟨gh, oh + q * 4 + 2, none⟩ = some (.int .i64 y.a)) := ⟨y7, d1, HVd.out⟩
                      have B0 : Hid (Below wr.heap.size wr wr.drew) := ⟨rfl, rfl, rfl, Nat.le_refl _, fun _ _ => rfl⟩
                      have GF1 := hidIt (GF.out y.a _ (P9.out.below B0.out))
                      generalize findZ l y.a = F at *
                      obtain ⟨fn, rfl⟩ := Int.eq_ofNat_of_zero_le hF0
                      clear hm0 hy d1 d2 y7 HVd HVr hF0
                      have hql' : (q : Int) < (h.length : Int) := by omega
                      go_upto_region 24 with (fail)
                      have HB9 := hidIt (HBk.out.trans (B0.out.mono HBk.out.size))
                      obtain ⟨gb, d2, d3⟩ := (P8.out.below HB9.out).at (j := fn) (by omega) hvl
                      have S9 := hidIt (And.intro S0.out (And.intro d2 d3))
                      clear S0 d2 d3
                      generalize (getS s (fn : Int)).getLsbD v = bq at *
                      go_region_held3 (fun W => (W.cell? ⟨bx, 7, none⟩ = some (.slice (some ⟨gh, oh, none⟩) h.length c7) ∧ W.cell? ⟨go, oo + k, none⟩ = some (.int .i64 (q : Int)) ∧ W.cell? ⟨gh, oh + q * 4 + 2, none⟩ = some (.int .i64 y.a)) ∧ W.cell? ⟨gv, fn, none⟩ = some (.slice (some ⟨gb, 0, none⟩) LN LN) ∧ W.cell? ⟨gb, v, none⟩ = some (.bool bq)) (exact S9.out)
                        (first | (go_at_call 14; refine GF1.out.mono ?_; rintro e w9 ⟨rfl, hw9⟩; cases hw9))
                      go_wp2_with fail
                      exact ⟨⟨HB9.out, k + 1, bq, by omega, by go_num, rfl, by have := HC.out; simpa using this⟩, by simp [intOf]; omega⟩
                  · have hkl' : ¬ (k : Int) < (OV.length : Int) := by omega
                    obtain rfl : k = OV.length := by omega
                    rw [List.drop_length] at HC
                    have ec : c = T := by have := HC.out; simpa using this
                    subst ec
                    clear HC
                    have P9 := hidIt (P8.out.below HBk.out)
                    obtain ⟨gb, d2, d3⟩ := P9.out.at (j := i) hlt hvl
                    rw [← HTT.out] at d3
                    have y5 := R5.out _ P9.out.box
                    have HBz := hidIt (HB.out.trans (HBk.out.mono HB.out.size))
                    go_wp2_with fail
                    go_quiet (fail)
                    go_wp2_with fail
                    exact ⟨⟨v + 1, by omega, by go_num, below_drewN HBz.out nq⟩, by simp [intOf]; omega⟩
        · have hvl' : ¬ (v : Int) < (LN : Int) := by omega
          have HBw := hidIt (HBo.out.trans (HB.out.mono HBo.out.size))
          go_wp2_with fail
          exact ⟨⟨i + 1, by omega, by go_num, HBw.out⟩, by simp [intOf]; omega⟩
    · have hlt' : ¬ (i : Int) < (l.length : Int) := by omega
      go_wp2_with (go_at_call 8; refine (knownM_any _).mono ?_; rintro e wg ⟨rfl, hbg⟩; have HBn := hidIt (HB.out.trans (hbg.mono HB.out.size)); clear HB hbg; have HB := HBn; clear HBn)
      go_ret
      exact ⟨rfl, HB6.out.trans (HB.out.mono HB6.out.size)⟩
end Go.Proofs.Ytlnapfeglbdecaa
namespace Go.Proofs.Ytlnapfeglbdecaa.O
open Go.ChangeShapes Go.WideShapes Go.ChangeAt Go.RowKit
open Go.ChangeMaps (open_string shut_string)

theorem addr_add (b o j : Nat) : (⟨b, o, none⟩ : Addr).add j = ⟨b, o + j, none⟩ := by unfold Addr.add; split <;> simp_all
theorem cells3 : Try.prog.cellsOf 3 = 1 := by kernel_rfl
set_option maxRecDepth 20000 in
theorem open_nums {H : Type} {enc : TypeId × Value → H} {W : World} {base : Nat} {v : Value} {d : DataW H} {p : List MemPlace} (hval : Value.okWide Try.prog W .any base 25 v)
    (h : DataW.Trod enc Try.prog W 0 (fun _ => true) true 25 v d p) : ∃ rl : List Int, ∃ ao cap, v = .slice ao rl.length cap ∧ rl.length ≤ cap ∧ cap ≤ maxLen ∧ (∀ x ∈ rl, -9223372036854775808 ≤ x ∧ x ≤ 9223372036854775807) ∧ (rl = [] ∨ ∃ g off, ao = some ⟨g, off, none⟩ ∧ g < W.heap.size ∧ g < W.heap.size ∧ ∀ (j : Nat) x, rl[j]? = some x → W.cell? ⟨g, off + j, none⟩ = some (.int .i64 x)) := by
  obtain ⟨a, len, cap, rfl⟩ := okWide_slice Try.underlying25 hval
  obtain ⟨fuel, hf⟩ := h
  rcases open_ints Try.underlying25 Try.underlying3 cells3 hf with ⟨hcs, hx⟩ | ⟨x, l, c, zs, hcs, _, hl, hm, hz, hx, hcell, hwz⟩
  · simp [Value.cells] at hcs
    obtain ⟨rfl, rfl, rfl⟩ := hcs
    exact ⟨[], none, 0, rfl, Nat.le_refl _, by unfold maxLen; omega, by simp, .inl rfl⟩
  · simp [Value.cells] at hcs
    obtain ⟨rfl, rfl, rfl⟩ := hcs
    have hzl : zs.length = cap := by simpa using hz
    refine ⟨zs.take len, some x, cap, ?_, ?_, hm, fun y hy => bounds_i64 (hwz y (List.mem_of_mem_take hy)), ?_⟩
    · rw [List.length_take, Nat.min_eq_left (by omega)]
    · rw [List.length_take]; omega
    · by_cases h0 : len = 0
      · left; simp [h0]
      · right
        have h00 := hcell 0 (by omega)
        obtain ⟨b, o, sp⟩ := x
        have hsp : sp = none := by
          have e : (⟨b, o, sp⟩ : Addr).add 0 = ⟨b, o, sp⟩ := by unfold Addr.add; simp
          rw [e] at h00
          exact cell_spot h00
        subst hsp
        have hb : b < W.heap.size := by
          have e : (⟨b, o, none⟩ : Addr).add 0 = ⟨b, o, none⟩ := by unfold Addr.add; simp
          rw [e] at h00
          exact cell_lt h00
        refine ⟨b, o, rfl, hb, hb, fun j y hj => ?_⟩
        have hj1 : j < len := by
          have := (List.getElem?_eq_some_iff.1 hj).1
          simp at this; omega
        have hj2 : zs[j]? = some y := by rwa [List.getElem?_take_of_lt hj1] at hj
        have hc := hcell j (by omega)
        have e : (⟨b, o, none⟩ : Addr).add j = ⟨b, o + j, none⟩ := by unfold Addr.add; split <;> simp_all
        rw [e] at hc
        rw [hc]
        simp [List.getD, hj2]
end Go.Proofs.Ytlnapfeglbdecaa.O
