/- Texts FRr FBk FOp. -/
import Derived.Test.YtbmfkbgncjldjaaBv33
import Derived.Test.YtbmfkbgncjldjaaBv32
import Derived.Test.YtbmfkbgncjldjaaBv34
import Derived.Test.YtbmfkbgncjldjaaBv04
import Derived.Test.YtbmfkbgncjldjaaRows
import Derived.ProofKit
import Derived.OpenShut
import Derived.SliceStrings
import Derived.Lib.LaidU8
import Derived.ChangeOld
import Derived.Below
namespace Go.Proofs.Ytbmfkbgncjldjaa
open Go.RowKit

theorem bit_at {r : List Bool} {w : World} {g k : Nat} {b : Bool} (h : w.heap[g]? = some (.cells (bcellsB r) 4 (0, 0))) (hk : r[k]? = some b) : w.cell? ⟨g, k, none⟩ = some (.bool b) := cell_row h k (by simp [bcellsB, hk])
theorem bit_set {r : List Bool} {w : World} {g k : Nat} {b : Bool} (h : w.heap[g]? = some (.cells (bcellsB r) 4 (0, 0))) : (w.setCell ⟨g, k, none⟩ (.bool b)).heap[g]? = some (.cells (bcellsB (r.set k b)) 4 (0, 0)) := by
  rw [set_row h]
  congr 2
  simp [bcellsB, List.map_set]
set_option maxRecDepth 8000 in
set_option maxHeartbeats 8000000 in
theorem rreach_any (v u : Value) (l : List IN) (h : List HN) (w : World) (hv : IView w v l) (hu : HView w u h) (h0 : 0 < l.length) (hlen : l.length ≤ 1000000) (hh : h.length ≤ 1000000) :
    Calls Try.prog 26 #[v, u] w fun e w' => ∃ g r, e = .returned (.slice (some ⟨g, 0, none⟩) l.length l.length) ∧ w.heap.size ≤ g ∧ w'.heap[g]? = some (.cells (bcellsB r) 4 (0, 0)) ∧ ReachIs l h r ∧ Below w.heap.size w w' := by
  have HU := hidIt hu
  have GN := hidIt (fun (n : Int) W (hb : Below w.heap.size w W) => rnext_any v l n W (hv.below hb))
  have GF := hidIt (fun (p : Int) W (hb : Below w.heap.size w W) => rfind_any v l p W (hv.below hb))
  have GO := hidIt (fun (k : Nat) (x : IN) W (hb : Below w.heap.size w W) (hx : l[k]? = some x) => rover_any v u l h k x W (hv.below hb) (hu.below hb) hx (by omega))
  obtain ⟨i0, hi, hz0, hz1, hz2⟩ := info_parts Try.infoB
  obtain ⟨ao, cap, rfl, hc, hm, _⟩ := hv
  obtain ⟨ao2, cap2, rfl, hc2, hm2, _⟩ := hu
  unfold maxLen at hm hm2
  have h0' : ((l.length : Int) == 0) = false := by rw [beq_eq_false_iff_ne]; omega
  have HRow0 : Hid ((w.alloc (.cells (madeCells #[.bool false] l.length) 4)).heap[w.heap.size]? = some (.cells (bcellsB (List.replicate l.length false)) 4 (0, 0))) := by show _ = _; rw [← made_bools]; exact heap_alloc_new _ _
  have HB0 := hidIt (below_alloc w (.cells (madeCells #[.bool false] l.length) 4))
  go_enter Try.func26, Try.ntmps26
  go_upto_region 2 with (at_make; refine wpList_make_row _ rfl _ _ 51 rfl 4 i0 (.bool false) Try.underlying51 hi hz0 hz1 rfl _ _ l.length rfl rfl (by rw [hz2]; omega) (by omega) ?_)
  generalize w.alloc (.cells (madeCells #[.bool false] l.length) 4) = W0 at *
  have c0 : W0.cell? ⟨w.heap.size, 0, none⟩ = some (.bool false) := bit_at HRow0.out (by simp [h0])
  have hf := frozen_row HRow0.out
  have HRow : Hid ((W0.setCell ⟨w.heap.size, 0, none⟩ (.bool true)).heap[w.heap.size]? = some (.cells (bcellsB ((List.replicate l.length false).set 0 true)) 4 (0, 0))) := bit_set HRow0.out
  have HB : Hid (Below w.heap.size w (W0.setCell ⟨w.heap.size, 0, none⟩ (.bool true))) := HB0.out.setCell (Nat.le_refl _) _
  have HL := hidIt h0
  go_wp2_with fail
  clear c0 hf HRow0 HB0
  generalize W0.setCell ⟨w.heap.size, 0, none⟩ (.bool true) = W1 at *
  go_loopg [6, 7, 8, 9, 10, 11, 12] (2 * l.length + 1) (fun gg more _ _ _ _ _ _ wr => ∃ (r : List Bool) (b : Bool), more = .bool b ∧ wr.heap[w.heap.size]? = some (.cells (bcellsB r) 4 (0, 0)) ∧ Below w.heap.size w wr ∧ Sd l h r ∧ (b = false → ReachIs l h r) ∧ 2 * cntF r + (if b then 1 else 0) ≤ gg)
  case atStart =>
    have h1 := cntF_rep l.length
    have h2 := cntF_set (r := List.replicate l.length false) (k := 0) (by simp [HL.out])
    exact ⟨_, true, rfl, HRow.out, HB.out, Sd.begin l h HL.out, fun h => absurd h (by decide), by rw [if_pos rfl]; omega⟩
  case round =>
    clear HRow HB
    obtain ⟨r, b, rfl, hrow, hb, hsd, hd, hg⟩ := hrel
    have HRow := hidIt hrow
    have HB := hidIt hb
    have HS := hidIt hsd
    have HD := hidIt hd
    have HG := hidIt hg
    clear hrow hb hsd hd hg
    cases b with
    | false =>
      go_wp2_with fail
      go_ret
      exact ⟨w.heap.size, rfl, Nat.le_refl _, r, HRow.out, HD.out (by simp), HB.out⟩
    | true =>
      go_wp2_with fail
      go_loopw [6, 7, 8, 9, 10, 11, 12] (fun more i _ _ _ _ _ wr => ∃ (k : Nat) (r' : List Bool) (b : Bool), more = .bool b ∧ i = .int .i64 (k : Int) ∧ k ≤ l.length ∧ wr.heap[w.heap.size]? = some (.cells (bcellsB r') 4 (0, 0)) ∧ Below w.heap.size w wr ∧ Pa l h r r' b k) (fun _ i _ _ _ _ _ _ => l.length - (intOf i).toNat)
      case atStart => exact ⟨0, r, false, rfl, rfl, Nat.zero_le _, HRow.out, HB.out, Pa.begin HS.out⟩
      case round =>
        clear HRow HB HS HD
        obtain ⟨k, r', b, rfl, rfl, hk, hrow, hb, hpa⟩ := hrel
        have HRow := hidIt hrow
        have HB := hidIt hb
        have HP := hidIt hpa
        have hz := hb.size
        clear hrow hb hpa
        by_cases hlt : k < l.length
        · have hlt' : (k : Int) < (l.length : Int) := by omega
          obtain ⟨d, hd⟩ : ∃ d, r'[k]? = some d := ⟨_, List.getElem?_eq_getElem (by rw [HP.out.sd.len]; exact hlt)⟩
          have c0 := bit_at HRow.out hd
          have HD := hidIt hd
          clear hd
          cases d with
          | false =>
            go_wp2_with fail
            exact ⟨⟨k + 1, r', b, rfl, by go_num, by omega, HRow.out, HB.out, HP.out.skip (by rw [HD.out]; simp)⟩, by simp [intOf]; omega⟩
          | true =>
            obtain ⟨x, hx⟩ : ∃ x, l[k]? = some x := ⟨l[k], List.getElem?_eq_getElem hlt⟩
            have HX := hidIt hx
            have hgl : w.heap.size < wr.heap.size := (Array.getElem?_eq_some_iff.1 HRow.out).1
            have HRk := hidIt (HP.out.sd.snd k HD.out)
            have GN1 := hidIt (GN.out (k : Int) wr HB.out)
            clear hx
            go_upto_region 13 with (go_at_call 17; refine GN1.out.mono ?_; clear c0 GN1 hz; rintro e w1 ⟨vn, rfl, hn, hb1⟩; have HNx := hidIt hn; have HB1 := hidIt hb1; have HBw := hidIt (HB.out.trans (hb1.mono HB.out.size)); clear hn hb1; have hz := HBw.out.size)
            have GO1 := hidIt (GO.out k x w1 HBw.out HX.out)
            go_upto_region 14 with (go_at_call 57; refine GO1.out.mono ?_; clear GO1 hz; rintro e w2 ⟨vo, rfl, ho, hb2⟩; have HO := hidIt ho; have HB2 := hidIt hb2; have HBv := hidIt (HBw.out.trans (hb2.mono HBw.out.size)); clear ho hb2; have hz := HBv.out.size)
            have HN2 : Hid (NOwn w2 (w.heap.size + 1) vn (nextZ l (k : Int))) := (NOwn.step HNx.out HB2.out).wk (by omega)
            have HO2 : Hid (NOwn w2 (w.heap.size + 1) vo (ovL x.pl h 0)) := HO.out.wk (by have := HB1.out.size; omega)
            have HAp : Hid (∀ k, vo.ownBlock = some k → vn.ownBlock ≠ some k) := fun q h1 h2 => by
              have g1 := (HO.out.lt q h1).1
              have g2 := (HNx.out.lt q h2).2
              omega
            have HRow2 : Hid (w2.heap[w.heap.size]? = some (.cells (bcellsB r') 4 (0, 0))) := by
              show _ = _
              rw [HB2.out.block _ (Nat.lt_of_lt_of_le hgl HB1.out.size), HB1.out.block _ hgl]
              exact HRow.out
            have HTl : Hid (Tl l h k (ovL x.pl h 0) (nextZ l (k : Int)) 0) := Tl.begin _
            have HNl : (nextZ l (k : Int)).length ≤ 2 := nextZ_len l _
            have HOl : (ovL x.pl h 0).length ≤ h.length := ovL_len x.pl h 0
            have HMem := hidIt (fun p => (ovL_mem x.pl h 0 p).1)
            have HTs := hidIt (fun (T : List Int) (j : Nat) (p : Int) (y : HN) (t : Tl l h k (ovL x.pl h 0) T j) => t.step HX.out (p := p) (y := y))
            have HTa := hidIt (fun (T : List Int) (t : Tl l h k (ovL x.pl h 0) T (ovL x.pl h 0).length) => t.all HX.out)
            obtain ⟨aon, capn, rfl⟩ := own_slice HN2.out
            obtain ⟨aoo, capo, rfl⟩ := own_slice HO2.out
            clear HNx HO HB1 HB2 HRow HB HBw
            generalize nextZ l (k : Int) = NX at *
            generalize ovL x.pl h 0 = OV at *
            go_wp2_with fail
            go_loopw [8, 10, 11] (fun t1 j _ wr => ∃ (q : Nat) (T : List Int), j = .int .i64 (q : Int) ∧ q ≤ OV.length ∧ T.length ≤ 2 + q ∧ NOwn wr (w.heap.size + 1) t1 T ∧ NOwn wr (w.heap.size + 1) (.slice aoo OV.length capo) OV ∧ (∀ k, (Value.slice aoo OV.length capo).ownBlock = some k → t1.ownBlock ≠ some k) ∧ wr.heap[w.heap.size]? = some (.cells (bcellsB r') 4 (0, 0)) ∧ Below w.heap.size w wr ∧ Tl l h k OV T q) (fun _ j _ _ => OV.length - (intOf j).toNat)
            case atStart => exact ⟨0, NX, rfl, Nat.zero_le _, by omega, HN2.out, HO2.out, HAp.out, HRow2.out, HBv.out, HTl.out⟩
            case round =>
              clear HN2 HO2 HAp HRow2 HBv HTl HNl hz
              obtain ⟨q, T, rfl, hq, hTl, hT, hO, hA, hrow, hb, htl⟩ := hrel
              have HT := hidIt hT
              have HO := hidIt hO
              have HA := hidIt hA
              have HRow := hidIt hrow
              have HB := hidIt hb
              have HTl := hidIt htl
              have hz := hb.size
              obtain ⟨aot, capt, rfl⟩ := own_slice hT
              clear hT hO hA hrow hb htl
              by_cases hql : q < OV.length
              · have hql' : (q : Int) < (OV.length : Int) := by omega
                obtain ⟨p, hp⟩ : ∃ p, OV[q]? = some p := ⟨OV[q], List.getElem?_eq_getElem hql⟩
                obtain ⟨n, y, hy, -, hpn⟩ := HMem.out p (List.mem_of_getElem? hp)
                rw [Nat.zero_add] at hpn
                subst hpn
                obtain ⟨go, offo, rfl, c1⟩ := HO.out.view.row hp
                obtain ⟨gh, offh, rfl, d0, d1, d2, d3⟩ := (HU.out.below HB.out).row hy
                have hnl : n < h.length := (List.getElem?_eq_some_iff.1 hy).1
                have hnl' : (n : Int) < (h.length : Int) := by omega
                have HT1 := hidIt (HTs.out T q (n : Int) y HTl.out hp (by simpa using hy))
                have GF1 := hidIt (GF.out y.a wr HB.out)
                clear hp hy d0 d1 d3
                generalize findZ l y.a = F at *
                by_cases hF : 0 ≤ F
                · rw [if_pos hF] at HT1
                  go_upto_region 19 with (go_at_call 19; refine GF1.out.mono ?_; rintro e w' ⟨rfl, hww⟩; cases hww)
                  clear c1 d2
                  go_wp2_with (at_builtin; refine wpList_nappend rfl _ _ rfl (w.heap.size + 1) _ _ _ HT.out rfl rfl (by omega) (Nat.succ_le_of_lt (Array.getElem?_eq_some_iff.1 HRow.out).1) ?_; intro ao3 cap3 w3 ho3 st3; have HB3 := hidIt ((HB.out.trans ((below_alloc _ _).mono HB.out.size)).trans (st3.below (Nat.le_trans HB.out.size (below_alloc _ _).size) (fun k hk => by have := (HT.out.lt k hk).1; omega))); have HR3 := hidIt (step_keeps st3 HT.out _ _ _ (by decide) HRow.out); have HA3 := hidIt (HO.out.apart st3 HA.out); have HT3 := hidIt ho3; clear ho3 st3)
                  exact ⟨⟨q + 1, _, by go_num, by omega, by rw [List.length_append]; simp; omega, HT3.out, HA3.out.1, HA3.out.2, HR3.out, HB3.out, HT1.out⟩, by simp [intOf]; omega⟩
                · rw [if_neg hF] at HT1
                  go_wp2_with (go_at_call 19; refine GF1.out.mono ?_; rintro e w' ⟨rfl, hww⟩; cases hww)
                  exact ⟨⟨q + 1, T, by go_num, by omega, by omega, HT.out, HO.out, HA.out, HRow.out, HB.out, HT1.out⟩, by simp [intOf]; omega⟩
              · have hql' : ¬ (q : Int) < (OV.length : Int) := by omega
                obtain rfl : q = OV.length := by omega
                have HAll := hidIt (HTa.out T HTl.out)
                have HOk := hidIt HTl.out.ok
                clear HO HA HTs HTa HMem HTl
                go_wp2_with fail
                go_loopw [6, 12] (fun more j wr => ∃ (q : Nat) (r2 : List Bool) (b2 : Bool), more = .bool b2 ∧ j = .int .i64 (q : Int) ∧ q ≤ T.length ∧ NOwn wr (w.heap.size + 1) (.slice aot T.length capt) T ∧ wr.heap[w.heap.size]? = some (.cells (bcellsB r2) 4 (0, 0)) ∧ Below w.heap.size w wr ∧ Pb l h r r2 b2 k T q) (fun _ j _ => T.length - (intOf j).toNat)
                case atStart => exact ⟨0, r', b, rfl, rfl, Nat.zero_le _, HT.out, HRow.out, HB.out, Pb.begin T HP.out⟩
                case round =>
                  clear HT HRow HB HP hz
                  obtain ⟨q, r2, b2, rfl, rfl, hq, hT, hrow, hb, hpb⟩ := hrel
                  have HT := hidIt hT
                  have HRow := hidIt hrow
                  have HB := hidIt hb
                  have HP := hidIt hpb
                  have hz := hb.size
                  clear hT hrow hb hpb
                  by_cases hqt : q < T.length
                  · have hqt' : (q : Int) < (T.length : Int) := by omega
                    obtain ⟨m0, hm0⟩ : ∃ m0, T[q]? = some m0 := ⟨T[q], List.getElem?_eq_getElem hqt⟩
                    have hok := HOk.out m0 (List.mem_of_getElem? hm0)
                    obtain ⟨m, rfl⟩ := Int.eq_ofNat_of_zero_le hok.1
                    rw [Int.toNat_natCast] at hok
                    have hml := hok.2.lt
                    have hml' : (m : Int) < (l.length : Int) := by omega
                    obtain ⟨d, hd⟩ : ∃ d, r2[m]? = some d := ⟨_, List.getElem?_eq_getElem (by rw [HP.out.pa.sd.len]; exact hml)⟩
                    have HP1 := hidIt (HP.out.step hm0 (HRk.out.step hok.2) hd)
                    obtain ⟨gt, offt, rfl, c1⟩ := HT.out.view.row hm0
                    have c2 := bit_at HRow.out hd
                    have hf := frozen_row HRow.out
                    have HR1 : Hid ((wr.setCell ⟨w.heap.size, m, none⟩ (.bool true)).heap[w.heap.size]? = some (.cells (bcellsB (r2.set m true)) 4 (0, 0))) := bit_set HRow.out
                    have HT1 : Hid (NOwn (wr.setCell ⟨w.heap.size, m, none⟩ (.bool true)) (w.heap.size + 1) (.slice (some ⟨gt, offt, none⟩) T.length capt) T) := own_set HT.out HRow.out (by decide)
                    have HB1 : Hid (Below w.heap.size w (wr.setCell ⟨w.heap.size, m, none⟩ (.bool true))) := HB.out.setCell (Nat.le_refl _) _
                    clear hm0 hd hok HOk HAll
                    cases b2 <;> cases d
                    all_goals
                      go_wp2_with fail
                      exact ⟨⟨q + 1, _, _, rfl, by go_num, by omega, HT1.out, HR1.out, HB1.out, HP1.out⟩, by simp [intOf]; omega⟩
                  · have hqt' : ¬ (q : Int) < (T.length : Int) := by omega
                    obtain rfl : q = T.length := by omega
                    go_wp2_with fail
                    exact ⟨⟨k + 1, r2, b2, rfl, by go_num, by omega, HRow.out, HB.out, HP.out.close HAll.out⟩, by simp [intOf]; omega⟩
        · have hlt' : ¬ (k : Int) < (l.length : Int) := by omega
          obtain rfl : k = l.length := by omega
          go_wp2_with fail
          go_roundg (2 * cntF r' + (if b then 1 else 0))
          case measure =>
            have h1 := HG.out
            rw [if_pos (by simp)] at h1
            cases b with
            | true => have := HP.out.one rfl; rw [if_pos rfl]; omega
            | false => rw [HP.out.two rfl, if_neg (by decide)]; omega
          case rel => exact ⟨r', b, rfl, HRow.out, HB.out, HP.out.sd, fun hb => by subst hb; exact HP.out.done, Nat.le_refl _⟩
end Go.Proofs.Ytbmfkbgncjldjaa
namespace Go.Proofs.Ytbmfkbgncjldjaa
open Go.RowKit

theorem pv_kl {w : World} {ao : Option Addr} {cap : Nat} {bl : List (Nat × Nat)} {nx : Nat × Nat → List Int} (hl : bl.length ≤ 1000000000000) (hk : bl = [] ∨ ∃ g cs, ao = some ⟨g, 0, none⟩ ∧ KL w g bl nx bl.length cs) : PV w (.slice ao bl.length cap) bl nx := by
  refine ⟨ao, cap, rfl, hl, fun j x hj => ?_⟩
  rcases hk with rfl | ⟨g, cs, rfl, h⟩
  · simp at hj
  · obtain ⟨h1, h2, _⟩ := h.fst j x hj
    obtain ⟨u, h3, h4⟩ := h.lst j x hj (List.getElem?_eq_some_iff.1 hj).1
    exact ⟨g, 0, u, rfl, cell_row h.row _ (by rw [Nat.zero_add]; exact h1), cell_row h.row _ (by rw [Nat.zero_add]; exact h2), cell_row h.row _ (by rw [Nat.zero_add]; exact h3), h4.view⟩
theorem PV.congr {w : World} {v : Value} {bl : List (Nat × Nat)} {nx nx' : Nat × Nat → List Int} (h : PV w v bl nx) (hn : ∀ x ∈ bl, nx x = nx' x) : PV w v bl nx' := by
  obtain ⟨ao, cap, e, hl, h⟩ := h
  refine ⟨ao, cap, e, hl, fun j x hj => ?_⟩
  obtain ⟨g, off, u, h1, h2, h3, h4, h5⟩ := h j x hj
  exact ⟨g, off, u, h1, h2, h3, h4, by rw [← hn x (List.mem_of_getElem? hj)]; exact h5⟩
theorem blk_len {d : List Bool} {n p : Nat} {bl : List (Nat × Nat)} (h : Blk d n p bl) : p + bl.length ≤ n := by
  induction h with
  | nil => exact Nat.le_refl _
  | cons h1 _ _ _ _ ih => simp only [List.length_cons]; omega
theorem fblocks_any (v u : Value) (l : List IN) (h : List HN) (w : World) (hv : IView w v l) (hu : HView w u h) (hlen : l.length ≤ 1000000) :
    Calls Try.prog 22 #[v, u] w fun e w' => ∃ vb, e = .returned vb ∧ PV w' vb (bks l.length (rleadZ l h)) (fun x => rnx (rleadZ l h) (nextZ l ((x.2 : Int) - 1))) ∧ Below w.heap.size w w' := by
  refine (blocks_any v u l h w hv hu (by omega)).mono fun e w' ⟨ao, cap, bl, nu, he, hb, hn, hnl, hbe, hk⟩ => ⟨_, he, ?_, hbe⟩
  have e := hb.unique (bks_lead l h)
  have hl := blk_len hb
  have p := (pv_kl (cap := cap) (by omega) hk).congr (nx' := fun x => rnx (rleadZ l h) (nextZ l ((x.2 : Int) - 1))) (fun x hx => (rnx_is l h bl nu hb hn x hx).symm)
  rw [e] at p ⊢
  exact p
theorem checkZ_pos {l : List IN} {h : List HN} {fr : List FN} (hz : (checkZ l h fr).1 = 0) : 0 < l.length := by
  rcases Nat.eq_zero_or_pos l.length with h0 | h0
  · rw [List.length_eq_zero_iff.1 h0] at hz
    have e : (checkZ [] h fr).1 = 17 := rfl
    rw [e] at hz
    exact absurd hz (by decide)
  · exact h0
set_option maxRecDepth 8000 in
set_option maxHeartbeats 8000000 in
theorem blocks2_any (vb vr vh : Value) (b rl : List Int) (hs : List HN) (w : World) (hb : View w vb b) (hr : M.NV w.heap.size w.heap.size w vr rl) (hh : HView w vh hs) :
    Calls Try.prog 5 #[vb, vr, vh] w fun e w' => e = .returned (.bool true) ∧ Below w.heap.size w w' := by
  have GC := hidIt (code_any vb vr b rl w hb hr)
  have HH := hidIt hh.g
  obtain ⟨j0, ji, jz0, jz1, jz2⟩ := info_parts Try.infoHd
  have JI := hidIt (And.intro ji (And.intro jz0 (And.intro jz1 jz2)))
  clear ji jz0 jz1 jz2
  obtain ⟨aob, capb, rfl, -⟩ := hb
  obtain ⟨aor, capr, rfl, -⟩ := hr
  obtain ⟨aoh, caph, rfl, hhc, hhm, -⟩ := hh
  unfold maxLen at hhm
  go_enter Try.func5, Try.ntmps5
  go_upto_region 2 with (go_at_call 12; refine GC.out.mono ?_; rintro e w1 ⟨vl, vm, vg, l, h, fr, rfl, hl, hm, hg, hp, hll, hml, hgl, hb1⟩; have HL := hidIt hl; have HM := hidIt hm; have HP := hidIt hp; have HB := hidIt hb1; obtain ⟨aol, capl, rfl, hlc, hlm, -⟩ := hl; obtain ⟨aom, capm, rfl, hmc, hmm, -⟩ := hm; obtain ⟨aog, capg, rfl, hgc, hgm, -⟩ := hg; unfold maxLen at hlm hmm hgm; clear hp hb1 GC)
  have HH1 := hidIt (HH.out.below HB.out)
  have GB := hidIt (fun vu (hx : List HN) W (hb : Below w1.heap.size w1 W) (hu : HView W vu hx) => rcheck_any _ vu _ l hx [] W (HL.out.below hb) hu (FView.nil W) HP.out)
  have G1 := hidIt (fun vu (hx : List HN) W (hb : Below w1.heap.size w1 W) (hu : HView W vu hx) => fblocks_any _ vu l hx W (HL.out.below hb) hu (by omega))
  have G2 := hidIt (fun vu (hx : List HN) W (hb : Below w1.heap.size w1 W) (hu : HView W vu hx) => rblocks_any _ vu l hx W (HL.out.below hb) hu (by omega))
  have G3 := hidIt (fun vu (hx : List HN) W (hb : Below w1.heap.size w1 W) (hu : HView W vu hx) => reach_any _ vu l hx W (HL.out.below hb) hu (by omega))
  have G4 := hidIt (fun vu (hx : List HN) W (hb : Below w1.heap.size w1 W) (hu : HView W vu hx) (h0 : 0 < l.length) (h1 : hx.length ≤ 1000000) => rreach_any _ vu l hx W (HL.out.below hb) hu h0 (by omega) h1)
  clear HH HL HP
  have h6 : 6 < hs.length ∨ ¬ 6 < hs.length := by omega
  rcases h6 with h6 | h6
  case' inl =>
    have h6' : (6 : Int) < (hs.length : Int) := by omega
    have HHx := hidIt (HH1.out.take (m := 6) (by omega))
    have hx8 : (hs.take 6).length ≤ 6 := by rw [List.length_take]; omega
    go_upto_region 4 with (fail)
    generalize hs.take 6 = hs2 at *
  case' inr =>
    have h6' : ¬ (6 : Int) < (hs.length : Int) := by omega
    have HHx := HH1
    have hx8 : hs.length ≤ 6 := by omega
    go_upto_region 4 with (fail)
  all_goals
    clear HH1
    go_upto_region 5 with (at_builtin; first
      | (refine wpList_gappend (f := hrow) (fun _ => rfl) (by decide) hrow_one Try.underlying31 JI.out.1 JI.out.2.1 JI.out.2.2.1 JI.out.2.2.2 rfl (by decide) rfl _ _ rfl w1.heap.size _ _ _ _ _ rfl HO2.out rfl (HHx.out.below HW.out) (by omega) HW.out.size ?_; intro v3 w3 ho3 st3; have HBn := hidIt (HW.out.trans (st3.below HW.out.size (fun k hk => (HO2.out.lt k hk).1))); clear HW; have HW := HBn; clear HBn; have HO3 := hidIt ho3; clear ho3 st3)
      | (refine wpList_gappend (f := hrow) (fun _ => rfl) (by decide) hrow_one Try.underlying31 JI.out.1 JI.out.2.1 JI.out.2.2.1 JI.out.2.2.2 rfl (by decide) rfl _ _ rfl w1.heap.size _ _ _ _ _ rfl (own_empty w1 w1.heap.size _ 4 (Nat.le_refl _)) rfl (HM.out.g.below (below_alloc _ _)) (by omega) (below_alloc _ _).size ?_; intro v2 w2 ho2 st2; have HW := hidIt ((below_alloc w1 _).trans (st2.below (below_alloc _ _).size (fun k hk => by cases hk; exact Nat.le_refl _))); have HO2 := hidIt ho2; clear ho2 st2))
    obtain ⟨A, hA, hAl⟩ : ∃ A, HView w3 v3 A ∧ A.length ≤ 1000000 := ⟨_, GView.h (own_join (fun _ => rfl) HO3.out), by rw [List.length_append]; omega⟩
    have HHv := hidIt hA
    clear hA HO3 HO2 HHx JI hx8
    have GZ := hidIt (GB.out _ _ _ HW.out HHv.out)
    unfold Ans at GZ
    generalize checkZ l A [] = Z at *
    obtain ⟨z1, z2⟩ := Z
    dsimp only at GZ
    go_upto_region 6 with (go_at_call 14; refine GZ.out.mono ?_; rintro e w4 ⟨rfl, hb4⟩; have HX4 := hidIt hb4; clear hb4)
    have HHw := hidIt (HHv.out.below HX4.out)
    have HBn := hidIt (HW.out.trans (HX4.out.mono HW.out.size))
    clear HW HHv HX4 GZ
    have HW := HBn
    clear HBn
    have hz : z1 = 0 ∨ ¬ z1 = 0 := by omega
    rcases hz with hz | hz
    case' inl =>
      subst hz
      go_upto_region 8 with (fail)
      obtain ⟨A2, HHq, hA2⟩ : ∃ A2, Hid (HView w4 v3 A2) ∧ A2.length ≤ 1000000 := ⟨A, HHw, hAl⟩
    case' inr =>
      have hz' : (z1 != 0) = true := by simpa using hz
      go_upto_region 8 with (fail)
      obtain ⟨A2, HHq, hA2⟩ : ∃ A2, Hid (HView w4 (.slice aom h.length capm) A2) ∧ A2.length ≤ 1000000 := ⟨h, HM.out.below HW.out, by omega⟩
    all_goals
      have GZ := hidIt (GB.out _ _ _ HW.out HHq.out)
      have HZ0 := hidIt (fun hz => checkZ_pos (l := l) (h := A2) (fr := []) hz)
      unfold Ans at GZ
      generalize checkZ l A2 [] = Y at *
      obtain ⟨y1, y2⟩ := Y
      dsimp only at GZ HZ0
      go_upto_region 9 with (go_at_call 14; refine GZ.out.mono ?_; rintro e w5 ⟨rfl, hb5⟩; have HX5 := hidIt hb5; clear hb5)
      have HHr := hidIt (HHq.out.below HX5.out)
      have HBn := hidIt (HW.out.trans (HX5.out.mono HW.out.size))
      clear HW HHq HX5 GZ HHw HM GB
      have HW := HBn
      clear HBn
      by_cases hy : y1 = 0
      · subst hy
        have HPs := hidIt (HZ0.out rfl)
        clear HZ0
        go_wp2_with (first | (go_at_call 22; refine (G1.out _ _ _ HW.out HHr.out).mono ?_; rintro e wa ⟨va, rfl, hpa, hba⟩; have HPA := hidIt hpa; have HHn := hidIt (HHr.out.below hba); have HBn := hidIt (HW.out.trans (hba.mono HW.out.size)); clear HW hba hpa HHr; have HW := HBn; have HHr := HHn; clear HBn HHn) | (go_at_call 23; refine (G2.out _ _ _ HW.out HHr.out).mono ?_; rintro e wb ⟨vb, rfl, hpb, hbb⟩; have HPB := hidIt hpb; have HPC := hidIt (HPA.out.below hbb); have HHn := hidIt (HHr.out.below hbb); have HBn := hidIt (HW.out.trans (hbb.mono HW.out.size)); clear HW hbb hpb HHr HPA; have HW := HBn; have HHr := HHn; clear HBn HHn) | (go_at_call 21; refine (same_any _ _ _ _ _ HPC.out HPB.out).mono ?_; rintro e wc ⟨rfl, q, rfl⟩; have HHn := hidIt (HHr.out.below (below_drewN (Below.refl _ _) q)); have HBn := hidIt (below_drewN HW.out q); clear HW HPC HPB HHr; have HW := HBn; have HHr := HHn; clear HBn HHn) | (go_at_call 25; refine (G3.out _ _ _ HW.out HHr.out).mono ?_; rintro e wd ⟨gd, rd, rfl, hgd, hrd, hid, hbd⟩; have HRD := hidIt (And.intro hrd hid); have HHn := hidIt (HHr.out.below hbd); have HBn := hidIt (HW.out.trans (hbd.mono HW.out.size)); clear HW hbd hrd hid HHr hgd; have HW := HBn; have HHr := HHn; clear HBn HHn) | (go_at_call 26; refine (G4.out _ _ _ HW.out HHr.out HPs.out hA2).mono ?_; rintro e we ⟨ge, re, rfl, hge, hre, hie, hbe⟩; have hq := ReachIs.unique HRD.out.2 hie; subst hq; have HV1 := hidIt (BView.row_of ((hbe.block _ (Array.getElem?_eq_some_iff.1 HRD.out.1).1).trans HRD.out.1) hie.1 (by rw [hie.1]; unfold maxLen; omega)); have HV2 := hidIt (BView.row_of hre hie.1 (by rw [hie.1]; unfold maxLen; omega)); have HBn := hidIt (HW.out.trans (hbe.mono HW.out.size)); clear HW hbe hre hie HRD hge; have HW := HBn; clear HBn) | (go_at_call 24; refine (bsame_any _ _ _ _ HV1.out HV2.out).mono ?_; rintro e wf ⟨rfl, q, rfl⟩; have HBn := hidIt (below_drewN HW.out q); clear HW HV1 HV2; have HW := HBn; clear HBn) | (go_at_call 20; refine (known_any _).mono ?_; rintro e wg ⟨rfl, hbg⟩; have HBn := hidIt (HW.out.trans (hbg.mono HW.out.size)); clear HW hbg; have HW := HBn; clear HBn))
        go_ret
        exact ⟨rfl, HB.out.trans (HW.out.mono HB.out.size)⟩
      · have hy' : (y1 != 0) = true := by simpa using hy
        go_wp2_with (first | (go_at_call 20; refine (known_any _).mono ?_; rintro e wg ⟨rfl, hbg⟩; have HBn := hidIt (HW.out.trans (hbg.mono HW.out.size)); clear HW hbg; have HW := HBn; clear HBn))
        go_ret
        exact ⟨rfl, HB.out.trans (HW.out.mono HB.out.size)⟩
end Go.Proofs.Ytbmfkbgncjldjaa
namespace Go.Proofs.Ytbmfkbgncjldjaa.O
open Go.ChangeShapes Go.WideShapes Go.ChangeAt Go.RowKit
open Go.ChangeMaps (open_string shut_string)

theorem addr_add (b o j : Nat) : (⟨b, o, none⟩ : Addr).add j = ⟨b, o + j, none⟩ := by unfold Addr.add; split <;> simp_all
theorem cells3 : Try.prog.cellsOf 3 = 1 := by kernel_rfl
theorem cells5 : Try.prog.cellsOf 5 = 1 := by kernel_rfl
theorem cells9 : Try.prog.cellsOf 9 = 1 := by kernel_rfl
theorem celX71 : Try.prog.cellsOf 76 = 4 := by kernel_rfl
set_option maxRecDepth 20000 in
theorem trod_gview {α : Type} {ST T k : Nat} {f : α → List Value} (hu : Try.prog.underlying ST = some (.slice T)) (hk : Try.prog.cellsOf T = k) (hk0 : 0 < k) {H : Type} {enc : TypeId × Value → H} {W : World} {fuel : Nat} {cs : List Value} {y : DataW H × List MemPlace}
    (one : ∀ (n : Nat) (cs' : List Value) (y' : DataW H × List MemPlace), DataW.trod enc Try.prog W 0 (fun _ => true) true n T cs' = some y' → ∃ x : α, cs' = f x)
    (ht : DataW.trod enc Try.prog W 0 (fun _ => true) true fuel ST cs = some y) : ∃ ao cap l, cs = [.slice ao (List.length l) cap] ∧ GView k f W (.slice ao (List.length l) cap) l := by
  rcases DataW.trod_slice hu ht with ⟨rfl, _⟩ | ⟨a, len, cap, elems, rest, n, _, rfl, _, _, hl, hm, hlen, hev, _, _⟩
  · exact ⟨none, 0, [], rfl, none, 0, rfl, Nat.le_refl _, by unfold maxLen; omega, .inl rfl⟩
  · by_cases h0 : len = 0
    · subst h0
      exact ⟨some a, cap, [], rfl, some a, cap, rfl, Nat.zero_le _, hm, .inl rfl⟩
    · obtain ⟨b, o, sp⟩ := a
      rw [hk] at hev
      have hsp : sp = none := by
        have h1 := hev 0 (by omega)
        rw [List.getElem?_eq_getElem (by omega)] at h1
        obtain ⟨cs, hcs, _⟩ := Option.bind_eq_some_iff.1 h1
        unfold World.cells? at hcs
        rw [if_pos (Nat.zero_le _)] at hcs
        obtain ⟨q, _, hq⟩ := Lib.mapM_at hcs 0 0 (by rw [List.getElem?_range hk0])
        have e : ((⟨b, o, sp⟩ : Addr).add (0 * k)).add 0 = ⟨b, o, sp⟩ := by simp [Addr.add]
        rw [e] at hq
        exact cell_spot hq
      subst hsp
      have hone : ∀ i, i < len → ∃ x : α, ∀ j u, (f x)[j]? = some u → W.cell? ⟨b, o + i * k + j, none⟩ = some u := by
        intro i hi
        have h1 := hev i hi
        rw [List.getElem?_eq_getElem (by omega), addr_add] at h1
        obtain ⟨cs, hcs, h2⟩ := Option.bind_eq_some_iff.1 h1
        obtain ⟨x, hx⟩ := one _ _ _ h2
        refine ⟨x, fun j u hj => ?_⟩
        rw [← hx] at hj
        unfold World.cells? at hcs
        rw [if_pos (Nat.zero_le _)] at hcs
        have hjk : j < k := by
          have h3 := (List.getElem?_eq_some_iff.1 hj).1
          have h4 := Lib.mapM_length hcs
          simpa [h4] using h3
        obtain ⟨q, hq, hf⟩ := Lib.mapM_at hcs j j (by rw [List.getElem?_range hjk])
        rw [hq] at hj
        cases hj
        rwa [addr_add] at hf
      have hch : ∃ g : Nat → α, ∀ i, i < len → ∀ j u, (f (g i))[j]? = some u → W.cell? ⟨b, o + i * k + j, none⟩ = some u :=
        ⟨fun i => if h : i < len then Classical.choose (hone i h) else Classical.choose (hone 0 (by omega)), fun i hi => by
          simp only [dif_pos hi]; exact Classical.choose_spec (hone i hi)⟩
      obtain ⟨g, hg⟩ := hch
      refine ⟨some ⟨b, o, none⟩, cap, (List.range len).map g, by simp, some ⟨b, o, none⟩, cap, rfl, by simpa using hl, hm, .inr ⟨b, o, rfl, fun j x hx => ?_⟩⟩
      simp only [List.getElem?_map, Option.map_eq_some_iff] at hx
      obtain ⟨i, hi, rfl⟩ := hx
      have hil : j < len := by have := (List.getElem?_eq_some_iff.1 hi).1; simpa using this
      rw [List.getElem?_range hil] at hi
      cases hi
      exact hg j hil
set_option maxRecDepth 20000 in
theorem trod_hand {H : Type} {enc : TypeId × Value → H} {W : World} (fuel : Nat) (cs : List Value) (y : DataW H × List MemPlace)
    (ht : DataW.trod enc Try.prog W 0 (fun _ => true) true fuel 76 cs = some y) : ∃ x : HN, cs = hrow x := by
  obtain ⟨xs, n, -, -, hl, hxl, hall⟩ := DataW.trod_struct Try.underlying76 ht
  rw [celX71] at hl
  have hxl5 : xs.length = 4 := by simpa using hxl
  match cs, hl with
  | [k0, k1, k2, k3], _ =>
    match xs, hxl5 with
    | [x0, x1, x2, x3], _ =>
      have t0 : DataW.trod enc Try.prog W 0 (fun _ => true) true n 3 [k0] = some x0 := by simpa [cells3] using hall 0 _ rfl
      have t1 : DataW.trod enc Try.prog W 0 (fun _ => true) true n 3 [k1] = some x1 := by simpa [cells3] using hall 1 _ rfl
      have t2 : DataW.trod enc Try.prog W 0 (fun _ => true) true n 3 [k2] = some x2 := by simpa [cells3] using hall 2 _ rfl
      have t3 : DataW.trod enc Try.prog W 0 (fun _ => true) true n 9 [k3] = some x3 := by simpa [cells9] using hall 3 _ rfl
      obtain ⟨n0, e0, -, -⟩ := DataW.trod_int Try.underlying3 t0
      obtain ⟨n1, e1, -, -⟩ := DataW.trod_int Try.underlying3 t1
      obtain ⟨n2, e2, -, -⟩ := DataW.trod_int Try.underlying3 t2
      obtain ⟨s3, e3, -, m3⟩ := DataW.trod_string Try.underlying9 t3
      simp only [List.cons.injEq, and_true] at e0 e1 e2 e3
      subst e0 e1 e2 e3
      exact ⟨⟨n0, n1, n2, s3⟩, rfl⟩
set_option maxRecDepth 20000 in
theorem open_hands {H : Type} {enc : TypeId × Value → H} {W : World} {base : Nat} {v : Value} {d : DataW H} {p : List MemPlace} (hval : Value.okWide Try.prog W .any base 31 v)
    (h : DataW.Trod enc Try.prog W 0 (fun _ => true) true 31 v d p) : ∃ hs, HView W v hs := by
  obtain ⟨a, len, cap, rfl⟩ := okWide_slice Try.underlying31 hval
  obtain ⟨fuel, hf⟩ := h
  obtain ⟨ao, c, l, e, hl⟩ := trod_gview (f := hrow) Try.underlying31 celX71 (by decide) trod_hand hf
  simp [Value.cells] at e
  obtain ⟨rfl, rfl, rfl⟩ := e
  exact ⟨l, hl.h⟩
set_option maxRecDepth 20000 in
theorem trod_bytes {H : Type} {enc : TypeId × Value → H} {W : World} {fuel : Nat} {cs : List Value} {y : DataW H × List MemPlace}
    (ht : DataW.trod enc Try.prog W 0 (fun _ => true) true fuel 29 cs = some y) : ∃ ao cap l, cs = [.slice ao (List.length l) cap] ∧ View W (.slice ao (List.length l) cap) l := by
  rcases open_ints Try.underlying29 Try.underlying5 cells5 ht with ⟨rfl, _⟩ | ⟨x, len, cap, zs, rfl, _, hl, hm, hz, _, hcell, hwz⟩
  · exact ⟨none, 0, [], rfl, none, 0, rfl, Nat.le_refl _, by unfold maxLen; omega, fun x hx => by simp at hx, .inl rfl⟩
  · have hzl : zs.length = cap := by simpa using hz
    have e0 : (zs.take len).length = len := by rw [List.length_take, Nat.min_eq_left (by omega)]
    refine ⟨some x, cap, zs.take len, by rw [e0], some x, cap, rfl, by rw [e0]; omega, hm, ?_, ?_⟩
    · intro y hy
      have := hwz y (List.mem_of_mem_take hy)
      have := bounds_u8 this
      omega
    · by_cases h0 : len = 0
      · left; simp [h0]
      · right
        have h00 := hcell 0 (by omega)
        obtain ⟨b, o, sp⟩ := x
        have hsp : sp = none := by
          have e : (⟨b, o, sp⟩ : Addr).add 0 = ⟨b, o, sp⟩ := by unfold Addr.add; simp
          rw [e] at h00
          exact cell_spot h00
        subst hsp
        refine ⟨b, o, rfl, fun j y hj => ?_⟩
        have hj1 : j < len := by
          have := (List.getElem?_eq_some_iff.1 hj).1
          simp at this; omega
        have hj2 : zs[j]? = some y := by rwa [List.getElem?_take_of_lt hj1] at hj
        have hc := hcell j (by omega)
        have e : (⟨b, o, none⟩ : Addr).add j = ⟨b, o + j, none⟩ := by unfold Addr.add; split <;> simp_all
        rw [e] at hc
        rw [hc]
        simp [List.getD, hj2]
set_option maxRecDepth 20000 in
theorem open_bytes {H : Type} {enc : TypeId × Value → H} {W : World} {base : Nat} {v : Value} {d : DataW H} {p : List MemPlace} (hval : Value.okWide Try.prog W .any base 29 v)
    (h : DataW.Trod enc Try.prog W 0 (fun _ => true) true 29 v d p) : ∃ b, View W v b := by
  obtain ⟨a, len, cap, rfl⟩ := okWide_slice Try.underlying29 hval
  obtain ⟨fuel, hf⟩ := h
  obtain ⟨ao, c, l, e, hl⟩ := trod_bytes hf
  simp [Value.cells] at e
  obtain ⟨rfl, rfl, rfl⟩ := e
  exact ⟨l, hl⟩
set_option maxRecDepth 20000 in
theorem open_nums {H : Type} {enc : TypeId × Value → H} {W : World} {base : Nat} {v : Value} {d : DataW H} {p : List MemPlace} (hval : Value.okWide Try.prog W .any base 30 v)
    (h : DataW.Trod enc Try.prog W 0 (fun _ => true) true 30 v d p) : ∃ rl : List Int, ∃ ao cap, v = .slice ao rl.length cap ∧ rl.length ≤ cap ∧ cap ≤ maxLen ∧ (∀ x ∈ rl, -9223372036854775808 ≤ x ∧ x ≤ 9223372036854775807) ∧ (rl = [] ∨ ∃ g off, ao = some ⟨g, off, none⟩ ∧ g < W.heap.size ∧ g < W.heap.size ∧ ∀ (j : Nat) x, rl[j]? = some x → W.cell? ⟨g, off + j, none⟩ = some (.int .i64 x)) := by
  obtain ⟨a, len, cap, rfl⟩ := okWide_slice Try.underlying30 hval
  obtain ⟨fuel, hf⟩ := h
  rcases open_ints Try.underlying30 Try.underlying3 cells3 hf with ⟨hcs, hx⟩ | ⟨x, l, c, zs, hcs, _, hl, hm, hz, hx, hcell, hwz⟩
  · simp [Value.cells] at hcs
    obtain ⟨rfl, rfl, rfl⟩ := hcs
    exact ⟨[], none, 0, rfl, Nat.le_refl _, by unfold maxLen; omega, by simp, .inl rfl⟩
  · simp [Value.cells] at hcs
    obtain ⟨rfl, rfl, rfl⟩ := hcs
    have hzl : zs.length = cap := by simpa using hz
    refine ⟨zs.take len, some x, cap, ?_, ?_, hm, fun y hy => bounds_i64 (hwz y (List.mem_of_mem_take hy)), ?_⟩
    · rw [List.length_take, Nat.min_eq_left (by omega)]
    · rw [List.length_take]; omega
    · by_cases h0 : len = 0
      · left; simp [h0]
      · right
        have h00 := hcell 0 (by omega)
        obtain ⟨b, o, sp⟩ := x
        have hsp : sp = none := by
          have e : (⟨b, o, sp⟩ : Addr).add 0 = ⟨b, o, sp⟩ := by unfold Addr.add; simp
          rw [e] at h00
          exact cell_spot h00
        subst hsp
        have hb : b < W.heap.size := by
          have e : (⟨b, o, none⟩ : Addr).add 0 = ⟨b, o, none⟩ := by unfold Addr.add; simp
          rw [e] at h00
          exact cell_lt h00
        refine ⟨b, o, rfl, hb, hb, fun j y hj => ?_⟩
        have hj1 : j < len := by
          have := (List.getElem?_eq_some_iff.1 hj).1
          simp at this; omega
        have hj2 : zs[j]? = some y := by rwa [List.getElem?_take_of_lt hj1] at hj
        have hc := hcell j (by omega)
        have e : (⟨b, o, none⟩ : Addr).add j = ⟨b, o + j, none⟩ := by unfold Addr.add; split <;> simp_all
        rw [e] at hc
        rw [hc]
        simp [List.getD, hj2]
end Go.Proofs.Ytbmfkbgncjldjaa.O
