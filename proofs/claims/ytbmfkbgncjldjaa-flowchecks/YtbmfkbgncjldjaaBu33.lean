/- Texts FCk FOp. -/
import Derived.Test.YtbmfkbgncjldjaaBu25
import Derived.Test.YtbmfkbgncjldjaaBu26
import Derived.Test.YtbmfkbgncjldjaaBu27
import Derived.Test.YtbmfkbgncjldjaaBu32
import Derived.Test.YtbmfkbgncjldjaaBu04
import Derived.Test.YtbmfkbgncjldjaaRows
import Derived.ProofKit
import Derived.OpenShut
import Derived.SliceStrings
import Derived.Lib.LaidU8
import Derived.ChangeOld
import Derived.Below
namespace Go.Proofs.Ytbmfkbgncjldjaa
open Go.RowKit

theorem own_join {α : Type} {k T B : Nat} {f : α → List Value} {w : World} {v : Value} {a c : List α} (hk : ∀ x, (f x).length = k) (h : w.ownsRow B T k v (0 + a.length + c.length) ([] ++ a.flatMap f ++ c.flatMap f)) : GView k f w v (a ++ c) := by
  refine GView.of_own (T := T) (B := B) hk ?_
  rw [List.flatMap_append, List.length_append]
  simpa using h
set_option maxRecDepth 8000 in
set_option maxHeartbeats 8000000 in
theorem checks_any (vb vr vh vf : Value) (b rl : List Int) (hs : List HN) (fs : List FN) (n : Int) (w : World) (hb : View w vb b) (hr : M.NV w.heap.size w.heap.size w vr rl) (hh : HView w vh hs) (hf : FView w vf fs) :
    Calls Try.prog 4 #[vb, vr, vh, vf, .int .i64 n] w fun e w' => e = .returned (.bool true) ∧ Below w.heap.size w w' := by
  have GC := hidIt (code_any vb vr b rl w hb hr)
  have HH := hidIt hh.g
  have HF := hidIt hf.g
  obtain ⟨j0, ji, jz0, jz1, jz2⟩ := info_parts Try.infoHd
  obtain ⟨k0, ki, kz0, kz1, kz2⟩ := info_parts Try.infoFr
  have JI := hidIt (And.intro ji (And.intro jz0 (And.intro jz1 jz2)))
  have KI := hidIt (And.intro ki (And.intro kz0 (And.intro kz1 kz2)))
  clear ji jz0 jz1 jz2 ki kz0 kz1 kz2
  obtain ⟨aob, capb, rfl, -⟩ := hb
  obtain ⟨aor, capr, rfl, -⟩ := hr
  obtain ⟨aoh, caph, rfl, hhc, hhm, -⟩ := hh
  obtain ⟨aof, capf, rfl, hfc, hfm, -⟩ := hf
  unfold maxLen at hhm hfm
  go_enter Try.func4, Try.ntmps4
  go_upto_region 2 with (go_at_call 12; refine GC.out.mono ?_; rintro e w1 ⟨vl, vm, vg, l, h, fr, rfl, hl, hm, hg, hp, hll, hml, hgl, hb1⟩; have HL := hidIt hl; have HM := hidIt hm; have HG := hidIt hg; have HP := hidIt hp; have HB := hidIt hb1; obtain ⟨aol, capl, rfl, hlc, hlm, -⟩ := hl; obtain ⟨aom, capm, rfl, hmc, hmm, -⟩ := hm; obtain ⟨aog, capg, rfl, hgc, hgm, -⟩ := hg; unfold maxLen at hlm hmm hgm; clear hp hb1 GC)
  have HH1 := hidIt (HH.out.below HB.out)
  have HF1 := hidIt (HF.out.below HB.out)
  have GN := hidIt (fun (k : Int) W (hb : Below w1.heap.size w1 W) => next_any _ l k W (HL.out.below hb))
  have GR := hidIt (fun (k : Int) W (hb : Below w1.heap.size w1 W) => rnext_any _ l k W (HL.out.below hb))
  have GF := hidIt (fun (k : Int) W (hb : Below w1.heap.size w1 W) => find_any _ l k W (HL.out.below hb))
  have GS := hidIt (fun (k : Int) W (hb : Below w1.heap.size w1 W) => rfind_any _ l k W (HL.out.below hb))
  have GA := hidIt (fun vu vw (hx : List HN) (fx : List FN) W (hb : Below w1.heap.size w1 W) (hu : HView W vu hx) (hv : FView W vw fx) => check_any _ vu vw l hx fx W (HL.out.below hb) hu hv HP.out)
  have GB := hidIt (fun vu vw (hx : List HN) (fx : List FN) W (hb : Below w1.heap.size w1 W) (hu : HView W vu hx) (hv : FView W vw fx) => rcheck_any _ vu vw l hx fx W (HL.out.below hb) hu hv HP.out)
  clear HH HF HL HP
  have h8 : 8 < hs.length ∨ ¬ 8 < hs.length := by omega
  rcases h8 with h8 | h8
  case' inl =>
    have h8' : (8 : Int) < (hs.length : Int) := by omega
    have HHx := hidIt (HH1.out.take (m := 8) (by omega))
    have hx8 : (hs.take 8).length ≤ 8 := by rw [List.length_take]; omega
    go_upto_region 4 with (fail)
    generalize hs.take 8 = hs2 at *
  case' inr =>
    have h8' : ¬ (8 : Int) < (hs.length : Int) := by omega
    have HHx := HH1
    have hx8 : hs.length ≤ 8 := by omega
    go_upto_region 4 with (fail)
  all_goals
    clear HH1
    have f8 : 8 < fs.length ∨ ¬ 8 < fs.length := by omega
    rcases f8 with f8 | f8
  case' inl.inl | inr.inl =>
    have f8' : (8 : Int) < (fs.length : Int) := by omega
    have HFx := hidIt (HF1.out.take (m := 8) (by omega))
    have gx8 : (fs.take 8).length ≤ 8 := by rw [List.length_take]; omega
    go_upto_region 6 with (fail)
    generalize fs.take 8 = fs2 at *
  case' inl.inr | inr.inr =>
    have f8' : ¬ (8 : Int) < (fs.length : Int) := by omega
    have HFx := HF1
    have gx8 : fs.length ≤ 8 := by omega
    go_upto_region 6 with (fail)
  all_goals
    clear HF1
    go_upto_region 7 with (at_builtin; first
      | (refine wpList_gappend (f := hrow) (fun _ => rfl) (by decide) hrow_one Try.underlying31 JI.out.1 JI.out.2.1 JI.out.2.2.1 JI.out.2.2.2 rfl (by decide) rfl _ _ rfl w1.heap.size _ _ _ _ _ rfl HO2.out rfl (HHx.out.below HW.out) (by omega) HW.out.size ?_; intro v3 w3 ho3 st3; have HBn := hidIt (HW.out.trans (st3.below HW.out.size (fun k hk => (HO2.out.lt k hk).1))); clear HW; have HW := HBn; clear HBn; have HO3 := hidIt ho3; clear ho3 st3)
      | (refine wpList_gappend (f := hrow) (fun _ => rfl) (by decide) hrow_one Try.underlying31 JI.out.1 JI.out.2.1 JI.out.2.2.1 JI.out.2.2.2 rfl (by decide) rfl _ _ rfl w1.heap.size _ _ _ _ _ rfl (own_empty w1 w1.heap.size _ 4 (Nat.le_refl _)) rfl (HM.out.g.below (below_alloc _ _)) (by omega) (below_alloc _ _).size ?_; intro v2 w2 ho2 st2; have HW := hidIt ((below_alloc w1 _).trans (st2.below (below_alloc _ _).size (fun k hk => by cases hk; exact Nat.le_refl _))); have HO2 := hidIt ho2; clear ho2 st2))
    have HHv := hidIt (GView.h (own_join (fun _ => rfl) HO3.out))
    clear HO3 HO2 HHx HM JI
    have HFy := hidIt (HFx.out.below HW.out)
    have HGy := hidIt (HG.out.g.below HW.out)
    clear HFx HG
    go_upto_region 8 with (at_builtin; first
      | (refine wpList_gappend (f := frow) (fun _ => rfl) (by decide) frow1 Try.underlying32 KI.out.1 KI.out.2.1 KI.out.2.2.1 KI.out.2.2.2 rfl (by decide) rfl _ _ rfl w3.heap.size _ _ _ _ _ rfl HO4.out rfl (HFy.out.below HX.out) (by omega) HX.out.size ?_; intro v5 w5 ho5 st5; have HBn := hidIt (HX.out.trans (st5.below HX.out.size (fun k hk => (HO4.out.lt k hk).1))); clear HX; have HX := HBn; clear HBn; have HO5 := hidIt ho5; clear ho5 st5)
      | (refine wpList_gappend (f := frow) (fun _ => rfl) (by decide) frow1 Try.underlying32 KI.out.1 KI.out.2.1 KI.out.2.2.1 KI.out.2.2.2 rfl (by decide) rfl _ _ rfl w3.heap.size _ _ _ _ _ rfl (own_empty w3 w3.heap.size _ 3 (Nat.le_refl _)) rfl (HGy.out.below (below_alloc _ _)) (by omega) (below_alloc _ _).size ?_; intro v4 w4 ho4 st4; have HX := hidIt ((below_alloc w3 _).trans (st4.below (below_alloc _ _).size (fun k hk => by cases hk; exact Nat.le_refl _))); have HO4 := hidIt ho4; clear ho4 st4))
    have HFv := hidIt (GView.f (own_join (fun _ => rfl) HO5.out))
    have HHw := hidIt (HHv.out.below HX.out)
    have HBn := hidIt (HW.out.trans (HX.out.mono HW.out.size))
    clear HW HHv HO5 HO4 HFy HGy KI HX
    have HW := HBn
    clear HBn
    have GA1 := hidIt (GA.out _ _ _ _ _ HW.out HHw.out HFv.out)
    go_upto_region 9 with (go_at_call 13; refine GA1.out.mono ?_; rintro e w6 ⟨he, hb6⟩; cases he; have HX := hidIt hb6; clear hb6)
    have HBn := hidIt (HW.out.trans (HX.out.mono HW.out.size))
    have HHz := hidIt (HHw.out.below HX.out)
    have HFz := hidIt (HFv.out.below HX.out)
    clear HW HHw HFv HX GA1 GA
    have HW := HBn
    clear HBn
    have GB1 := hidIt (GB.out _ _ _ _ _ HW.out HHz.out HFz.out)
    clear HHz HFz GB
    unfold Ans at GB1
    generalize checkZ l _ _ = Z at *
    obtain ⟨z1, z2⟩ := Z
    dsimp only at GB1
    go_wp2_with (go_at_call 14; refine GB1.out.mono ?_; rintro e w7 ⟨rfl, hb7⟩; have HBn := hidIt (HW.out.trans (hb7.mono HW.out.size)); clear HW hb7; have HW := HBn; clear HBn)
    clear GB1
    go_loopw [18] (fun i wr => ∃ k : Nat, k ≤ l.length ∧ i = .int .i64 (k : Int) ∧ Below w1.heap.size w1 wr) (fun i _ => l.length - (intOf i).toNat)
    case atStart => exact ⟨0, Nat.zero_le _, rfl, HW.out⟩
    case round =>
      clear HW
      obtain ⟨k, hk, rfl, hbk⟩ := hrel
      have HW := hidIt hbk
      clear hbk
      by_cases hlt : k < l.length
      · have hlt' : (k : Int) < (l.length : Int) := by omega
        go_wp2_with (first | (go_at_call 16; refine (GN.out _ _ HW.out).mono ?_; rintro e wa ⟨va, rfl, hna, hba⟩; have HNA := hidIt hna; have HBn := hidIt (HW.out.trans (hba.mono HW.out.size)); clear HW hba hna; have HW := HBn; clear HBn) | (go_at_call 17; refine (GR.out _ _ HW.out).mono ?_; rintro e wb ⟨vb, rfl, hnb, hbb⟩; have HNB := hidIt hnb; have HNC := hidIt (NOwn.step HNA.out hbb); have HBn := hidIt (HW.out.trans (hbb.mono HW.out.size)); clear HW hbb hnb HNA; have HW := HBn; clear HBn) | (go_at_call 15; refine (nsame_any _ _ _ _ HNC.out.view HNB.out.view).mono ?_; rintro e wc ⟨rfl, q, rfl⟩; have HBn := hidIt (below_drewN HW.out q); clear HW HNC HNB; have HW := HBn; clear HBn))
        exact ⟨⟨k + 1, by omega, by go_num, HW.out⟩, by simp [intOf]; omega⟩
      · have hlt' : ¬ (k : Int) < (l.length : Int) := by omega
        go_wp2_with (first | (go_at_call 16; refine (GN.out _ _ HW.out).mono ?_; rintro e wa ⟨va, rfl, hna, hba⟩; have HNA := hidIt hna; have HBn := hidIt (HW.out.trans (hba.mono HW.out.size)); clear HW hba hna; have HW := HBn; clear HBn) | (go_at_call 17; refine (GR.out _ _ HW.out).mono ?_; rintro e wb ⟨vb, rfl, hnb, hbb⟩; have HNB := hidIt hnb; have HNC := hidIt (NOwn.step HNA.out hbb); have HBn := hidIt (HW.out.trans (hbb.mono HW.out.size)); clear HW hbb hnb HNA; have HW := HBn; clear HBn) | (go_at_call 15; refine (nsame_any _ _ _ _ HNC.out.view HNB.out.view).mono ?_; rintro e wc ⟨rfl, q, rfl⟩; have HBn := hidIt (below_drewN HW.out q); clear HW HNC HNB; have HW := HBn; clear HBn) | (go_at_call 18; refine (GF.out _ _ HW.out).mono ?_; rintro e wd ⟨rfl, hbd⟩; have HBn := hidIt (HW.out.trans (hbd.mono HW.out.size)); clear HW hbd; have HW := HBn; clear HBn) | (go_at_call 19; refine (GS.out _ _ HW.out).mono ?_; rintro e we ⟨rfl, hww⟩; cases hww) | (go_at_call 20; refine (known_any _).mono ?_; rintro e wf ⟨rfl, hbf⟩; have HBn := hidIt (HW.out.trans (hbf.mono HW.out.size)); clear HW hbf; have HW := HBn; clear HBn))
        go_ret
        exact ⟨rfl, HB.out.trans (HW.out.mono HB.out.size)⟩
end Go.Proofs.Ytbmfkbgncjldjaa
namespace Go.Proofs.Ytbmfkbgncjldjaa.O
open Go.ChangeShapes Go.WideShapes Go.ChangeAt Go.RowKit
open Go.ChangeMaps (open_string shut_string)

theorem addr_add (b o j : Nat) : (⟨b, o, none⟩ : Addr).add j = ⟨b, o + j, none⟩ := by unfold Addr.add; split <;> simp_all
theorem cells3 : Try.prog.cellsOf 3 = 1 := by kernel_rfl
theorem cells5 : Try.prog.cellsOf 5 = 1 := by kernel_rfl
theorem cells9 : Try.prog.cellsOf 9 = 1 := by kernel_rfl
theorem celX72 : Try.prog.cellsOf 55 = 1 := by kernel_rfl
theorem celX71 : Try.prog.cellsOf 76 = 4 := by kernel_rfl
theorem celX74 : Try.prog.cellsOf 84 = 3 := by kernel_rfl
set_option maxRecDepth 20000 in
theorem trod_gview {α : Type} {ST T k : Nat} {f : α → List Value} (hu : Try.prog.underlying ST = some (.slice T)) (hk : Try.prog.cellsOf T = k) (hk0 : 0 < k) {H : Type} {enc : TypeId × Value → H} {W : World} {fuel : Nat} {cs : List Value} {y : DataW H × List MemPlace}
    (one : ∀ (n : Nat) (cs' : List Value) (y' : DataW H × List MemPlace), DataW.trod enc Try.prog W 0 (fun _ => true) true n T cs' = some y' → ∃ x : α, cs' = f x)
    (ht : DataW.trod enc Try.prog W 0 (fun _ => true) true fuel ST cs = some y) : ∃ ao cap l, cs = [.slice ao (List.length l) cap] ∧ GView k f W (.slice ao (List.length l) cap) l := by
  rcases DataW.trod_slice hu ht with ⟨rfl, _⟩ | ⟨a, len, cap, elems, rest, n, _, rfl, _, _, hl, hm, hlen, hev, _, _⟩
  · exact ⟨none, 0, [], rfl, none, 0, rfl, Nat.le_refl _, by unfold maxLen; omega, .inl rfl⟩
  · by_cases h0 : len = 0
    · subst h0
      exact ⟨some a, cap, [], rfl, some a, cap, rfl, Nat.zero_le _, hm, .inl rfl⟩
    · obtain ⟨b, o, sp⟩ := a
      rw [hk] at hev
      have hsp : sp = none := by
        have h1 := hev 0 (by omega)
        rw [List.getElem?_eq_getElem (by omega)] at h1
        obtain ⟨cs, hcs, _⟩ := Option.bind_eq_some_iff.1 h1
        unfold World.cells? at hcs
        rw [if_pos (Nat.zero_le _)] at hcs
        obtain ⟨q, _, hq⟩ := Lib.mapM_at hcs 0 0 (by rw [List.getElem?_range hk0])
        have e : ((⟨b, o, sp⟩ : Addr).add (0 * k)).add 0 = ⟨b, o, sp⟩ := by simp [Addr.add]
        rw [e] at hq
        exact cell_spot hq
      subst hsp
      have hone : ∀ i, i < len → ∃ x : α, ∀ j u, (f x)[j]? = some u → W.cell? ⟨b, o + i * k + j, none⟩ = some u := by
        intro i hi
        have h1 := hev i hi
        rw [List.getElem?_eq_getElem (by omega), addr_add] at h1
        obtain ⟨cs, hcs, h2⟩ := Option.bind_eq_some_iff.1 h1
        obtain ⟨x, hx⟩ := one _ _ _ h2
        refine ⟨x, fun j u hj => ?_⟩
        rw [← hx] at hj
        unfold World.cells? at hcs
        rw [if_pos (Nat.zero_le _)] at hcs
        have hjk : j < k := by
          have h3 := (List.getElem?_eq_some_iff.1 hj).1
          have h4 := Lib.mapM_length hcs
          simpa [h4] using h3
        obtain ⟨q, hq, hf⟩ := Lib.mapM_at hcs j j (by rw [List.getElem?_range hjk])
        rw [hq] at hj
        cases hj
        rwa [addr_add] at hf
      have hch : ∃ g : Nat → α, ∀ i, i < len → ∀ j u, (f (g i))[j]? = some u → W.cell? ⟨b, o + i * k + j, none⟩ = some u :=
        ⟨fun i => if h : i < len then Classical.choose (hone i h) else Classical.choose (hone 0 (by omega)), fun i hi => by
          simp only [dif_pos hi]; exact Classical.choose_spec (hone i hi)⟩
      obtain ⟨g, hg⟩ := hch
      refine ⟨some ⟨b, o, none⟩, cap, (List.range len).map g, by simp, some ⟨b, o, none⟩, cap, rfl, by simpa using hl, hm, .inr ⟨b, o, rfl, fun j x hx => ?_⟩⟩
      simp only [List.getElem?_map, Option.map_eq_some_iff] at hx
      obtain ⟨i, hi, rfl⟩ := hx
      have hil : j < len := by have := (List.getElem?_eq_some_iff.1 hi).1; simpa using this
      rw [List.getElem?_range hil] at hi
      cases hi
      exact hg j hil
set_option maxRecDepth 20000 in
theorem trod_hand {H : Type} {enc : TypeId × Value → H} {W : World} (fuel : Nat) (cs : List Value) (y : DataW H × List MemPlace)
    (ht : DataW.trod enc Try.prog W 0 (fun _ => true) true fuel 76 cs = some y) : ∃ x : HN, cs = hrow x := by
  obtain ⟨xs, n, -, -, hl, hxl, hall⟩ := DataW.trod_struct Try.underlying76 ht
  rw [celX71] at hl
  have hxl5 : xs.length = 4 := by simpa using hxl
  match cs, hl with
  | [k0, k1, k2, k3], _ =>
    match xs, hxl5 with
    | [x0, x1, x2, x3], _ =>
      have t0 : DataW.trod enc Try.prog W 0 (fun _ => true) true n 3 [k0] = some x0 := by simpa [cells3] using hall 0 _ rfl
      have t1 : DataW.trod enc Try.prog W 0 (fun _ => true) true n 3 [k1] = some x1 := by simpa [cells3] using hall 1 _ rfl
      have t2 : DataW.trod enc Try.prog W 0 (fun _ => true) true n 3 [k2] = some x2 := by simpa [cells3] using hall 2 _ rfl
      have t3 : DataW.trod enc Try.prog W 0 (fun _ => true) true n 9 [k3] = some x3 := by simpa [cells9] using hall 3 _ rfl
      obtain ⟨n0, e0, -, -⟩ := DataW.trod_int Try.underlying3 t0
      obtain ⟨n1, e1, -, -⟩ := DataW.trod_int Try.underlying3 t1
      obtain ⟨n2, e2, -, -⟩ := DataW.trod_int Try.underlying3 t2
      obtain ⟨s3, e3, -, m3⟩ := DataW.trod_string Try.underlying9 t3
      simp only [List.cons.injEq, and_true] at e0 e1 e2 e3
      subst e0 e1 e2 e3
      exact ⟨⟨n0, n1, n2, s3⟩, rfl⟩
theorem trod_sl {ST T : Nat} (hu : Try.prog.underlying ST = some (.slice T)) {H : Type} {enc : TypeId × Value → H} {W : World} {fuel : Nat} {cs : List Value} {y : DataW H × List MemPlace} (ht : DataW.trod enc Try.prog W 0 (fun _ => true) true fuel ST cs = some y) : ∃ ao n cap, cs = [.slice ao n cap] := by
  rcases DataW.trod_slice hu ht with ⟨rfl, _⟩ | ⟨a, len, cap, elems, rest, n, _, rfl, _⟩
  · exact ⟨_, _, _, rfl⟩
  · exact ⟨_, _, _, rfl⟩
set_option maxRecDepth 20000 in
theorem trod_frame {H : Type} {enc : TypeId × Value → H} {W : World} (fuel : Nat) (cs : List Value) (y : DataW H × List MemPlace)
    (ht : DataW.trod enc Try.prog W 0 (fun _ => true) true fuel 84 cs = some y) : ∃ x : FN, cs = frow x := by
  obtain ⟨xs, n, -, -, hl, hxl, hall⟩ := DataW.trod_struct Try.underlying84 ht
  rw [celX74] at hl
  have hxl5 : xs.length = 3 := by simpa using hxl
  match cs, hl with
  | [k0, k1, k2], _ =>
    match xs, hxl5 with
    | [x0, x1, x2], _ =>
      have t0 : DataW.trod enc Try.prog W 0 (fun _ => true) true n 3 [k0] = some x0 := by simpa [cells3] using hall 0 _ rfl
      have t1 : DataW.trod enc Try.prog W 0 (fun _ => true) true n 55 [k1] = some x1 := by simpa [celX72] using hall 1 _ rfl
      have t2 : DataW.trod enc Try.prog W 0 (fun _ => true) true n 55 [k2] = some x2 := by simpa [celX72] using hall 2 _ rfl
      obtain ⟨n0, e0, -, -⟩ := DataW.trod_int Try.underlying3 t0
      obtain ⟨ao1, l1, c1, e1⟩ := trod_sl Try.underlying55 t1
      obtain ⟨ao2, l2, c2, e2⟩ := trod_sl Try.underlying55 t2
      simp only [List.cons.injEq, and_true] at e0 e1 e2
      subst e0 e1 e2
      exact ⟨⟨n0, ao1, l1, c1, ao2, l2, c2⟩, rfl⟩
set_option maxRecDepth 20000 in
theorem open_hands {H : Type} {enc : TypeId × Value → H} {W : World} {base : Nat} {v : Value} {d : DataW H} {p : List MemPlace} (hval : Value.okWide Try.prog W .any base 31 v)
    (h : DataW.Trod enc Try.prog W 0 (fun _ => true) true 31 v d p) : ∃ hs, HView W v hs := by
  obtain ⟨a, len, cap, rfl⟩ := okWide_slice Try.underlying31 hval
  obtain ⟨fuel, hf⟩ := h
  obtain ⟨ao, c, l, e, hl⟩ := trod_gview (f := hrow) Try.underlying31 celX71 (by decide) trod_hand hf
  simp [Value.cells] at e
  obtain ⟨rfl, rfl, rfl⟩ := e
  exact ⟨l, hl.h⟩
set_option maxRecDepth 20000 in
theorem open_frames {H : Type} {enc : TypeId × Value → H} {W : World} {base : Nat} {v : Value} {d : DataW H} {p : List MemPlace} (hval : Value.okWide Try.prog W .any base 32 v)
    (h : DataW.Trod enc Try.prog W 0 (fun _ => true) true 32 v d p) : ∃ fs, FView W v fs := by
  obtain ⟨a, len, cap, rfl⟩ := okWide_slice Try.underlying32 hval
  obtain ⟨fuel, hf⟩ := h
  obtain ⟨ao, c, l, e, hl⟩ := trod_gview (f := frow) Try.underlying32 celX74 (by decide) trod_frame hf
  simp [Value.cells] at e
  obtain ⟨rfl, rfl, rfl⟩ := e
  exact ⟨l, hl.f⟩
set_option maxRecDepth 20000 in
theorem trod_bytes {H : Type} {enc : TypeId × Value → H} {W : World} {fuel : Nat} {cs : List Value} {y : DataW H × List MemPlace}
    (ht : DataW.trod enc Try.prog W 0 (fun _ => true) true fuel 29 cs = some y) : ∃ ao cap l, cs = [.slice ao (List.length l) cap] ∧ View W (.slice ao (List.length l) cap) l := by
  rcases open_ints Try.underlying29 Try.underlying5 cells5 ht with ⟨rfl, _⟩ | ⟨x, len, cap, zs, rfl, _, hl, hm, hz, _, hcell, hwz⟩
  · exact ⟨none, 0, [], rfl, none, 0, rfl, Nat.le_refl _, by unfold maxLen; omega, fun x hx => by simp at hx, .inl rfl⟩
  · have hzl : zs.length = cap := by simpa using hz
    have e0 : (zs.take len).length = len := by rw [List.length_take, Nat.min_eq_left (by omega)]
    refine ⟨some x, cap, zs.take len, by rw [e0], some x, cap, rfl, by rw [e0]; omega, hm, ?_, ?_⟩
    · intro y hy
      have := hwz y (List.mem_of_mem_take hy)
      have := bounds_u8 this
      omega
    · by_cases h0 : len = 0
      · left; simp [h0]
      · right
        have h00 := hcell 0 (by omega)
        obtain ⟨b, o, sp⟩ := x
        have hsp : sp = none := by
          have e : (⟨b, o, sp⟩ : Addr).add 0 = ⟨b, o, sp⟩ := by unfold Addr.add; simp
          rw [e] at h00
          exact cell_spot h00
        subst hsp
        refine ⟨b, o, rfl, fun j y hj => ?_⟩
        have hj1 : j < len := by
          have := (List.getElem?_eq_some_iff.1 hj).1
          simp at this; omega
        have hj2 : zs[j]? = some y := by rwa [List.getElem?_take_of_lt hj1] at hj
        have hc := hcell j (by omega)
        have e : (⟨b, o, none⟩ : Addr).add j = ⟨b, o + j, none⟩ := by unfold Addr.add; split <;> simp_all
        rw [e] at hc
        rw [hc]
        simp [List.getD, hj2]
set_option maxRecDepth 20000 in
theorem open_bytes {H : Type} {enc : TypeId × Value → H} {W : World} {base : Nat} {v : Value} {d : DataW H} {p : List MemPlace} (hval : Value.okWide Try.prog W .any base 29 v)
    (h : DataW.Trod enc Try.prog W 0 (fun _ => true) true 29 v d p) : ∃ b, View W v b := by
  obtain ⟨a, len, cap, rfl⟩ := okWide_slice Try.underlying29 hval
  obtain ⟨fuel, hf⟩ := h
  obtain ⟨ao, c, l, e, hl⟩ := trod_bytes hf
  simp [Value.cells] at e
  obtain ⟨rfl, rfl, rfl⟩ := e
  exact ⟨l, hl⟩
set_option maxRecDepth 20000 in
theorem open_nums {H : Type} {enc : TypeId × Value → H} {W : World} {base : Nat} {v : Value} {d : DataW H} {p : List MemPlace} (hval : Value.okWide Try.prog W .any base 30 v)
    (h : DataW.Trod enc Try.prog W 0 (fun _ => true) true 30 v d p) : ∃ rl : List Int, ∃ ao cap, v = .slice ao rl.length cap ∧ rl.length ≤ cap ∧ cap ≤ maxLen ∧ (∀ x ∈ rl, -9223372036854775808 ≤ x ∧ x ≤ 9223372036854775807) ∧ (rl = [] ∨ ∃ g off, ao = some ⟨g, off, none⟩ ∧ g < W.heap.size ∧ g < W.heap.size ∧ ∀ (j : Nat) x, rl[j]? = some x → W.cell? ⟨g, off + j, none⟩ = some (.int .i64 x)) := by
  obtain ⟨a, len, cap, rfl⟩ := okWide_slice Try.underlying30 hval
  obtain ⟨fuel, hf⟩ := h
  rcases open_ints Try.underlying30 Try.underlying3 cells3 hf with ⟨hcs, hx⟩ | ⟨x, l, c, zs, hcs, _, hl, hm, hz, hx, hcell, hwz⟩
  · simp [Value.cells] at hcs
    obtain ⟨rfl, rfl, rfl⟩ := hcs
    exact ⟨[], none, 0, rfl, Nat.le_refl _, by unfold maxLen; omega, by simp, .inl rfl⟩
  · simp [Value.cells] at hcs
    obtain ⟨rfl, rfl, rfl⟩ := hcs
    have hzl : zs.length = cap := by simpa using hz
    refine ⟨zs.take len, some x, cap, ?_, ?_, hm, fun y hy => bounds_i64 (hwz y (List.mem_of_mem_take hy)), ?_⟩
    · rw [List.length_take, Nat.min_eq_left (by omega)]
    · rw [List.length_take]; omega
    · by_cases h0 : len = 0
      · left; simp [h0]
      · right
        have h00 := hcell 0 (by omega)
        obtain ⟨b, o, sp⟩ := x
        have hsp : sp = none := by
          have e : (⟨b, o, sp⟩ : Addr).add 0 = ⟨b, o, sp⟩ := by unfold Addr.add; simp
          rw [e] at h00
          exact cell_spot h00
        subst hsp
        have hb : b < W.heap.size := by
          have e : (⟨b, o, none⟩ : Addr).add 0 = ⟨b, o, none⟩ := by unfold Addr.add; simp
          rw [e] at h00
          exact cell_lt h00
        refine ⟨b, o, rfl, hb, hb, fun j y hj => ?_⟩
        have hj1 : j < len := by
          have := (List.getElem?_eq_some_iff.1 hj).1
          simp at this; omega
        have hj2 : zs[j]? = some y := by rwa [List.getElem?_take_of_lt hj1] at hj
        have hc := hcell j (by omega)
        have e : (⟨b, o, none⟩ : Addr).add j = ⟨b, o + j, none⟩ := by unfold Addr.add; split <;> simp_all
        rw [e] at hc
        rw [hc]
        simp [List.getD, hj2]
end Go.Proofs.Ytbmfkbgncjldjaa.O
