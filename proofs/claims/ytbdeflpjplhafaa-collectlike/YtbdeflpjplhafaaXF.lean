/- CollectLike: walked. -/
import Derived.Test.YtbdeflpjplhafaaXD
import Derived.Test.YtbdeflpjplhafaaXE
namespace Go.Proofs.Ytbdeflpjplhafaa.J
open Go.RowKit Go.MapKept Go.ChangeMaps
set_option linter.unusedVariables false

variable {w : World} {xs : List Nd} {r : List Int}
theorem beg_obj {l : List Ob} {x : Int} (h : x ∈ begs 0 l) : ∃ o, objZ l x = some o := by
  obtain ⟨i, hi⟩ := List.getElem?_of_mem h
  have hl := (List.getElem?_eq_some_iff.1 hi).1
  rw [begs_len] at hl
  have h3 := begs_at l 0 i hl
  rw [hi, Nat.zero_add] at h3
  cases h3
  exact ⟨l[i], objZ_nth (List.getElem?_eq_getElem hl)⟩
theorem tag_small {X : List Int} {K : List (Nat × Ob)} (h : KOk (graphL xs) K) {k : Int} (hk : k ∈ begs 0 (obsM shp4 K)) : 0 ≤ tagZ (obsM shp4 K) k ∧ tagZ (obsM shp4 K) k ≤ 30 := by
  obtain ⟨o, ho⟩ := beg_obj hk
  obtain ⟨i, h1, h2⟩ := objZ_idx ho
  have hl := (List.getElem?_eq_some_iff.1 h1).1
  rw [obsM_len] at hl
  obtain ⟨⟨p, o'⟩, hp⟩ : ∃ x, K[i]? = some x := ⟨K[i], List.getElem?_eq_getElem hl⟩
  rw [obsM_at hp] at h1
  cases h1
  have hz := h.obj hp
  obtain ⟨j, j1, j2⟩ := objZ_idx hz
  have ht := graphL_tag j1
  have hj := (List.getElem?_eq_some_iff.1 j1).1
  rw [graphL_len] at hj
  unfold tagZ
  rw [ho]
  show 0 ≤ o'.tag ∧ o'.tag ≤ 30
  omega
/-- Two heaps of the package apart. -/
def TwoH (n0 n1 : Nat) (W : World) (H1 H2 : HB) (most : Nat) (l1 l2 : List Ob) : Prop := HeapV n0 W H1 most l1 shp4 ∧ HeapV n1 W H2 most l2 shp4 ∧ ∀ b, H1.has b → ¬ H2.has b
variable {n0 n1 most : Nat} {W W' : World} {H1 H2 H1' : HB} {l1 l2 l1' : List Ob}
theorem TwoH.below (h : TwoH n0 n1 W H1 H2 most l1 l2) (hb : Below W.heap.size W W') : TwoH n0 n1 W' H1 H2 most l1 l2 := ⟨h.1.below hb, h.2.1.below hb, h.2.2⟩
theorem TwoH.step (h : TwoH n0 n1 W H1 H2 most l1 l2) (h' : HeapV n0 W' H1' most l1' shp4) (hs : HStep H1 H1' W W') : TwoH n0 n1 W' H1' H2 most l1' l2 :=
  ⟨h', h.2.1.kept fun b hb => hs.block b (h.2.1.lt hb).2 (fun e => h.2.2 b e hb), fun b hb hb2 => by
    rcases hs.moved b hb with h1 | h1
    · exact h.2.2 b h1 hb2
    · have := (h.2.1.lt hb2).2; omega⟩
theorem TwoH.down (h : TwoH n0 n1 W H1 H2 most l1 l2) (hs : HStep H1 H1' W W') {B : Nat} (hB : B ≤ n0) : Below B W W' := hs.below (by have := (h.1.lt (.inl rfl)).1; have := (h.1.lt (.inl rfl)).2; omega) (fun b hb => by have := (h.1.lt hb).1; omega)
theorem TwoH.own (h : TwoH n0 n1 W H1 H2 most l1 l2) (hs : HStep H1 H1' W W') {B : Nat} {v : Value} {X : List Int} (hx : NOwn W B v X) : NOwn W' B v X := HStep.own h.1.raw hs (by unfold OT; decide) hx
theorem TwoH.like (h : TwoH n0 n1 W H1 H2 most l1 l2) (r1 : RefsOk shp4 l1) (r2 : RefsOk shp4 l2) {va vb : Value} {B1 B2 : Nat} {X Y : List Int} (hx : NOwn W B1 va X) (hy : NOwn W B2 vb Y) (hl : X.length = Y.length) (hm : X.length ≤ 100) (gx : X.all (rootB l1) = true) (gy : Y.all (rootB l2) = true) {R : Int → Int → Prop} (hR : VR shp4 l1 shp4 l2 X Y R) :
    Calls Try.prog 9 #[.pointer (some ⟨H1.hb, 0, none⟩), va, .pointer (some ⟨H2.hb, 0, none⟩), vb] W fun e w' => e = .returned (.bool true) ∧ Below W.heap.size W w' :=
  (like_any h.1 h.2.1 r1 r2 va vb (NOwn.view hx) (NOwn.view hy) hl (by omega) gx gy).mono fun e w' ⟨b, e1, e2, e3⟩ => ⟨by rw [e1, e2.2 ⟨R, hR⟩], e3⟩
theorem TwoH.ekil (h : TwoH n0 n1 W H1 H2 most l1 l2) (r1 : RefsOk shp4 l1) (r2 : RefsOk shp4 l2) {va vb : Value} {B1 B2 : Nat} {X Y : List Int} (hx : NOwn W B1 va X) (hy : NOwn W B2 vb Y) (hl : X.length = Y.length) (hm : X.length ≤ 100) (gx : X.all (rootB l1) = true) (gy : Y.all (rootB l2) = true) {R : Int → Int → Prop} (hR : VR shp4 l1 shp4 l2 X Y R) :
    Calls Try.prog 9 #[.pointer (some ⟨H2.hb, 0, none⟩), vb, .pointer (some ⟨H1.hb, 0, none⟩), va] W fun e w' => e = .returned (.bool true) ∧ Below W.heap.size W w' :=
  (like_any h.2.1 h.1 r2 r1 vb va (NOwn.view hy) (NOwn.view hx) hl.symm (by omega) gy gx).mono fun e w' ⟨b, e1, e2, e3⟩ => ⟨by rw [e1, e2.2 ⟨_, hR.symm⟩], e3⟩
theorem TwoH.unlike (h : TwoH n0 n1 W H1 H2 most l1 l2) (r1 : RefsOk shp4 l1) (r2 : RefsOk shp4 l2) {va vb : Value} {B1 B2 : Nat} {X Y : List Int} (hx : NOwn W B1 va X) (hy : NOwn W B2 vb Y) (hl : X.length = Y.length) (hm : X.length ≤ 100) (gx : X.all (rootB l1) = true) (gy : Y.all (rootB l2) = true) (hR : ∀ R, ¬ VR shp4 l1 shp4 l2 X Y R) :
    Calls Try.prog 9 #[.pointer (some ⟨H1.hb, 0, none⟩), va, .pointer (some ⟨H2.hb, 0, none⟩), vb] W fun e w' => e = .returned (.bool false) ∧ Below W.heap.size W w' :=
  (like_any h.1 h.2.1 r1 r2 va vb (NOwn.view hx) (NOwn.view hy) hl (by omega) gx gy).mono fun e w' ⟨b, e1, e2, e3⟩ => ⟨by
    rw [e1]
    cases b with
    | true => obtain ⟨R, h⟩ := e2.1 rfl; exact absurd h (hR R)
    | false => rfl, e3⟩
/-- What Run leaves of the first one. -/
def RunT (n0 n1 : Nat) (W : World) (H1 H2 : HB) (most : Nat) (l1 l2 : List Ob) (X : List Int) (e : Ending) (w' : World) : Prop :=
  ∃ (K : List (Nat × Ob)) (a : Option Addr) (c st u : Nat) (H1' : HB), RchK shp4 l1 X K ∧ e = .returned (.tuple #[.slice a X.length c, .agg #[.int .i64 (K.length : Int), .int .i64 ((l1.length : Int) - (K.length : Int)), .int .i64 (u : Int), .int .i64 (st : Int)], .int .i64 0]) ∧ NOwn w' W.heap.size (.slice a X.length c) (movedL K X) ∧ TwoH n0 n1 w' H1' H2 most (obsM shp4 K) l2 ∧ HStep H1 H1' W w'
theorem TwoH.run (h : TwoH n0 n1 W H1 H2 most l1 l2) (r1 : RefsOk shp4 l1) {B : Nat} {v : Value} {X : List Int} (hx : NOwn W B v X) (hm : X.length ≤ 100) (gx : X.all (rootB l1) = true) :
    Calls Try.prog 7 #[.pointer (some ⟨H1.hb, 0, none⟩), v] W fun e w' => RunT n0 n1 W H1 H2 most l1 l2 X e w' :=
  (gRun_any h.1 r1 v hx (by omega) gx).mono fun e w' ⟨K, y, st, H', a, b, c, d, f, g⟩ => by
    obtain ⟨ay, cy, rfl⟩ := d.shape (n := X.length) (by simp [movedL])
    exact ⟨K, ay, cy, st, _, H', a, b, d, h.step f g, g⟩
/-- Behind the first Run: what is asked then. -/
def Run2T (n0 n1 : Nat) (W : World) (hb : Nat) (H1 H2 : HB) (most : Nat) (l1 l2 : List Ob) (n : Nat) (Y : List Int) (e : Ending) (w' : World) : Prop :=
  ∃ (a : Option Addr) (c st u k : Nat) (H1' : HB), e = .returned (.tuple #[.slice a n c, .agg #[.int .i64 (k : Int), .int .i64 0, .int .i64 (u : Int), .int .i64 (st : Int)], .int .i64 0]) ∧ NOwn w' W.heap.size (.slice a n c) Y ∧ TwoH n0 n1 w' H1' H2 most l1 l2 ∧ HStep H1 H1' W w' ∧ H1'.hb = hb
theorem RunT.again {X : List Int} {K : List (Nat × Ob)} (hK : RchK shp4 l1 X K) {e : Ending} {w' : World} {hb : Nat} (eh : H1.hb = hb) (h : RunT n0 n1 W H1 H2 most (obsM shp4 K) l2 (movedL K X) e w') : Run2T n0 n1 W hb H1 H2 most (obsM shp4 K) l2 X.length (movedL K X) e w' := by
  obtain ⟨K2, a, c, st, u, H1', h1, rfl, h2, h3, h4⟩ := h
  have e2 := kept_all hK h1
  have e3 : K2.length = (obsM shp4 K).length := by rw [e2, pairA_len]
  have hr : RefsOk shp4 (obsM shp4 K) := RefsOk.kept hK.lead
  have hl : (movedL K X).length = X.length := by simp [movedL]
  rw [hl] at h2 ⊢
  rw [e2, movedL_id (moved_root hK)] at h2
  rw [e2, obsM_id hr] at h3
  exact ⟨a, c, st, u, K2.length, H1', by rw [e3, Int.sub_self], h2, h3, h4, h4.hb.trans eh⟩
theorem rootB_tag (l : List Ob) (k t x : Int) : rootB (setTagL l k t) x = rootB l x := by
  unfold rootB setTagL
  rw [objZ_mod (setT t) (fun _ => rfl)]
theorem all_tag {l : List Ob} {Y : List Int} (h : Y.all (rootB l) = true) (k t : Int) : Y.all (rootB (setTagL l k t)) = true := by
  rw [List.all_eq_true] at h ⊢
  intro x hx
  rw [rootB_tag]
  exact h x hx
set_option maxRecDepth 8000 in
set_option maxHeartbeats 40000000 in
theorem collectLike_any (vl vr : Value) (hl : NdV w vl xs) (hr : NView w vr r) (at_ : Int) : Calls Try.prog 4 #[vl, vr, .int .i64 at_] w fun e w' => e = .returned (.bool true) ∧ Below w.heap.size w w' := by
  have GB1 := hidIt (build_any (most := 400) (xs := xs) (by omega) (by decide) (by decide) vl hl)
  have GB : Hid (∀ W, Below w.heap.size w W → Calls Try.prog 5 #[vl, .int .i64 400] W fun e w' => BuildQ W 400 xs e w') := hidIt (fun W hb => build_any (most := 400) (xs := xs) (by omega) (by decide) (by decide) vl (hl.below hb))
  have HR := hidIt hr
  have HTS : Hid (∀ (K : List (Nat × Ob)) k, KOk (graphL xs) K → k ∈ begs 0 (obsM shp4 K) → 0 ≤ tagZ (obsM shp4 K) k ∧ tagZ (obsM shp4 K) k ≤ 30) := hidIt (fun K k a b => tag_small (X := []) a b)
  have hGl : (graphL xs).length ≤ 30 := by rw [graphL_len]; omega
  have HXo : Hid ((rootsL r (begs 0 (graphL xs))).all (rootB (graphL xs)) = true) := hidIt (rootsL_ok r (graphL xs))
  have hXl : (rootsL r (begs 0 (graphL xs))).length ≤ 12 := rootsL_len _ _
  unfold BuildQ at GB1 GB
  clear hl hr
  generalize graphL xs = G at *
  have GX : Hid (∀ w1 v B, Below w.heap.size w w1 → NOwn w1 B v (begs 0 G) → Calls Try.prog 13 #[vr, v] w1 fun e w' => ∃ a c, e = .returned (.slice a (rootsL r (begs 0 G)).length c) ∧ NOwn w' w1.heap.size (.slice a (rootsL r (begs 0 G)).length c) (rootsL r (begs 0 G)) ∧ Below w1.heap.size w1 w') := hidIt (fun w1 v B hb hn => (roots_any vr v (HR.out.below hb) (NOwn.view hn) (by rw [begs_len]; omega)).mono (fun e w' ⟨v, e1, e2, e3⟩ => by
    obtain ⟨a, c, rfl⟩ := own_slice e2
    exact ⟨a, c, e1, e2, e3⟩))
  generalize rootsL r (begs 0 G) = X at *
  go_enter Try.func4, Try.ntmps4
  go_wp2_with (first
    | (go_at_call 5; refine GB1.out.mono ?_; rintro e w1 ⟨p, q, rv, rfl, ht, hn, hrf, hb⟩; obtain ⟨ar, cr, rfl⟩ := hn.shape (begs_len G 0); have HRF := hidIt hrf; have HN1 := hidIt hn; have HB1 := hidIt hb; obtain ⟨H, rfl, hh⟩ := ht.heap; have HH := hidIt hh; have GB2 := hidIt (GB.out w1 hb); clear hn hrf hb ht hh GB1 GB)
    | (go_at_call 5; refine GB2.out.mono ?_; rintro e w2 ⟨p2, q2, rv2, rfl, ht, hn, hrf, hb⟩; obtain ⟨ar2, cr2, rfl⟩ := hn.shape (begs_len G 0); obtain ⟨H2, rfl, hh⟩ := ht.heap; have T2 : Hid (TwoH w.heap.size w1.heap.size w2 H H2 400 G G) := hidIt ⟨HH.out.below hb, hh, fun b b1 b2 => by have := (HH.out.lt b1).2; have := (hh.lt b2).1; omega⟩; have HB2 := hidIt (HB1.out.trans (hb.mono HB1.out.size)); have GX2 := hidIt (GX.out w2 _ _ HB2.out (own_below HN1.out hb)); have hz12 := hb.size; clear hn hrf hb ht hh GB2 GX HN1 HH HB1)
    | (go_at_call 13; refine GX2.out.mono ?_; rintro e w3 ⟨ax, cx, rfl, hn, hb⟩; have HX3 := hidIt hn; have T3 := hidIt (T2.out.below hb); have HB3 := hidIt (HB2.out.trans (hb.mono HB2.out.size)); have GL1 := hidIt (T3.out.like HRF.out HRF.out hn hn rfl (by omega) HXo.out HXo.out (VR.refl shp4 G X)); have hz23 := hb.size; clear hn hb GX2 T2 HB2)
    | (go_at_call 9; refine GL1.out.mono ?_; rintro e w4 ⟨rfl, hb⟩; have HX4 := hidIt (own_below HX3.out hb); have T4 := hidIt (T3.out.below hb); have HB4 := hidIt (HB3.out.trans (hb.mono HB3.out.size)); have GR1 := hidIt (T4.out.run HRF.out HX4.out (by omega) HXo.out); have hz34 := hb.size; clear hb GL1 T3 HB3 HX3)
    | (go_at_call 7; refine GR1.out.mono ?_; rintro e w5 ⟨K, ay, cy, st, u, H', hK, rfl, hy, ht, hs⟩; have HK := hidIt hK; have HY5 := hidIt hy; have T5 := hidIt ht; have HX5 := hidIt (T4.out.own hs HX4.out); have HB5 := hidIt (HB4.out.trans (T4.out.down hs (B := w.heap.size) (Nat.le_refl _))); have hhb := hs.hb; have hz45 := hs.size; have gl2 := fun W (hb : Below w5.heap.size w5 W) => (T5.out.below hb).like (RefsOk.kept HK.out.lead) HRF.out (own_below HY5.out hb) (own_below HX5.out hb) (by simp [movedL]) (by simp [movedL]; omega) (moved_root HK.out) HXo.out (VR.moved HK.out); rw [hhb] at gl2; have GL2 := hidIt gl2; clear gl2 hK hy ht hs GR1 T4 HX4 HB4)
    | (go_at_call 9; refine (GL2.out _ (balloc _ _)).mono ?_; rintro e w6 ⟨rfl, hb⟩; have HB6 := hidIt ((balloc w5 _).trans (hb.mono (balloc w5 _).size)); have gl3 := (T5.out.below HB6.out).ekil (RefsOk.kept HK.out.lead) HRF.out (own_below HY5.out HB6.out) (own_below HX5.out HB6.out) (by simp [movedL]) (by simp [movedL]; omega) (moved_root HK.out) HXo.out (VR.moved HK.out); rw [hhb] at gl3; have GL3 := hidIt gl3; clear gl3 hb GL2)
    | (go_at_call 9; refine GL3.out.mono ?_; rintro e w7 ⟨rfl, hb⟩; have HB7 := hidIt (HB6.out.trans (hb.mono HB6.out.size)); have gr2 := ((T5.out.below HB7.out).run (RefsOk.kept HK.out.lead) (own_below HY5.out HB7.out) (by simp [movedL]; omega) (moved_root HK.out)).mono (fun e w' h => RunT.again HK.out hhb h); rw [hhb] at gr2; have GR2 := hidIt gr2; clear gr2 hb GL3 HB6)
    | (go_at_call 7; refine GR2.out.mono ?_; rintro e w8 ⟨a8, c8, st8, u8, k8, H8, rfl, hy, ht, hs, hh8⟩; have Z8 := hidIt hy; have T8 := hidIt ht; have Y8 := hidIt ((T5.out.below HB7.out).own hs (own_below HY5.out HB7.out)); have X8 := hidIt ((T5.out.below HB7.out).own hs (own_below HX5.out HB7.out)); have HB8 := hidIt ((HB5.out.trans (HB7.out.mono HB5.out.size)).trans ((T5.out.below HB7.out).down hs (B := w.heap.size) (Nat.le_refl _))); have GS := hidIt (fun W (hb : Below w8.heap.size w8 W) => nsame_any _ _ _ W (NOwn.view (own_below Y8.out hb)) (NOwn.view (own_below Z8.out hb))); clear hy ht hs GR2 T5 HY5 HX5 HB5 HB7 hhb)
    | (go_at_call 10; refine (GS.out _ (balloc _ _)).mono ?_; rintro e w9 ⟨rfl, hb⟩; have d1 : w9.cell? ⟨w8.heap.size, 1, none⟩ = some (.int .i64 0) := cell_later hb ((Blk.new w8 _ _).cell 1); have HB9 := hidIt ((balloc w8 _).trans (hb.mono (balloc w8 _).size)); clear hb GS))
  have T9 := T8.out.below HB9.out
  have ga := All_any T9.1
  unfold HB.ptr at ga
  rw [hh8] at ga
  refine ga.mono ?_
  rintro e w10 ⟨v, rfl, hn, hb⟩
  obtain ⟨aA, cA, rfl⟩ := hn.shape (n := K.length) (by rw [begs_len, obsM_len'])
  have HB10 := hidIt (HB9.out.trans (hb.mono HB9.out.size))
  have HN10 := hidIt hn
  have HBW := hidIt (HB8.out.trans (HB10.out.mono HB8.out.size))
  have hbl : (begs 0 (obsM shp4 K)).length = K.length := by rw [begs_len, obsM_len']
  clear ga hn hb T9 d1 HB9 HB8
  by_cases hK0 : K.length = 0
  · have hK1 : (K.length : Int) = 0 := by omega
    have GK := hidIt (gknown_any w10)
    rw [hK0]
    clear hbl hK0 hK1
    go_wp2_with (go_at_call 12; refine GK.out.mono ?_; rintro e wz ⟨rfl, hbz⟩; have HBz := hidIt (HBW.out.trans (hbz.mono HBW.out.size)); clear hbz)
    go_ret
    exact ⟨rfl, HBz.out⟩
  · obtain ⟨m, hm⟩ : ∃ m, K.length = m + 1 := ⟨K.length - 1, by omega⟩
    have hmK : m ≤ 29 := by
      have h1 := nodup_le (keysK K) (begs 0 G) (HK.out.ok.keys.imp fun h => by omega) (fun x hx => by
        obtain ⟨y, hy, rfl⟩ := List.mem_map.1 hx
        exact obj_beg (by rw [HK.out.ok.obj (List.getElem?_of_mem hy).choose_spec]; rfl))
      rw [keysK_len, begs_len] at h1
      omega
    have hwi := wiZ_le at_ m
    have GW := hidIt (within_any at_ m (by omega) w10)
    obtain ⟨k, hk⟩ : ∃ k, (begs 0 (obsM shp4 K))[wiZ at_ m]? = some k := ⟨(begs 0 (obsM shp4 K))[wiZ at_ m]'(by omega), List.getElem?_eq_getElem (by omega)⟩
    have hkm := List.mem_of_getElem? hk
    have hn10 := HN10.out
    unfold NOwn at hn10
    rw [hbl] at hn10
    obtain ⟨gA, rfl, -, -, c0, -⟩ := own_cell hn10 (icells_at hk)
    have T10 := hidIt (T8.out.below HB10.out)
    have gt := Tag_any T10.out.1 k
    obtain ⟨o, ho⟩ := beg_obj hkm
    have gs := SetTag_yes T10.out.1 k (tagZ (obsM shp4 K) k + 100) o ho
    unfold HB.ptr at gt gs
    rw [hh8] at gt gs
    have hts := HTS.out K k HK.out.ok hkm
    have NT : Hid (∀ R, ¬ VR shp4 (setTagL (obsM shp4 K) k (tagZ (obsM shp4 K) k + 100)) shp4 G (movedL K X) X R) := hidIt (fun R => no_tag HK.out hkm (by omega) R)
    generalize htt : tagZ (obsM shp4 K) k = t at *
    have hw : IntKind.i64.wrap (t + 100) = t + 100 := by rw [IntKind.wrap_i64]; omega
    have GT := hidIt gt
    have GS := hidIt gs
    have Y10 := hidIt (own_below Y8.out HB10.out)
    have X10 := hidIt (own_below X8.out HB10.out)
    clear gt gs hk hkm hn10 ho htt HTS
    rw [hm]
    go_wp2_with (first
      | (go_at_call 15; refine GW.out.mono ?_; rintro e w' ⟨rfl, hww⟩; cases hww; clear GW)
      | (go_at_call 17; refine GT.out.mono ?_; rintro e w' ⟨rfl, hww⟩; cases hww; clear GT)
      | (go_at_call 16; refine GS.out.mono ?_; rintro e w11 ⟨rfl, hh, hs⟩; have T11 := T10.out.step hh hs; have gl := T11.unlike ((RefsOk.kept HK.out.lead).tag k (t + 100)) HRF.out (T10.out.own hs Y10.out) (T10.out.own hs X10.out) (by simp [movedL]) (by simp [movedL]; omega) (all_tag (moved_root HK.out) k (t + 100)) HXo.out NT.out; rw [hh8] at gl; have GL := hidIt gl; have HB11 := hidIt (HBW.out.trans (T10.out.down hs (B := w.heap.size) (Nat.le_refl _))); clear gl hh hs T11 GS)
      | (go_at_call 9; refine GL.out.mono ?_; rintro e w12 ⟨rfl, hb⟩; have HB12 := hidIt (HB11.out.trans (hb.mono HB11.out.size)); have GK := hidIt (gknown_any w12); clear hb GL)
      | (go_at_call 12; refine GK.out.mono ?_; rintro e wz ⟨rfl, hbz⟩; have HBz := hidIt (HB12.out.trans (hbz.mono HB12.out.size)); clear hbz GK))
    go_ret
    exact ⟨rfl, HBz.out⟩
theorem collectLike_w (v : Value) (xs : List Nd) (u : Value) (r : List Int) (n : Int) (W : World) (h1 : NdV W v xs) (h2 : NView W u r) : Calls Try.prog 4 #[v, u, .int .i64 n] W fun e w' => e = .returned (.bool true) ∧ Below W.heap.size W w' := collectLike_any v u h1 h2 n
end Go.Proofs.Ytbdeflpjplhafaa.J
