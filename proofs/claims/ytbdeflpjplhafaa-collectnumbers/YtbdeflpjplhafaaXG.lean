/- CollectNumbers: what is asked, at one closed graph. -/
import Derived.Test.YtbdeflpjplhafaaXD
import Derived.Test.YtbdeflpjplhafaaXE
namespace Go.Proofs.Ytbdeflpjplhafaa.J
open Go.RowKit Go.MapKept Go.ChangeMaps
set_option linter.unusedVariables false

variable {n0 : Nat} {w W : World} {H : HB} {most : Nat} {l : List Ob} {ss : List (List Bool)} {roots : List Int} {K : List (Nat × Ob)}
set_option maxRecDepth 8000 in
set_option maxHeartbeats 4000000 in
theorem gRun_no (h : HeapV n0 w H most l ss) (hr : RefsOk ss l) (vk : Value) (hv : NView w vk roots) (hrl : roots.length ≤ 1000000000000) (ha : roots.all (rootB l) = false) :
    Calls Try.prog 7 #[H.ptr, vk] w fun e w' => e = .returned (.tuple #[.slice none 0 0, .agg #[.int .i64 0, .int .i64 0, .int .i64 0, .int .i64 0], .int .i64 1]) ∧ Below w.heap.size w w' := by
  have B1 := balloc w (.cells #[.int .i64 0, .int .i64 0, .int .i64 0, .int .i64 0] 34)
  have Y1 := Blk.new w #[.int .i64 0, .int .i64 0, .int .i64 0, .int .i64 0] 34
  have G := hidIt ((gmark_any (h.below B1) hr vk (hv.below B1) (by omega)).mono (R' := fun e w' => e = .returned (.tuple #[.pointer none, .int .i64 1]) ∧ Below (w.alloc (.cells #[.int .i64 0, .int .i64 0, .int .i64 0, .int .i64 0] 34)).heap.size (w.alloc (.cells #[.int .i64 0, .int .i64 0, .int .i64 0, .int .i64 0] 34)) w') (fun e w' he => by
    rcases he with ⟨_, a, b⟩ | ⟨a, _⟩
    · exact ⟨a, b⟩
    · rw [ha] at a; cases a))
  have HBq := hidIt B1
  have HY := hidIt Y1
  clear h hr hv ha B1 Y1
  unfold HB.ptr at *
  go_enter Try.func7, Try.ntmps7
  go_wp2_with fail
  generalize w.alloc (.cells #[.int .i64 0, .int .i64 0, .int .i64 0, .int .i64 0] 34) = w1 at *
  go_wp2_with (go_at_call 31; refine G.out.mono ?_; rintro e w2 ⟨rfl, hb⟩; have Y2 := HY.out.kept (hb.block _ HY.out.lt); have B2 := hidIt (HBq.out.trans (hb.mono HBq.out.size)); have c0 := Y2.cell 0; have c1 := Y2.cell 1; have c2 := Y2.cell 2; have c3 := Y2.cell 3; have f0 := Y2.frozen 0; have f1 := Y2.frozen 1; have f2 := Y2.frozen 2; have f3 := Y2.frozen 3; have Y3 := hidIt (set4_blk Y2 (.int .i64 0) (.int .i64 0) (.int .i64 0) (.int .i64 0)); have B3 : Hid (Below w.heap.size w (set4 w2 w.heap.size (.int .i64 0) (.int .i64 0) (.int .i64 0) (.int .i64 0))) := hidIt ((((B2.out.setCell (p := ⟨w.heap.size, 0, none⟩) (Nat.le_refl _) _).setCell (p := ⟨w.heap.size, 1, none⟩) (Nat.le_refl _) _).setCell (p := ⟨w.heap.size, 2, none⟩) (Nat.le_refl _) _).setCell (p := ⟨w.heap.size, 3, none⟩) (Nat.le_refl _) _); unfold set4 at Y3 B3; clear hb Y2 G)
  refine bodyPost_ret (results_mid rfl _ _ w.heap.size 34 _ (0, 0) _ rfl Y3.out Try.underlying34 rfl (by kernel_rfl)) rfl ?_
  exact ⟨rfl, B3.out⟩
set_option maxRecDepth 8000 in
theorem like_nil (va vb p : Value) (w : World) : Calls Try.prog 9 #[.pointer none, va, p, vb] w fun e w' => e = .returned (.bool false) ∧ w' = w := by
  go_enter Try.func9, Try.ntmps9
  go_wp2_with fail
  go_ret
  exact ⟨rfl, rfl⟩
set_option maxRecDepth 8000 in
theorem like_len (a b : Nat) (aa ab : Option Addr) (n m ca cb : Nat) (hn : n < m) (w : World) : Calls Try.prog 9 #[.pointer (some ⟨a, 0, none⟩), .slice aa n ca, .pointer (some ⟨b, 0, none⟩), .slice ab m cb] w fun e w' => e = .returned (.bool false) ∧ w' = w := by
  have h1 : (n : Int) ≠ (m : Int) := by omega
  have h2 : ((n : Int) != (m : Int)) = true := by simp; omega
  go_enter Try.func9, Try.ntmps9
  go_wp2_with fail
  go_ret
  exact ⟨rfl, rfl⟩
def xs2 : List Nd := [⟨0, 0, []⟩, ⟨1, 0, [1]⟩]
def gr2 : List Ob := [⟨0, 1, []⟩, ⟨1, 2, [4]⟩]
theorem graph2 : graphL xs2 = gr2 := rfl
theorem keys2 {X : List Int} (hX : X = [4] ∨ X = [4, 0, 4]) (h : RchK shp4 gr2 X K) : K = [(3, ⟨1, 2, [4]⟩)] := by
  have hk : keysK K = [4] := by
    refine rise_ext _ _ h.ok.keys (by decide) fun x => ?_
    rw [h.iff]
    constructor
    · have hc : ∀ x ∈ ([4] : List Int), ∀ o, objZ gr2 x = some o → ∀ y ∈ refsN shp4 o o.f.length, y = 0 ∨ y ∈ ([4] : List Int) := fun x hx o ho => by
        obtain rfl : x = 4 := by simpa using hx
        have : objZ gr2 4 = some ⟨1, 2, [4]⟩ := rfl
        rw [this] at ho; cases ho
        decide
      rcases hX with rfl | rfl
      · exact rch_in (by decide) hc
      · exact rch_in (by decide) hc
    · intro hx
      obtain rfl : x = 4 := by simpa using hx
      exact .root (by rcases hX with rfl | rfl <;> decide) (by decide)
  exact KOk.ext h.ok.at_ (fun x hx => by
    obtain rfl : x = (3, ⟨1, 2, [4]⟩) := by simpa using hx
    rfl) hk
theorem keys0 {l : List Ob} (h : RchK ss l [] K) : K = [] := by
  cases K with
  | nil => rfl
  | cons x K =>
    have h1 := (h.iff ((x.1 : Int) + 1)).1 (by simp [keysK])
    exact absurd (rch_in (C := []) (by simp) (by simp) h1) (by simp)
theorem not_alike (R : Int → Int → Prop) : ¬ VR shp4 gr2 shp4 gr2 [1] [4] R := fun h => by
  have h1 := (h.al (h.ro (i := 0) (x := 1) (y := 4) rfl rfl)).1
  exact absurd h1 (by decide)
def lay2 (w : World) : World := (w.alloc (.cells #[.int .i64 1] 3)).alloc (.cells #[.int .i64 0, .int .i64 0, .slice none 0 0, .int .i64 1, .int .i64 0, .slice (some ⟨w.heap.size, 0, none⟩) 1 1] 28)
theorem lay2_below (w : World) : Below w.heap.size w (lay2 w) := (balloc w (.cells #[.int .i64 1] 3)).alloc (by simp) _
theorem lay2_view (w : World) : NdV (lay2 w) (.slice (some ⟨w.heap.size + 1, 0, none⟩) 2 2) xs2 := by
  have b0 := Blk.new w #[.int .i64 1] 3
  have b2 := Blk.new (w.alloc (.cells #[.int .i64 1] 3)) #[.int .i64 0, .int .i64 0, .slice none 0 0, .int .i64 1, .int .i64 0, .slice (some ⟨w.heap.size, 0, none⟩) 1 1] 28
  simp only [World.size_alloc] at b2
  have k1 := b0.kept (Below.heap_alloc (w.alloc (.cells #[.int .i64 1] 3)) (.cells #[.int .i64 0, .int .i64 0, .slice none 0 0, .int .i64 1, .int .i64 0, .slice (some ⟨w.heap.size, 0, none⟩) 1 1] 28) _ (by simp))
  refine ⟨_, _, rfl, by decide, by decide, .inr ⟨_, 0, rfl, fun i x hx => ?_⟩⟩
  rw [Nat.zero_add]
  match i, hx with
  | 0, hx => cases hx; exact ⟨b2.cell 0, b2.cell 1, _, b2.cell 2, ⟨_, _, rfl, Nat.le_refl _, by unfold maxLen; omega, .inl rfl⟩⟩
  | 1, hx => cases hx; exact ⟨b2.cell 3, b2.cell 4, _, b2.cell 5, nview_one k1⟩
  | i + 2, hx => simp [xs2] at hx
/-- The heap, and the references of its two objects. -/
def Nst (w W : World) (H : HB) (rv : Value) : Prop := HeapV w.heap.size W H 100 gr2 shp4 ∧ NOwn W w.heap.size rv [1, 4] ∧ Below w.heap.size w W
theorem Nst.below {w W W' : World} {H : HB} {rv : Value} (h : Nst w W H rv) (hb : Below W.heap.size W W') : Nst w W' H rv := show Nst w W' H rv from ⟨h.1.below hb, own_below h.2.1 hb, h.2.2.trans (hb.mono h.2.2.size)⟩
theorem heapV_wk {m n : Nat} {w : World} {H : HB} {most : Nat} {l : List Ob} {ss : List (List Bool)} (h : HeapV n w H most l ss) (hm : m ≤ n) : HeapV m w H most l ss :=
  ⟨Nat.le_trans hm h.lo, Nat.le_trans hm h.lom, h.box, own_wk h.wo hm, own_wk h.bo hm, own_wk h.so hm, h.map, h.wf, h.few, h.most⟩
theorem Nst.mark {w W : World} {H : HB} {rv : Value} (h : Nst w W H rv) (hr : RefsOk shp4 gr2) : Calls Try.prog 6 #[.pointer (some ⟨H.hb, 0, none⟩), .slice (some ⟨W.heap.size, 0, none⟩) 1 1] (W.alloc (.cells #[.int .i64 2] 3)) fun e w' => e = .returned (.tuple #[.slice none 0 0, .int .i64 1]) ∧ Below W.heap.size W w' := by
  have hb := balloc W (.cells #[.int .i64 2] 3)
  refine (gMark_any (roots := [2]) (h.1.below hb) hr _ (nview_one (Blk.new W #[.int .i64 2] 3)) (by decide)).mono fun e w' he => ?_
  rcases he with ⟨_, a, b⟩ | ⟨a, _⟩
  · exact ⟨a, hb.trans (b.mono hb.size)⟩
  · cases a
theorem Nst.runno {w W : World} {H : HB} {rv : Value} (h : Nst w W H rv) (hr : RefsOk shp4 gr2) : Calls Try.prog 7 #[.pointer (some ⟨H.hb, 0, none⟩), .slice (some ⟨W.heap.size, 0, none⟩) 1 1] (W.alloc (.cells #[.int .i64 (-1)] 3)) fun e w' => e = .returned (.tuple #[.slice none 0 0, .agg #[.int .i64 0, .int .i64 0, .int .i64 0, .int .i64 0], .int .i64 1]) ∧ Below W.heap.size W w' := by
  have hb := balloc W (.cells #[.int .i64 (-1)] 3)
  exact (gRun_no (roots := [-1]) (h.1.below hb) hr _ (nview_one (Blk.new W #[.int .i64 (-1)] 3)) (by decide) rfl).mono fun e w' ⟨a, b⟩ => ⟨a, hb.trans (b.mono hb.size)⟩
theorem Nst.size4 {w W : World} {H : HB} {rv : Value} (h : Nst w W H rv) (hr : RefsOk shp4 gr2) : Calls Try.prog 8 #[.pointer (some ⟨H.hb, 0, none⟩), .slice (some ⟨W.heap.size, 0, none⟩) 1 1] (W.alloc (.cells #[.int .i64 4] 3)) fun e w' => e = .returned (.tuple #[.int .i64 4, .int .i64 0]) ∧ Below W.heap.size W w' := by
  have hb := balloc W (.cells #[.int .i64 4] 3)
  refine (gSize_any (roots := [4]) (h.1.below hb) hr _ (nview_one (Blk.new W #[.int .i64 4] 3)) (by decide) rfl).mono fun e w' ⟨K, hK, a, b⟩ => ?_
  have := keys2 (.inl rfl) hK
  subst this
  exact ⟨a, hb.trans (b.mono hb.size)⟩
theorem Nst.like {w W : World} {H : HB} {rv : Value} (h : Nst w W H rv) (hr : RefsOk shp4 gr2) : Calls Try.prog 9 #[.pointer (some ⟨H.hb, 0, none⟩), rv, .pointer (some ⟨H.hb, 0, none⟩), rv] W fun e w' => e = .returned (.bool true) ∧ Below W.heap.size W w' :=
  (like_any h.1 h.1 hr hr rv rv (NOwn.view h.2.1) (NOwn.view h.2.1) rfl (by decide) rfl rfl).mono fun e w' ⟨b, e1, e2, e3⟩ => ⟨by rw [e1, e2.2 ⟨_, VR.refl shp4 gr2 [1, 4]⟩], e3⟩
theorem Nst.unlike {w W : World} {H : HB} {rv : Value} (h : Nst w W H rv) (hr : RefsOk shp4 gr2) (va vb : Value) (ha : NView W va [1]) (hb : NView W vb [4]) : Calls Try.prog 9 #[.pointer (some ⟨H.hb, 0, none⟩), va, .pointer (some ⟨H.hb, 0, none⟩), vb] W fun e w' => e = .returned (.bool false) ∧ Below W.heap.size W w' :=
  (like_any h.1 h.1 hr hr va vb ha hb rfl (by decide) rfl rfl).mono fun e w' ⟨b, e1, e2, e3⟩ => ⟨by
    rw [e1]
    cases b with
    | true => obtain ⟨R, h⟩ := e2.1 rfl; exact absurd h (not_alike R)
    | false => rfl, e3⟩
theorem Nst.cell {w W : World} {H : HB} {g c : Nat} (h : Nst w W H (.slice (some ⟨g, 0, none⟩) 2 c)) : W.cell? ⟨g, 0, none⟩ = some (.int .i64 1) ∧ W.cell? ⟨g, 1, none⟩ = some (.int .i64 4) := by
  have ho := h.2.1
  unfold NOwn at ho
  obtain ⟨g0, e0, -, -, c0, -⟩ := own_cell (j := 0) ho (icells_at (show ([1, 4] : List Int)[0]? = some 1 from rfl))
  obtain ⟨g1, e1, -, -, c1, -⟩ := own_cell (j := 1) ho (icells_at (show ([1, 4] : List Int)[1]? = some 4 from rfl))
  cases e0
  cases e1
  exact ⟨c0, c1⟩
theorem below_ad (w : World) (o : Obj) : Below w.heap.size w (w.alloc o).drew := below_drewN (balloc w o) 1
theorem below_aad (w : World) (o o' : Obj) : Below w.heap.size w ((w.alloc o).alloc o').drew := below_drewN ((balloc w o).alloc (by simp) o') 1
theorem two_views (w : World) (a b : Int) : NView ((w.alloc (.cells #[.int .i64 a] 3)).alloc (.cells #[.int .i64 b] 3)).drew (.slice (some ⟨w.heap.size, 0, none⟩) 1 1) [a] ∧ NView ((w.alloc (.cells #[.int .i64 a] 3)).alloc (.cells #[.int .i64 b] 3)).drew (.slice (some ⟨w.heap.size + 1, 0, none⟩) 1 1) [b] := by
  have b0 := Blk.new w #[.int .i64 a] 3
  have b1 := Blk.new (w.alloc (.cells #[.int .i64 a] 3)) #[.int .i64 b] 3
  rw [World.size_alloc] at b1
  exact ⟨nview_one (T := 3) (b0.kept (Below.heap_alloc (w.alloc (.cells #[.int .i64 a] 3)) (.cells #[.int .i64 b] 3) _ (by simp))), nview_one (T := 3) b1⟩
theorem nview_neg {w : World} : NView w (.slice none 0 0) [] := ⟨_, _, rfl, Nat.le_refl _, by unfold maxLen; omega, .inl rfl⟩
def gr1 : List Ob := [⟨1, 2, [1]⟩]
/-- Behind the first Run that goes through. -/
def Fst (w W : World) (hb : Nat) (a : Option Addr) (c sb : Nat) : Prop := ∃ (H : HB) (st : Nat), HeapV w.heap.size W H 100 gr1 shp4 ∧ H.hb = hb ∧ NOwn W w.heap.size (.slice a 3 c) [1, 0, 1] ∧ Blk W sb #[.int .i64 1, .int .i64 1, .int .i64 4, .int .i64 (st : Int)] 34 ∧ Below w.heap.size w W
def RunF (w X : World) (hb : Nat) (e : Ending) (W : World) : Prop := ∃ (H : HB) (st : Nat) (a : Option Addr) (c : Nat), e = .returned (.tuple #[.slice a 3 c, .agg #[.int .i64 1, .int .i64 1, .int .i64 4, .int .i64 (st : Int)], .int .i64 0]) ∧ HeapV w.heap.size W H 100 gr1 shp4 ∧ H.hb = hb ∧ NOwn W w.heap.size (.slice a 3 c) [1, 0, 1] ∧ Below w.heap.size w W ∧ X.heap.size ≤ W.heap.size ∧ (∀ b cs, Blk X b cs 34 → Blk W b cs 34) ∧ ∀ B v xs, NOwn X B v xs → NOwn W B v xs
theorem stats_kept {n0 : Nat} {X W : World} {H H' : HB} {most : Nat} {l : List Ob} {ss : List (List Bool)} (h : HeapV n0 X H most l ss) (hs : HStep H H' X W) {b : Nat} {cs : Array Value} (k : Blk X b cs 34) : Blk W b cs 34 :=
  k.kept (hs.block b k.lt (fun e => heap_type h e (t := 34) (by unfold OT; decide) (by unfold Blk at k; exact k)))
theorem Nst.run {w X : World} {H : HB} {rv : Value} (h : Nst w X H rv) (hr : RefsOk shp4 gr2) {B : Nat} {v : Value} (hv : NOwn X B v [4, 0, 4]) : Calls Try.prog 7 #[.pointer (some ⟨H.hb, 0, none⟩), v] X fun e w' => RunF w X H.hb e w' :=
  (gRun_any h.1 hr v hv (by decide) rfl).mono fun e w' ⟨K, y, st, H', hK, e1, _, hy, hh, hs⟩ => by
    have := keys2 (.inr rfl) hK
    subst this
    obtain ⟨a, c, rfl⟩ := hy.shape (n := 3) rfl
    have hm : movedL [(3, (⟨1, 2, [4]⟩ : Ob))] [4, 0, 4] = [1, 0, 1] := rfl
    have ho : obsM shp4 [(3, (⟨1, 2, [4]⟩ : Ob))] = gr1 := rfl
    rw [hm] at hy
    rw [ho] at hh
    exact ⟨H', st, a, c, e1, hh, hs.hb, own_wk hy h.2.2.size, h.2.2.trans (hs.below h.2.2.size (fun b hb => (h.1.lt hb).1)), hs.size, fun b cs k => stats_kept h.1 hs k, fun B v xs ho => HStep.own h.1.raw hs (by unfold OT; decide) ho⟩
theorem fst_new {w W : World} {H : HB} {hb : Nat} {a : Option Addr} {c st : Nat} (h1 : HeapV w.heap.size W H 100 gr1 shp4) (h2 : H.hb = hb) (h3 : NOwn W w.heap.size (.slice a 3 c) [1, 0, 1]) (h5 : Below w.heap.size w W) : Fst w (W.alloc (.cells #[.int .i64 1, .int .i64 1, .int .i64 4, .int .i64 (st : Int)] 34)) hb a c W.heap.size :=
  ⟨H, st, h1.below (balloc W _), h2, own_below h3 (balloc W _), Blk.new W _ _, h5.alloc h5.size _⟩
theorem fst_set {w W : World} {H : HB} {hb : Nat} {a : Option Addr} {c st b : Nat} (h1 : HeapV w.heap.size W H 100 gr1 shp4) (h2 : H.hb = hb) (h3 : NOwn W w.heap.size (.slice a 3 c) [1, 0, 1]) (h5 : Below w.heap.size w W) (hb0 : w.heap.size ≤ b) {x y z u : Value} (k : Blk W b #[x, y, z, u] 34) : Fst w (set4 W b (.int .i64 1) (.int .i64 1) (.int .i64 4) (.int .i64 (st : Int))) hb a c b := by
  refine ⟨H, st, h1.kept fun g hg => set4_other _ _ _ _ _ _ (fun e => ?_), h2, own_kept h3 (fun g eg => set4_other _ _ _ _ _ _ (fun e => own_not h3 k (by decide) (by rw [eg, e]))), set4_blk k _ _ _ _, ?_⟩
  · subst e
    exact heap_type h1 hg (t := 34) (by unfold OT; decide) (by unfold Blk at k; exact k)
  · unfold set4
    exact (((h5.setCell (p := ⟨b, 0, none⟩) hb0 _).setCell (p := ⟨b, 1, none⟩) hb0 _).setCell (p := ⟨b, 2, none⟩) hb0 _).setCell (p := ⟨b, 3, none⟩) hb0 _
/-- And behind the next one, of no roots. -/
def Gst (w W : World) (hb : Nat) (a : Option Addr) (c sb : Nat) : Prop := ∃ (H : HB) (st : Nat), HeapV w.heap.size W H 100 [] shp4 ∧ H.hb = hb ∧ NOwn W w.heap.size (.slice a 3 c) [1, 0, 1] ∧ Blk W sb #[.int .i64 1, .int .i64 1, .int .i64 4, .int .i64 (st : Int)] 34 ∧ Below w.heap.size w W
theorem Gst.below {w W W' : World} {hb : Nat} {a : Option Addr} {c sb : Nat} (h : Gst w W hb a c sb) (hb' : Below W.heap.size W W') : Gst w W' hb a c sb := by
  obtain ⟨H, st, h1, h2, h3, h4, h5⟩ := h
  exact ⟨H, st, h1.below hb', h2, own_below h3 hb', h4.kept (hb'.block _ h4.lt), h5.trans (hb'.mono h5.size)⟩
theorem Fst.run {w X : World} {hb : Nat} {a : Option Addr} {c sb : Nat} (h : Fst w X hb a c sb) : Calls Try.prog 7 #[.pointer (some ⟨hb, 0, none⟩), .slice none 0 0] X fun e w' => ∃ (a' : Option Addr) (c' st' : Nat), e = .returned (.tuple #[.slice a' 0 c', .agg #[.int .i64 0, .int .i64 1, .int .i64 0, .int .i64 (st' : Int)], .int .i64 0]) ∧ Gst w w' hb a c sb := by
  obtain ⟨H, st, h1, rfl, h3, h4, h5⟩ := h
  have hr : RefsOk shp4 gr1 := by
    intro p o h n x hx hr
    match p, h with
    | 0, h => cases h; match n, hx with
      | 0, hx => cases hx; exact .inr rfl
      | n + 1, hx => simp at hx
    | 1, h => cases h
    | 2, h => cases h
    | 3, h => cases h
    | p + 4, h => have := atN_lt _ _ _ h; simp [gr1, usedN] at this; omega
  refine (gRun_any (roots := []) h1 hr (.slice none 0 0) (NOwn.nil X X.heap.size) (by decide) rfl).mono fun e w' ⟨K, y, st', H', hK, e1, _, hy, hh, hs⟩ => ?_
  have := keys0 hK
  subst this
  obtain ⟨a', c', rfl⟩ := hy.shape (n := 0) rfl
  exact ⟨a', c', st', e1, H', st, hh, hs.hb, HStep.own h1.raw hs (by unfold OT; decide) h3, stats_kept h1 hs h4, h5.trans (hs.below h5.size (fun b hb => (h1.lt hb).1))⟩
theorem nown_three (w : World) (x y z : Int) : NOwn (w.alloc (.cells #[.int .i64 x, .int .i64 y, .int .i64 z] 3)) w.heap.size (.slice (some ⟨w.heap.size, 0, none⟩) 3 3) [x, y, z] :=
  ⟨rfl, .inr ⟨w.heap.size, 3, _, rfl, Nat.le_refl _, heap_alloc_new w _, Nat.le_refl _, by unfold maxLen; omega, rfl, rfl⟩⟩
theorem nown_three_d (w : World) (x y z : Int) : NOwn (w.alloc (.cells #[.int .i64 x, .int .i64 y, .int .i64 z] 3)).drew w.heap.size (.slice (some ⟨w.heap.size, 0, none⟩) 3 3) [x, y, z] := nown_three w x y z
theorem nown_three_a (w : World) (x y z : Int) (o : Obj) : NOwn ((w.alloc (.cells #[.int .i64 x, .int .i64 y, .int .i64 z] 3)).alloc o).drew w.heap.size (.slice (some ⟨w.heap.size, 0, none⟩) 3 3) [x, y, z] := own_below (nown_three w x y z) (below_ad _ o)
theorem nown_three_b (w : World) (x y z : Int) (o : Obj) : NOwn ((w.alloc o).alloc (.cells #[.int .i64 x, .int .i64 y, .int .i64 z] 3)).drew (w.heap.size + 1) (.slice (some ⟨w.heap.size + 1, 0, none⟩) 3 3) [x, y, z] := by
  have := nown_three (w.alloc o) x y z
  rw [World.size_alloc] at this
  exact this
theorem Nst.kept {w W : World} {H : HB} {g c : Nat} {hb : Nat} {X : World} {e : Ending} (h : NOwn W w.heap.size (.slice (some ⟨g, 0, none⟩) 2 c) [1, 4]) : W.cell? ⟨g, 0, none⟩ = some (.int .i64 1) ∧ W.cell? ⟨g, 1, none⟩ = some (.int .i64 4) := by
  have ho := h
  unfold NOwn at ho
  obtain ⟨g0, e0, -, -, c0, -⟩ := own_cell (j := 0) ho (icells_at (show ([1, 4] : List Int)[0]? = some 1 from rfl))
  obtain ⟨g1, e1, -, -, c1, -⟩ := own_cell (j := 1) ho (icells_at (show ([1, 4] : List Int)[1]? = some 4 from rfl))
  cases e0
  cases e1
  exact ⟨c0, c1⟩
def Rfs (g : Nat) (X : World) : Prop := X.cell? ⟨g, 0, none⟩ = some (.int .i64 1) ∧ X.cell? ⟨g, 1, none⟩ = some (.int .i64 4)
theorem RunF.one {w X W : World} {hb g cr : Nat} {e : Ending} (h : RunF w X hb e W) (ho : NOwn X w.heap.size (.slice (some ⟨g, 0, none⟩) 2 cr) [1, 4]) : ∃ (st : Nat) (a : Option Addr) (c : Nat), e = .returned (.tuple #[.slice a 3 c, .agg #[.int .i64 1, .int .i64 1, .int .i64 4, .int .i64 (st : Int)], .int .i64 0]) ∧ Rfs g W ∧ Rfs g (W.alloc (.cells #[.int .i64 0, .int .i64 0, .int .i64 0, .int .i64 0] 34)) ∧ Rfs g (W.alloc (.cells #[.int .i64 1, .int .i64 1, .int .i64 4, .int .i64 (st : Int)] 34)) ∧ Fst w (W.alloc (.cells #[.int .i64 1, .int .i64 1, .int .i64 4, .int .i64 (st : Int)] 34)) hb a c W.heap.size := by
  obtain ⟨H, st, a, c, e1, h1, h2, h3, h5, h6, h7, h8⟩ := h
  have hn := h8 _ _ _ ho
  exact ⟨st, a, c, e1, Nst.kept (w := w) (H := H) (hb := 0) (X := w) (e := e) hn, Nst.kept (w := w) (H := H) (hb := 0) (X := w) (e := e) (own_below hn (balloc W _)), Nst.kept (w := w) (H := H) (hb := 0) (X := w) (e := e) (own_below hn (balloc W _)), fst_new h1 h2 h3 h5⟩
theorem RunF.two {w X W : World} {hb g cr b : Nat} {e : Ending} (h : RunF w X hb e W) (ho : NOwn X w.heap.size (.slice (some ⟨g, 0, none⟩) 2 cr) [1, 4]) (hw : w.heap.size ≤ b) (k : Blk X b #[.int .i64 0, .int .i64 0, .int .i64 0, .int .i64 0] 34) : ∃ (st : Nat) (a : Option Addr) (c : Nat), e = .returned (.tuple #[.slice a 3 c, .agg #[.int .i64 1, .int .i64 1, .int .i64 4, .int .i64 (st : Int)], .int .i64 0]) ∧ Rfs g W ∧ (W.cell? ⟨b, 0, none⟩ = some (.int .i64 0) ∧ W.cell? ⟨b, 1, none⟩ = some (.int .i64 0) ∧ W.cell? ⟨b, 2, none⟩ = some (.int .i64 0) ∧ W.cell? ⟨b, 3, none⟩ = some (.int .i64 0)) ∧ (W.frozen? ⟨b, 0, none⟩ = false ∧ W.frozen? ⟨b, 1, none⟩ = false ∧ W.frozen? ⟨b, 2, none⟩ = false ∧ W.frozen? ⟨b, 3, none⟩ = false) ∧ Rfs g ((((W.setCell ⟨b, 0, none⟩ (.int .i64 1)).setCell ⟨b, 1, none⟩ (.int .i64 1)).setCell ⟨b, 2, none⟩ (.int .i64 4)).setCell ⟨b, 3, none⟩ (.int .i64 (st : Int))) ∧ Fst w ((((W.setCell ⟨b, 0, none⟩ (.int .i64 1)).setCell ⟨b, 1, none⟩ (.int .i64 1)).setCell ⟨b, 2, none⟩ (.int .i64 4)).setCell ⟨b, 3, none⟩ (.int .i64 (st : Int))) hb a c b := by
  obtain ⟨H, st, a, c, e1, h1, h2, h3, h5, h6, h7, h8⟩ := h
  have hn := h8 _ _ _ ho
  have Y := h7 _ _ k
  exact ⟨st, a, c, e1, Nst.kept (w := w) (H := H) (hb := 0) (X := w) (e := e) hn, ⟨Y.cell 0, Y.cell 1, Y.cell 2, Y.cell 3⟩, ⟨Y.frozen 0, Y.frozen 1, Y.frozen 2, Y.frozen 3⟩, Nst.kept (w := w) (H := H) (hb := 0) (X := w) (e := e) (own_kept hn (fun g eg => set4_other _ _ _ _ _ _ (fun e => own_not hn Y (by decide) (by rw [eg, e])))), fst_set h1 h2 h3 h5 hw Y⟩
set_option maxRecDepth 20000 in
set_option maxHeartbeats 40000000 in
theorem cnumbers_any (w : World) : Calls Try.prog 3 #[] w fun e w' => e = .returned (.bool true) ∧ Below w.heap.size w w' := by
  have GB := hidIt (build_any (w := lay2 w) (most := 100) (xs := xs2) (by decide) (by decide) (by decide) _ (lay2_view w))
  have B1 := hidIt (lay2_below w)
  have hz2 : (lay2 w).heap.size = w.heap.size + 2 := by simp [lay2]
  unfold BuildQ at GB
  rw [graph2, hz2] at GB
  unfold lay2 at GB B1
  have tk1 : True := trivial
  have tk2 : True := trivial
  go_enter Try.func3, Try.ntmps3
  go_wp2_with (first
    | (go_at_call 5; refine GB.out.mono ?_; rintro e w1 ⟨p, q, rv, rfl, ht, hn, hrf, hb⟩; obtain ⟨ar, cr, rfl⟩ := hn.shape (n := 2) rfl; obtain ⟨H, rfl, hh⟩ := ht.heap; have N1 : Hid (Nst w w1 H (.slice ar 2 cr)) := hidIt ⟨heapV_wk hh (by omega), own_wk hn (by omega), B1.out.trans (hb.mono (by omega))⟩; have RO := hidIt hrf; have hcr := (own_cap hn).1; have hcm := (own_cap hn).2; unfold maxLen at hcm; have hn' := hn; unfold NOwn at hn'; obtain ⟨g, rfl, -, -, -, -⟩ := own_cell (j := 0) hn' (icells_at (show ([1, 4] : List Int)[0]? = some 1 from rfl)); clear ht hn hrf hb hh hn' GB B1 hz2)
    | (go_at_call 6; clear tk1; refine (gMark_nil _ _).mono ?_; rintro e w' ⟨rfl, hww⟩; cases hww)
    | (go_at_call 6; refine (N1.out.mark RO.out).mono ?_; rintro e w2 ⟨rfl, hb⟩; have N2 := hidIt (N1.out.below hb); clear hb N1)
    | (go_at_call 7; refine (N2.out.runno RO.out).mono ?_; rintro e w3 ⟨rfl, hb⟩; have N3 := hidIt ((N2.out.below hb).below (balloc w3 (.cells #[.int .i64 0, .int .i64 0, .int .i64 0, .int .i64 0] 34))); obtain ⟨x0, x1⟩ := N3.out.cell; have gs := N3.out.size4 RO.out; simp only [World.size_alloc] at gs; have GS := hidIt gs; clear gs hb N2)
    | (go_at_call 8; clear tk2; refine (gSize_nil _ _).mono ?_; rintro e w' ⟨rfl, hww⟩; cases hww)
    | (go_at_call 8; refine GS.out.mono ?_; rintro e w4 ⟨rfl, hb⟩; have N4 := hidIt (N3.out.below (by simp only [World.size_alloc]; exact hb)); clear hb N3 x0 x1 GS)
    | (go_at_call 9; refine (N4.out.like RO.out).mono ?_; rintro e w5 ⟨rfl, hb⟩; have N5 := hidIt (N4.out.below hb); obtain ⟨x0, x1⟩ := N5.out.cell; clear hb N4))
  have HS : Hid (∀ X, Below w5.heap.size w5 X → X.cell? ⟨g, 0, none⟩ = some (.int .i64 1) ∧ X.cell? ⟨g, 1, none⟩ = some (.int .i64 4)) := hidIt (fun X hX => (N5.out.below hX).cell)
  have GA : Hid (∀ X va vb, Below w5.heap.size w5 X → NView X va [1] → NView X vb [4] → Calls Try.prog 9 #[.pointer (some ⟨H.hb, 0, none⟩), va, .pointer (some ⟨H.hb, 0, none⟩), vb] X fun e w' => e = .returned (.bool false) ∧ Below w5.heap.size w5 w') := hidIt (fun X va vb hX ha hb => ((N5.out.below hX).unlike RO.out va vb ha hb).mono fun e w' ⟨a, b⟩ => ⟨a, hX.trans (b.mono hX.size)⟩)
  go_cut [16] from 74 to 84 (fun v wx => v = .bool false ∧ Nst w wx H (.slice (some ⟨g, 0, none⟩) 2 cr))
  case first =>
    go_region_held3 (fun X => X.cell? ⟨g, 0, none⟩ = some (.int .i64 1) ∧ X.cell? ⟨g, 1, none⟩ = some (.int .i64 4)) (first | exact ⟨x0, x1⟩ | exact HS.out _ (below_drewQ _ 1) | exact HS.out _ (below_ad _ _) | exact HS.out _ (below_aad _ _ _) | exact HS.out _ (by assumption))
      (first
        | (go_at_call 9; with_reducible refine (GA.out _ _ _ (below_aad w5 _ _) (two_views w5 1 4).1 (two_views w5 1 4).2).mono ?_; rintro e w6 ⟨rfl, hb6⟩)
        | (go_at_call 9; with_reducible refine (GA.out _ _ _ (below_aad w5 _ _) (two_views w5 4 1).2 (two_views w5 4 1).1).mono ?_; rintro e w6 ⟨rfl, hb6⟩))
    all_goals go_wp2_with fail
    all_goals go_meet
    all_goals exact ⟨rfl, N5.out.below hb6⟩
  case rest =>
    obtain ⟨rfl, hn6⟩ := hcut
    have N6 := hidIt hn6
    clear hn6 HS GA x0 x1 N5
    obtain ⟨x0, x1⟩ := N6.out.cell
    have HS : Hid (∀ X, Below wc.heap.size wc X → X.cell? ⟨g, 0, none⟩ = some (.int .i64 1) ∧ X.cell? ⟨g, 1, none⟩ = some (.int .i64 4)) := hidIt (fun X hX => (N6.out.below hX).cell)
    have GR : ∀ X B v, Below wc.heap.size wc X → NOwn X B v [4, 0, 4] → Calls Try.prog 7 #[.pointer (some ⟨H.hb, 0, none⟩), v] X fun e w' => RunF w X H.hb e w' := fun X B v hX hv => (N6.out.below hX).run RO.out hv
    have hz6 := N6.out.2.2.size
    have HO6 := fun X (hX : Below wc.heap.size wc X) => own_below N6.out.2.1 hX
    have gv1 := (GR _ _ _ (below_ad wc _) (nown_three_d wc 4 0 4)).mono (fun e w' h => RunF.one h (HO6 _ (below_ad wc _)))
    have gv2 := (GR _ _ _ (below_aad wc _ _) (nown_three_a wc 4 0 4 (.cells #[.int .i64 0, .int .i64 0, .int .i64 0, .int .i64 0] 34))).mono (fun e w' h => RunF.two (b := wc.heap.size + 1) h (HO6 _ (below_aad wc _ _)) (by omega) (by have := Blk.new (wc.alloc (.cells #[.int .i64 4, .int .i64 0, .int .i64 4] 3)) #[.int .i64 0, .int .i64 0, .int .i64 0, .int .i64 0] 34; rw [World.size_alloc] at this; exact this))
    have gv3 := (GR _ _ _ (below_aad wc _ _) (nown_three_b wc 4 0 4 (.cells #[.int .i64 0, .int .i64 0, .int .i64 0, .int .i64 0] 34))).mono (fun e w' h => RunF.two (b := wc.heap.size) h (HO6 _ (below_aad wc _ _)) hz6 ((Blk.new wc #[.int .i64 0, .int .i64 0, .int .i64 0, .int .i64 0] 34).kept (Below.heap_alloc _ _ _ (by simp))))
    have GV1 := hidIt gv1
    have GV2 := hidIt gv2
    have GV3 := hidIt gv3
    unfold Rfs at GV1 GV2 GV3
    clear gv1 gv2 gv3 GR HO6 hz6
    go_wp2_with fail
    go_cut [17, 18, 19] from 85 to 97 (fun v17 v18 v19 wx => ∃ (a : Option Addr) (c sb : Nat), v17 = .slice a 3 c ∧ v18 = .pointer (some ⟨sb, 0, none⟩) ∧ v19 = .int .i64 0 ∧ Fst w wx H.hb a c sb)
    case first =>
      go_region_held3 (fun X => X.cell? ⟨g, 0, none⟩ = some (.int .i64 1) ∧ X.cell? ⟨g, 1, none⟩ = some (.int .i64 4)) (first | exact ⟨x0, x1⟩ | exact HS.out _ (below_drewQ _ 1) | exact HS.out _ (below_ad _ _) | exact HS.out _ (below_aad _ _ _) | exact ⟨y0, y1⟩ | exact ⟨t0, t1⟩ | exact ⟨z0, z1⟩)
        (first
          | (go_at_call 7; with_reducible refine GV1.out.mono ?_; rintro e w7 ⟨st7, a7, c7, rfl, hs7, hz7, ht7, hf7⟩; obtain ⟨y0, y1⟩ := hs7; obtain ⟨z0, z1⟩ := hz7; obtain ⟨t0, t1⟩ := ht7; have FI := hidIt hf7; clear hf7)
          | (go_at_call 7; with_reducible refine GV2.out.mono ?_; rintro e w7 ⟨st7, a7, c7, rfl, hs7, ⟨d0, d1, d2, d3⟩, ⟨f0, f1, f2, f3⟩, ht7, hf7⟩; obtain ⟨y0, y1⟩ := hs7; obtain ⟨t0, t1⟩ := ht7; have FI := hidIt hf7; clear hf7)
          | (go_at_call 7; with_reducible refine GV3.out.mono ?_; rintro e w7 ⟨st7, a7, c7, rfl, hs7, ⟨d0, d1, d2, d3⟩, ⟨f0, f1, f2, f3⟩, ht7, hf7⟩; obtain ⟨y0, y1⟩ := hs7; obtain ⟨t0, t1⟩ := ht7; have FI := hidIt hf7; clear hf7))
      all_goals go_wp2_with fail
      all_goals go_meet
      all_goals exact ⟨_, _, _, rfl, rfl, rfl, FI.out⟩
    case rest =>
      obtain ⟨a7, c7, sb, rfl, rfl, rfl, hf⟩ := hcut
      have GQ := hidIt hf.run
      clear hf HS GV1 GV2 GV3 x0 x1 N6 RO
      have tk5 : True := trivial
      have tk6 : True := trivial
      go_wp2_with (first
        | (go_at_call 7; refine GQ.out.mono ?_; rintro e w8 ⟨a8, c8, st8, rfl, hg⟩; have G8 := hidIt (hg.below (balloc w8 (.cells #[.int .i64 0, .int .i64 1, .int .i64 0, .int .i64 (st8 : Int)] 34))); have T8 := hidIt (Blk.new w8 #[.int .i64 0, .int .i64 1, .int .i64 0, .int .i64 (st8 : Int)] 34); clear hg GQ)
        | (go_at_call 9; clear tk5; refine (like_nil _ _ _ _).mono ?_; rintro e w' ⟨rfl, hww⟩; cases hww)
        | (go_at_call 9; clear tk6; refine (like_len _ _ _ _ 0 1 _ _ (by decide) _).mono ?_; rintro e w' ⟨rfl, hww⟩; cases hww))
      have hv1 : NView (((w8.alloc (.cells #[.int .i64 0, .int .i64 1, .int .i64 0, .int .i64 (st8 : Int)] 34)).alloc (.cells #[.int .i64 0] 3)).alloc (.cells #[.int .i64 1, .int .i64 0, .int .i64 1] 3)) (.slice a7 3 c7) [1, 0, 1] := by
        obtain ⟨H9, st9, -, -, h3, -, -⟩ := G8.out
        exact NOwn.view (own_below (own_below h3 (balloc _ _)) (balloc _ _))
      have hv2 : NView (((w8.alloc (.cells #[.int .i64 0, .int .i64 1, .int .i64 0, .int .i64 (st8 : Int)] 34)).alloc (.cells #[.int .i64 0] 3)).alloc (.cells #[.int .i64 1, .int .i64 0, .int .i64 1] 3)) (.slice (some ⟨w8.heap.size + 1 + 1, 0, none⟩) 3 3) [1, 0, 1] := by
        have := NOwn.view (nown_three ((w8.alloc (.cells #[.int .i64 0, .int .i64 1, .int .i64 0, .int .i64 (st8 : Int)] 34)).alloc (.cells #[.int .i64 0] 3)) 1 0 1)
        simp only [World.size_alloc] at this
        exact this
      refine (nsame_any _ _ [1, 0, 1] _ hv1 hv2).mono ?_
      rintro e w9 ⟨rfl, hb9⟩
      have hb8 := ((balloc (w8.alloc (.cells #[.int .i64 0, .int .i64 1, .int .i64 0, .int .i64 (st8 : Int)] 34)) (.cells #[.int .i64 0] 3)).trans ((balloc _ (.cells #[.int .i64 1, .int .i64 0, .int .i64 1] 3)).mono (balloc _ _).size)).trans (hb9.mono (Nat.le_trans (balloc _ _).size (balloc _ _).size))
      have G9 := G8.out.below hb8
      have T9 := T8.out.kept (hb8.block _ T8.out.lt)
      obtain ⟨H9, st9, k1, k2, k3, k4, k5⟩ := G9
      have c0 : w9.cell? ⟨sb, 0, none⟩ = some (.int .i64 1) := k4.cell 0
      have c1 : w9.cell? ⟨sb, 1, none⟩ = some (.int .i64 1) := k4.cell 1
      have c2 : w9.cell? ⟨sb, 2, none⟩ = some (.int .i64 4) := k4.cell 2
      have d0 : w9.cell? ⟨w8.heap.size, 0, none⟩ = some (.int .i64 0) := T9.cell 0
      have d1 : w9.cell? ⟨w8.heap.size, 1, none⟩ = some (.int .i64 1) := T9.cell 1
      have gu := used_any k1
      unfold HB.ptr at gu
      rw [k2] at gu
      have GU := hidIt gu
      have GK := hidIt (gknown_any w9)
      have HB9 := hidIt k5
      clear gu hv1 hv2 hb9 hb8 T9 T8 G8 k1 k2 k3 k4 k5
      go_wp2_with (first
        | (go_at_call 11; refine GU.out.mono ?_; rintro e w' ⟨rfl, hww⟩; cases hww; clear GU)
        | (go_at_call 12; refine GK.out.mono ?_; rintro e wz ⟨rfl, hbz⟩; have HBz := hidIt (HB9.out.trans (hbz.mono HB9.out.size)); clear hbz GK))
      go_ret
      exact ⟨rfl, HBz.out⟩
end Go.Proofs.Ytbdeflpjplhafaa.J
