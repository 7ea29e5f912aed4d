/- roots of stage 14's statements: walked. -/
import Derived.Test.YtbdeflpjplhafaaVH
import Derived.Test.YtbdeflpjplhafaaJOp
import Derived.Test.YtbdeflpjplhafaaVL
import Derived.Test.YtbdeflpjplhafaaVI
namespace Go.Proofs.Ytbdeflpjplhafaa.J
open Go.RowKit Go.MapKept Go.ChangeMaps
set_option linter.unusedVariables false

def rootV (refs : List Int) (x : Int) : Int := if x < 0 ∨ refs.length = 0 then 0 else (refs[x.toNat % refs.length]?).getD 0
def rootsT (r refs : List Int) (k : Nat) : List Int := (r.take k).map (rootV refs)
def rootsL (r refs : List Int) : List Int := rootsT r refs (min r.length 12)
theorem rootsT_len (r refs : List Int) (k : Nat) : (rootsT r refs k).length ≤ k := by simp [rootsT]; omega
theorem rootsT_snoc {r refs : List Int} {k : Nat} {x : Int} (hx : r[k]? = some x) : rootsT r refs (k + 1) = rootsT r refs k ++ [rootV refs x] := by
  unfold rootsT
  rw [take_snoc hx, List.map_append]
  rfl
variable {w W : World} {r refs : List Int}
set_option maxRecDepth 8000 in
set_option maxHeartbeats 2000000 in
theorem roots_any (vl vr : Value) (hl : NView w vl r) (hr : NView w vr refs) (hrl : refs.length ≤ 100000) :
    Calls Try.prog 13 #[vl, vr] w fun e w' => ∃ v, e = .returned v ∧ NOwn w' w.heap.size v (rootsL r refs) ∧ Below w.heap.size w w' := by
  have HL := hidIt hl
  have HR := hidIt hr
  obtain ⟨al, cl, rfl, hcl, hml, _⟩ := hl
  obtain ⟨ar, cr, rfl, hcr, hmr, _⟩ := hr
  unfold maxLen at hml hmr
  obtain ⟨N, hN⟩ : ∃ N, N = min r.length 12 := ⟨_, rfl⟩
  have hN1 : N ≤ r.length ∧ N ≤ 12 := by omega
  have HN := hidIt hN
  clear hN
  go_enter Try.func13, Try.ntmps13
  go_wp2_with fail
  go_loopw [5, 6] (fun ov iv wr => ∃ k : Nat, k ≤ N ∧ iv = .int .i64 (k : Int) ∧ NOwn wr w.heap.size ov (rootsT r refs k) ∧ Below w.heap.size w wr) (fun _ iv _ => N - (intOf iv).toNat)
  case atStart => exact ⟨0, Nat.zero_le _, rfl, NOwn.nil _ _, Below.refl _ _⟩
  case round =>
    obtain ⟨k, hk, rfl, ho, hb⟩ := hrel
    have HO := hidIt ho
    have HB := hidIt hb
    obtain ⟨ao, co, rfl⟩ := own_slice ho
    have hz : w.heap.size ≤ wr.heap.size := hb.size
    have hacc : (rootsT r refs k).length ≤ 100000 := by have := rootsT_len r refs k; omega
    by_cases hlt : k < N
    · have h1 : (k : Int) < (r.length : Int) := by omega
      have h2 : (k : Int) < 12 := by omega
      obtain ⟨x, hx⟩ : ∃ x, r[k]? = some x := ⟨r[k]'(by omega), List.getElem?_eq_getElem (by omega)⟩
      obtain ⟨g, off, rfl, c0⟩ := (HL.out.below hb).row hx
      have NX : Hid (∀ W v, NOwn W w.heap.size v (rootsT r refs k ++ [rootV refs x]) → NOwn W w.heap.size v (rootsT r refs (k + 1))) := hidIt (fun W v h => by
        rw [rootsT_snoc hx]
        exact h)
      by_cases h0 : x < 0 ∨ refs.length = 0
      · have e1 : rootV refs x = 0 := by unfold rootV; rw [if_pos h0]
        rw [e1] at NX
        clear ho hb hx e1
        generalize rootsT r refs k = acc at *
        rcases (show x < 0 ∨ (¬ x < 0 ∧ refs.length = 0) by omega) with h0 | ⟨hx0, h0⟩
        · go_wp2_with (at_builtin; refine wpList_nappend rfl _ _ rfl w.heap.size _ _ _ HO.out rfl rfl (by omega) hz ?_; intro ao4 cap4 w2 ho2 st2; have HB3 := hidIt ((HB.out.trans ((balloc _ _).mono hz)).trans (st2.below (Nat.le_trans hz (balloc _ _).size) (fun k hk => (HO.out.lt k hk).1))); have HO2 := hidIt (NX.out _ _ ho2); clear ho2 st2)
          exact ⟨⟨k + 1, by omega, by go_num, HO2.out, HB3.out⟩, by simp [intOf]; omega⟩
        · have h0i : (refs.length : Int) = 0 := by omega
          go_wp2_with (at_builtin; refine wpList_nappend rfl _ _ rfl w.heap.size _ _ _ HO.out rfl rfl (by omega) hz ?_; intro ao4 cap4 w2 ho2 st2; have HB3 := hidIt ((HB.out.trans ((balloc _ _).mono hz)).trans (st2.below (Nat.le_trans hz (balloc _ _).size) (fun k hk => (HO.out.lt k hk).1))); have HO2 := hidIt (NX.out _ _ ho2); clear ho2 st2)
          all_goals exact ⟨⟨k + 1, by omega, by go_num, HO2.out, HB3.out⟩, by simp [intOf]; omega⟩
      · have hx0 : ¬ x < 0 := by omega
        have hl0 : ¬ (refs.length : Int) = 0 := by omega
        obtain ⟨tn, rfl⟩ : ∃ tn : Nat, x = (tn : Int) := ⟨x.toNat, by omega⟩
        have hj : tn % refs.length < refs.length := Nat.mod_lt _ (by omega)
        obtain ⟨y, hy⟩ : ∃ y, refs[tn % refs.length]? = some y := ⟨refs[tn % refs.length], List.getElem?_eq_getElem hj⟩
        have e1 : rootV refs (tn : Int) = y := by unfold rootV; rw [if_neg h0, Int.toNat_natCast, hy]; rfl
        have hmod : (tn : Int).tmod (refs.length : Int) = ((tn % refs.length : Nat) : Int) := by rw [Int.tmod_eq_emod_of_nonneg (by omega)]; omega
        obtain ⟨g2, off2, rfl, c1⟩ := (HR.out.below hb).row hy
        rw [e1] at NX
        clear ho hb hx e1 hy h0
        generalize rootsT r refs k = acc at *
        generalize tn % refs.length = tj at *
        have hj' : (tj : Int) < (refs.length : Int) := by omega
        go_wp2_with (at_builtin; refine wpList_nappend rfl _ _ rfl w.heap.size _ _ _ HO.out rfl rfl (by omega) hz ?_; intro ao4 cap4 w2 ho2 st2; have HB3 := hidIt ((HB.out.trans ((balloc _ _).mono hz)).trans (st2.below (Nat.le_trans hz (balloc _ _).size) (fun k hk => (HO.out.lt k hk).1))); have HO2 := hidIt (NX.out _ _ ho2); clear ho2 st2)
        exact ⟨⟨k + 1, by omega, by go_num, HO2.out, HB3.out⟩, by simp [intOf]; omega⟩
    · have hkN : k = N := by omega
      have he : rootsT r refs k = rootsL r refs := by
        unfold rootsL
        rw [hkN, HN.out]
      rw [he] at HO ⊢
      have hcs : ¬ (k : Int) < (r.length : Int) ∨ ((k : Int) < (r.length : Int) ∧ ¬ (k : Int) < 12) := by have := HN.out; omega
      clear ho hb he hkN HN hlt hk hN1
      rcases hcs with h1 | ⟨h1, h2⟩
      · go_wp2_with fail
        go_ret
        exact ⟨_, rfl, HO.out, HB.out⟩
      · go_wp2_with fail
        go_ret
        exact ⟨_, rfl, HO.out, HB.out⟩
end Go.Proofs.Ytbdeflpjplhafaa.J
namespace Go.Proofs.Ytbdeflpjplhafaa.J
open Go.ChangeShapes Go.WideShapes Go.ChangeAt Go.RowKit Go.Deep

theorem celNi : Try.prog.cellsOf 24 = 1 := by kernel_rfl
theorem celNd : Try.prog.cellsOf 28 = 3 := by kernel_rfl
set_option maxRecDepth 20000 in
theorem trod_nums {H : Type} {enc : TypeId × Value → H} {W : World} {fuel : Nat} {cs : List Value} {y : DataW H × List MemPlace}
    (ht : DataW.trod enc Try.prog W 0 (fun _ => true) true fuel 24 cs = some y) : ∃ l v, cs = [v] ∧ NView W v l := by
  obtain ⟨ao, c, l, rfl, h1, h2, rows, h3, h4⟩ := trod_list (R := fun _ r x => r = [Value.int .i64 x]) Try.underlying24 cells3 (by decide) (fun n cs y ht => by
    obtain ⟨n0, e0, -, -⟩ := DataW.trod_int Try.underlying3 ht
    exact ⟨n0, e0⟩) ht
  refine ⟨l, _, rfl, ao, c, rfl, h1, h2, ?_⟩
  by_cases h0 : l = []
  · exact .inl h0
  · obtain ⟨b, off, e, hlt, hc⟩ := h3 (by cases l; exact absurd rfl h0; simp)
    refine .inr ⟨b, off, e, fun j x hj => ?_⟩
    have := hc j (List.getElem?_eq_some_iff.1 hj).1 0 (.int .i64 x) (by rw [h4 j x hj]; rfl)
    simpa using this
def NodeR (w : World) (r : List Value) (x : Nd) : Prop := ∃ v, r = [.int .i64 x.sh, .int .i64 x.n, v] ∧ NView w v x.ts
set_option maxRecDepth 20000 in
theorem trod_node {H : Type} {enc : TypeId × Value → H} {W : World} (fuel : Nat) (cs : List Value) (y : DataW H × List MemPlace)
    (ht : DataW.trod enc Try.prog W 0 (fun _ => true) true fuel 28 cs = some y) : ∃ x : Nd, NodeR W cs x := by
  obtain ⟨xs, n, -, -, hl, hxl, hall⟩ := DataW.trod_struct Try.underlying28 ht
  rw [celNd] at hl
  have hxl5 : xs.length = 3 := by simpa using hxl
  match cs, hl with
  | [k0, k1, k2], _ =>
    match xs, hxl5 with
    | [x0, x1, x2], _ =>
      have t0 : DataW.trod enc Try.prog W 0 (fun _ => true) true n 3 [k0] = some x0 := by simpa [cells3] using hall 0 _ rfl
      have t1 : DataW.trod enc Try.prog W 0 (fun _ => true) true n 3 [k1] = some x1 := by simpa [cells3] using hall 1 _ rfl
      have t2 : DataW.trod enc Try.prog W 0 (fun _ => true) true n 24 [k2] = some x2 := by simpa [celNi] using hall 2 _ rfl
      obtain ⟨n0, e0, -, -⟩ := DataW.trod_int Try.underlying3 t0
      obtain ⟨n1, e1, -, -⟩ := DataW.trod_int Try.underlying3 t1
      obtain ⟨l, v, e2, hv⟩ := trod_nums t2
      simp only [List.cons.injEq, and_true] at e0 e1 e2
      subst e0 e1 e2
      exact ⟨⟨n0, n1, l⟩, _, rfl, hv⟩
set_option maxRecDepth 20000 in
theorem open_nodes {H : Type} {enc : TypeId × Value → H} {W : World} {base : Nat} {v : Value} {d : DataW H} {p : List MemPlace} (hval : Value.okWide Try.prog W .any base 29 v)
    (h : DataW.Trod enc Try.prog W 0 (fun _ => true) true 29 v d p) : ∃ xs, NdV W v xs := by
  obtain ⟨a, len, cap, rfl⟩ := okWide_slice Try.underlying29 hval
  obtain ⟨fuel, hf⟩ := h
  obtain ⟨ao, c, l, e, h1, h2, rows, h3, h4⟩ := trod_list (R := NodeR) Try.underlying29 celNd (by decide) trod_node hf
  simp [Value.cells] at e
  obtain ⟨rfl, rfl, rfl⟩ := e
  refine ⟨l, a, cap, rfl, h1, h2, ?_⟩
  by_cases h0 : l = []
  · exact .inl h0
  · obtain ⟨b, off, e, hlt, hc⟩ := h3 (by cases l; exact absurd rfl h0; simp)
    refine .inr ⟨b, off, e, fun j x hj => ?_⟩
    obtain ⟨u, e1, e2⟩ := h4 j x hj
    have hj' := (List.getElem?_eq_some_iff.1 hj).1
    exact ⟨by simpa using hc j hj' 0 (.int .i64 x.sh) (by rw [e1]; rfl), hc j hj' 1 _ (by rw [e1]; rfl), u, hc j hj' 2 _ (by rw [e1]; rfl), e2⟩
end Go.Proofs.Ytbdeflpjplhafaa.J
namespace Go.Proofs.Ytbdeflpjplhafaa.J
open Go.RowKit Go.MapKept Go.ChangeMaps
set_option linter.unusedVariables false

theorem rise_ext : ∀ (a b : List Int), a.Pairwise (· < ·) → b.Pairwise (· < ·) → (∀ x, x ∈ a ↔ x ∈ b) → a = b
  | [], [], _, _, _ => rfl
  | [], y :: b, _, _, h => by have := (h y).2 List.mem_cons_self; simp at this
  | x :: a, [], _, _, h => by have := (h x).1 List.mem_cons_self; simp at this
  | x :: a, y :: b, ha, hb, h => by
    obtain ⟨a1, a2⟩ := List.pairwise_cons.1 ha
    obtain ⟨b1, b2⟩ := List.pairwise_cons.1 hb
    have hxy : x = y := by
      have h1 := (h x).1 List.mem_cons_self
      have h2 := (h y).2 List.mem_cons_self
      rcases List.mem_cons.1 h1 with e | e
      · exact e
      · rcases List.mem_cons.1 h2 with e2 | e2
        · exact e2.symm
        · have := b1 x e; have := a1 y e2; omega
    subst hxy
    rw [rise_ext a b a2 b2 fun z => ?_]
    constructor
    · intro hz
      have := (h z).1 (List.mem_cons_of_mem _ hz)
      rcases List.mem_cons.1 this with e | e
      · have := a1 z hz; omega
      · exact e
    · intro hz
      have := (h z).2 (List.mem_cons_of_mem _ hz)
      rcases List.mem_cons.1 this with e | e
      · have := b1 z hz; omega
      · exact e
variable {ss : List (List Bool)} {l : List Ob} {roots : List Int} {K K' : List (Nat × Ob)}
theorem KOk.keys (h : KOk l K) : (keysK K).Pairwise (· < ·) := by
  unfold keysK
  rw [List.pairwise_map]
  exact h.rise.imp fun {a b} h => by omega
theorem rch_in {C : List Int} (h1 : ∀ x ∈ roots, x = 0 ∨ x ∈ C) (h2 : ∀ x ∈ C, ∀ o, objZ l x = some o → ∀ y ∈ refsN ss o o.f.length, y = 0 ∨ y ∈ C) {x : Int} (h : Rch ss l roots x) : x ∈ C := by
  induction h with
  | root hx h0 => exact (h1 _ hx).resolve_left h0
  | step hx ho hy hr h0 ih => exact (h2 _ ih _ ho _ (refsN_has hy hr (List.getElem?_eq_some_iff.1 hy).1)).resolve_left h0
def xs3 : List Nd := [⟨1, 0, [1]⟩, ⟨1, 0, [0]⟩, ⟨0, 0, []⟩]
def gr3 : List Ob := [⟨1, 1, [5]⟩, ⟨1, 2, [1]⟩, ⟨0, 3, []⟩]
theorem graph3 : graphL xs3 = gr3 := rfl
theorem keys3 (h : RchK shp4 gr3 [5, 0] K) : keysK K = [1, 5] := by
  refine rise_ext _ _ h.ok.keys (by decide) fun x => ?_
  rw [h.iff]
  constructor
  · refine rch_in (by decide) fun x hx o ho => ?_
    simp only [List.mem_cons, List.not_mem_nil, or_false] at hx
    rcases hx with rfl | rfl
    · have : objZ gr3 1 = some ⟨1, 1, [5]⟩ := rfl
      rw [this] at ho; cases ho
      decide
    · have : objZ gr3 5 = some ⟨1, 2, [1]⟩ := rfl
      rw [this] at ho; cases ho
      decide
  · intro hx
    have h5 : Rch shp4 gr3 [5, 0] 5 := .root (by decide) (by decide)
    simp only [List.mem_cons, List.not_mem_nil, or_false] at hx
    rcases hx with rfl | rfl
    · exact .step (n := 0) h5 (show objZ gr3 5 = some ⟨1, 2, [1]⟩ from rfl) rfl rfl (by decide)
    · exact h5
def lay3 (w : World) : World := (((w.alloc (.cells #[.int .i64 1] 3)).alloc (.cells #[.int .i64 0] 3)).alloc (.cells #[.int .i64 1, .int .i64 0, .slice (some ⟨w.heap.size, 0, none⟩) 1 1, .int .i64 1, .int .i64 0, .slice (some ⟨w.heap.size + 1, 0, none⟩) 1 1, .int .i64 0, .int .i64 0, .slice none 0 0] 28))
theorem lay3_below (w : World) : Below w.heap.size w (lay3 w) := ((balloc w (.cells #[.int .i64 1] 3)).alloc (by simp) (.cells #[.int .i64 0] 3)).alloc (by simp; omega) _
theorem nview_one {w : World} {b : Nat} {y : Int} {T : TypeId} (h : Blk w b #[.int .i64 y] T) : NView w (.slice (some ⟨b, 0, none⟩) 1 1) [y] :=
  ⟨_, _, rfl, Nat.le_refl _, by unfold maxLen; omega, .inr ⟨b, 0, rfl, fun j x hj => by
    rw [Nat.zero_add, h.cell j]
    match j, hj with
    | 0, hj => cases hj; rfl
    | j + 1, hj => simp at hj⟩⟩
theorem lay3_view (w : World) : NdV (lay3 w) (.slice (some ⟨w.heap.size + 1 + 1, 0, none⟩) 3 3) xs3 := by
  have b0 := Blk.new w #[.int .i64 1] 3
  have b1 := Blk.new (w.alloc (.cells #[.int .i64 1] 3)) #[.int .i64 0] 3
  have b2 := Blk.new ((w.alloc (.cells #[.int .i64 1] 3)).alloc (.cells #[.int .i64 0] 3)) #[.int .i64 1, .int .i64 0, .slice (some ⟨w.heap.size, 0, none⟩) 1 1, .int .i64 1, .int .i64 0, .slice (some ⟨w.heap.size + 1, 0, none⟩) 1 1, .int .i64 0, .int .i64 0, .slice none 0 0] 28
  simp only [World.size_alloc] at b1 b2
  have k1 := b0.kept (Below.heap_alloc (w.alloc (.cells #[.int .i64 1] 3)) (.cells #[.int .i64 0] 3) _ (by simp))
  have k2 := k1.kept (Below.heap_alloc _ (.cells #[.int .i64 1, .int .i64 0, .slice (some ⟨w.heap.size, 0, none⟩) 1 1, .int .i64 1, .int .i64 0, .slice (some ⟨w.heap.size + 1, 0, none⟩) 1 1, .int .i64 0, .int .i64 0, .slice none 0 0] 28) _ (by simp only [World.size_alloc]; omega))
  have m2 := b1.kept (Below.heap_alloc _ (.cells #[.int .i64 1, .int .i64 0, .slice (some ⟨w.heap.size, 0, none⟩) 1 1, .int .i64 1, .int .i64 0, .slice (some ⟨w.heap.size + 1, 0, none⟩) 1 1, .int .i64 0, .int .i64 0, .slice none 0 0] 28) _ (by simp only [World.size_alloc]; omega))
  refine ⟨_, _, rfl, by decide, by decide, .inr ⟨_, 0, rfl, fun i x hx => ?_⟩⟩
  rw [Nat.zero_add]
  match i, hx with
  | 0, hx => cases hx; exact ⟨b2.cell 0, b2.cell 1, _, b2.cell 2, nview_one k2⟩
  | 1, hx => cases hx; exact ⟨b2.cell 3, b2.cell 4, _, b2.cell 5, nview_one m2⟩
  | 2, hx => cases hx; exact ⟨b2.cell 6, b2.cell 7, _, b2.cell 8, ⟨_, _, rfl, Nat.le_refl _, by unfold maxLen; omega, .inl rfl⟩⟩
  | i + 3, hx => simp [xs3] at hx
theorem NView.take {w : World} {a : Option Addr} {n c : Nat} {l : List Int} (h : NView w (.slice a n c) l) {k : Nat} (hk : k ≤ n) : NView w (.slice a k c) (l.take k) := by
  obtain ⟨ao, cap, e, h1, h2, h3⟩ := h
  cases e
  refine ⟨a, c, by rw [List.length_take, Nat.min_eq_left hk], by rw [List.length_take]; omega, h2, ?_⟩
  rcases h3 with rfl | ⟨g, off, rfl, h4⟩
  · exact .inl (by simp)
  · exact .inr ⟨g, off, rfl, fun j x hj => by
      rw [List.getElem?_take] at hj
      split at hj
      · exact h4 j x hj
      · cases hj⟩
theorem nview_two {w : World} {b : Nat} {y z : Int} {T : TypeId} (h : Blk w b #[.int .i64 y, .int .i64 z] T) : NView w (.slice (some ⟨b, 0, none⟩) 2 2) [y, z] :=
  ⟨_, _, rfl, Nat.le_refl _, by unfold maxLen; omega, .inr ⟨b, 0, rfl, fun j x hj => by
    rw [Nat.zero_add, h.cell j]
    match j, hj with
    | 0, hj => cases hj; rfl
    | 1, hj => cases hj; rfl
    | j + 2, hj => simp at hj⟩⟩
theorem TwoV.heap {n0 : Nat} {X : Nat → Prop} {w : World} {p q most : Nat} {l m : List Ob} {ss tt : List (List Bool)} (h : TwoV n0 X w p q most l ss m tt) : ∃ H : HB, H.hb = p ∧ HeapV n0 w H most l ss := by
  obtain ⟨H, R, e1, _, hh, _⟩ := h
  exact ⟨H, e1, hh⟩
set_option maxRecDepth 8000 in
theorem gknown_any (w : World) : Calls Try.prog 12 #[] w fun e w' => e = .returned (.bool true) ∧ Below w.heap.size w w' := by
  have GB := hidIt (build_any (w := lay3 w) (most := 100) (xs := xs3) (by decide) (by decide) (by decide) _ (lay3_view w))
  have B1 := hidIt (lay3_below w)
  unfold lay3 at GB B1
  have GM : Hid (∀ w1 p q v, TwoV (lay3 w).heap.size (fun _ => False) w1 p q 100 gr3 shp4 gr3 shp4 → NOwn w1 (lay3 w).heap.size v [1, 5, 9] → RefsOk shp4 gr3 → Below w.heap.size w w1 → Calls Try.prog 6 #[.pointer (some ⟨p, 0, none⟩), .slice (some ⟨w1.heap.size, 0, none⟩) 2 2] (w1.alloc (.cells #[.int .i64 5, .int .i64 0] 3)) fun e w' => ∃ a c, e = .returned (.tuple #[.slice a 2 c, .int .i64 0]) ∧ NView w' (.slice a 2 c) [1, 5] ∧ NOwn w' (lay3 w).heap.size v [1, 5, 9] ∧ Below w.heap.size w w') := hidIt (fun w1 p q v ht hn hr hb => by
    obtain ⟨H, rfl, hh⟩ := ht.heap
    have b5 := balloc w1 (.cells #[.int .i64 5, .int .i64 0] 3)
    refine (gMark_any (roots := [5, 0]) (hh.below b5) hr _ (nview_two (Blk.new w1 #[.int .i64 5, .int .i64 0] 3)) (by decide)).mono fun e w' he => ?_
    rcases he with ⟨a, _⟩ | ⟨_, v2, e1, K, hK, hn2, hb2⟩
    · cases a
    · have hk := keys3 hK
      rw [hk] at hn2
      obtain ⟨a2, c2, rfl⟩ := own_slice hn2
      exact ⟨a2, c2, e1, NOwn.view hn2, own_below (own_below hn b5) hb2, (hb.trans (b5.mono hb.size)).trans (hb2.mono (by have := hb.size; have := b5.size; omega))⟩)
  go_enter Try.func12, Try.ntmps12
  go_wp2_with (first
    | (go_at_call 5; refine GB.out.mono ?_; rintro e w1 ⟨p, q, v, rfl, ht, hn, hr, hb⟩; rw [graph3] at ht hn hr; have GM2 := hidIt (GM.out w1 p q v ht hn hr (B1.out.trans (hb.mono B1.out.size))); obtain ⟨av, cv, rfl⟩ := own_slice hn; have hcv := own_cap hn; have hn' := hn; unfold NOwn at hn'; obtain ⟨gv, rfl, -, -, c1, -⟩ := own_cell (j := 1) hn' (icells_at (show ([1, 5, 9] : List Int)[1]? = some 5 from rfl)); clear ht hn hr hb hn' GB GM)
    | (go_at_call 6; refine GM2.out.mono ?_; rintro e w2 ⟨a2, c2, rfl, hv2, hn2, hb2⟩; have HB2 := hidIt hb2; have GS := hidIt (nsame_any _ _ [1, 5] w2 hv2 (NView.take (NOwn.view hn2) (show 2 ≤ 3 by decide))); clear hv2 hn2 hb2 GM2)
    | (go_at_call 10; refine GS.out.mono ?_; rintro e w3 ⟨rfl, hb3⟩; have HB3 := hidIt (HB2.out.trans (hb3.mono HB2.out.size)); clear hb3))
  go_ret
  exact ⟨rfl, HB3.out⟩
end Go.Proofs.Ytbdeflpjplhafaa.J
namespace Go.Proofs.Ytbdeflpjplhafaa.J
open Go.RowKit Go.MapKept Go.ChangeMaps
set_option linter.unusedVariables false

variable {ss : List (List Bool)} {l : List Ob} {roots : List Int} {K : List (Nat × Ob)} {xs : List Nd}
theorem nodup_le : ∀ (a b : List Int), a.Nodup → (∀ x ∈ a, x ∈ b) → a.length ≤ b.length
  | [], b, _, _ => by simp
  | x :: a, b, hn, hs => by
    have h1 := List.nodup_cons.1 hn
    have h2 := nodup_le a (b.erase x) h1.2 (fun y hy => by
      have hne : y ≠ x := fun e => h1.1 (e ▸ hy)
      exact (List.mem_erase_of_ne hne).2 (hs y (List.mem_cons_of_mem _ hy)))
    have h3 : (b.erase x).length = b.length - 1 := List.length_erase_of_mem (hs x List.mem_cons_self)
    have h4 : 0 < b.length := List.length_pos_of_mem (hs x List.mem_cons_self)
    simp only [List.length_cons]
    omega
theorem nodeL_tag {xs : List Nd} : ∀ (k i : Nat) (o : Ob), k ≤ xs.length → (nodeL xs k)[i]? = some o → o.tag = (i : Int) + 1
  | 0, i, o, _, h => by simp [nodeL] at h
  | k + 1, i, o, hk, h => by
    obtain ⟨x, hx⟩ : ∃ x, xs[k]? = some x := ⟨xs[k], List.getElem?_eq_getElem hk⟩
    rw [nodeL_snoc hx, List.getElem?_append] at h
    split at h
    · exact nodeL_tag k i o (by omega) h
    · rename_i hlt
      rw [nodeL_len (by omega)] at h hlt
      have h0 : i - k = 0 := by have := (List.getElem?_eq_some_iff.1 h).1; simp at this; omega
      rw [h0] at h
      obtain rfl : nodeO k x = o := by simpa using h
      show ((k : Int) + 1) = _
      omega
theorem skel_at {a b : List Ob} (h : skel a = skel b) {i : Nat} {o : Ob} (hi : a[i]? = some o) : ∃ o', b[i]? = some o' ∧ o'.sh = o.sh ∧ o'.tag = o.tag ∧ o'.f.length = o.f.length := by
  have h1 : (skel a)[i]? = some (o.sh, o.tag, o.f.length) := by simp [skel, hi]
  rw [h] at h1
  simp only [skel, List.getElem?_map, Option.map_eq_some_iff] at h1
  obtain ⟨o', e1, e2⟩ := h1
  simp only [Prod.mk.injEq] at e2
  exact ⟨o', e1, e2⟩
theorem graphL_tag {i : Nat} {o : Ob} (h : (graphL xs)[i]? = some o) : o.tag = (i : Int) + 1 := by
  obtain ⟨o', h1, -, h2, -⟩ := skel_at (graphL_skel xs) h
  rw [← h2]
  exact nodeL_tag _ i o' (by omega) h1
theorem kept_tags {i j p q : Nat} {o o' : Ob} (hK : KOk (graphL xs) K) (hi : K[i]? = some (p, o)) (hj : K[j]? = some (q, o')) (h : i < j) : o.tag < o'.tag := by
  have hpq := hK.lt hi hj h
  obtain ⟨a, ha, ea⟩ := atN_nth _ p o (hK.here hi)
  obtain ⟨b, hb, eb⟩ := atN_nth _ q o' (hK.here hj)
  rw [graphL_tag ha, graphL_tag hb]
  rcases Nat.lt_or_ge a b with h1 | h1
  · omega
  · exfalso
    rcases Nat.lt_or_ge b a with h2 | h2
    · have := usedN_lt hb ha h2
      omega
    · obtain rfl : a = b := by omega
      omega
theorem mvO_tag (ss : List (List Bool)) (K : List (Nat × Ob)) (o : Ob) : (mvO ss K o).tag = o.tag ∧ (mvO ss K o).sh = o.sh := ⟨rfl, rfl⟩
/-- A root, where it is then. -/
theorem root_moved (h : RchK ss l roots K) (hr : ∀ x ∈ roots, x = 0 ∨ (objZ l x).isSome = true) {x : Int} (hx : x ∈ roots) : tagZ (obsM ss K) (toA 0 K x.toNat) = tagZ l x ∧ (toA 0 K x.toNat == 0) = (x == 0) := by
  by_cases h0 : x = 0
  · subst h0
    rw [show (0 : Int).toNat = 0 from rfl, toA_zero l]
    exact ⟨by simp [tagZ, objZ], rfl⟩
  · have hk := (h.iff x).2 (.root hx h0)
    have hp := toA_in K 0 x hk
    obtain ⟨i, p, o, h1, h2, h3⟩ := toA_mem K 0 x.toNat (by omega)
    have hx1 := (objZ_in (h.ok.obj h1)).1
    have he : x = (p : Int) + 1 := by omega
    rw [h3, Nat.zero_add, ← usedN_obsM ss K]
    refine ⟨?_, by rw [show (x == 0) = false by simpa using h0]; exact beq_eq_false_iff_ne.2 (by omega)⟩
    unfold tagZ
    rw [objZ_nth (obsM_at h1), he, h.ok.obj h1]
    rfl
theorem rootV_ok (l : List Ob) (x : Int) : rootB l (rootV (begs 0 l) x) = true := by
  rw [rootB_iff]
  unfold rootV
  split
  · exact .inl rfl
  · rename_i h
    have hl : x.toNat % (begs 0 l).length < (begs 0 l).length := Nat.mod_lt _ (by omega)
    have hl2 : x.toNat % (begs 0 l).length < l.length := by rw [begs_len] at hl ⊢; exact hl
    rw [begs_at l 0 _ hl2, Nat.zero_add]
    right
    simp only [Option.getD_some]
    rw [objZ_nth (List.getElem?_eq_getElem hl2)]
    rfl
theorem rootsL_ok (r : List Int) (l : List Ob) : (rootsL r (begs 0 l)).all (rootB l) = true := by
  rw [List.all_eq_true]
  intro x hx
  unfold rootsL rootsT at hx
  obtain ⟨y, _, rfl⟩ := List.mem_map.1 hx
  exact rootV_ok l y
theorem rootsL_len (r refs : List Int) : (rootsL r refs).length ≤ 12 := by
  have := rootsT_len r refs (min r.length 12)
  unfold rootsL; omega
theorem obsM_len' (ss : List (List Bool)) (K : List (Nat × Ob)) : (obsM ss K).length = K.length := obsM_len ss K
/-- A list of tags in a row of one's own. -/
theorem Try.infoI8b : (Try.prog.info? 2).map (fun i => (i.zero, i.size, i.bytes)) = some (some (.int .i64 0), 1, 8) := by kernel_rfl
theorem wpList_tappend {w : World} {ops : Array Oper} {rest : List Oper} {o : Oper} {a : Act} {Q : Exit → Act → World → Prop} (hgd : o.guard = none) (s x : Operand)
    (ho : o.op = .call { callee := .builtin .append, args := #[s, x], argTypes := #[84, 84] })
    (B : Nat) (v : Value) (l : List Int) (y : Int) (hown : w.ownsRow B 2 1 v l.length (icells l)) (hs : a.eval s = v) (hx : a.eval x = .slice (some ⟨w.heap.size, 0, none⟩) 1 1)
    (hlen : l.length ≤ 10000000000000) (hB : B ≤ w.heap.size)
    (h : ∀ ao' cap' w', w'.ownsRow B 2 1 (.slice ao' (l.length + 1) cap') (l ++ [y]).length (icells (l ++ [y])) → Step v (w.alloc (.cells #[.int .i64 y] 2)) (.slice ao' (l.length + 1) cap') w' → wpList Try.prog ops Q rest (a.put o.dst (.slice ao' (l.length + 1) cap')) w') :
    wpList Try.prog ops Q (o :: rest) a (w.alloc (.cells #[.int .i64 y] 2)) := by
  obtain ⟨i0, hi, hz0, hz1, hz2⟩ := info_parts Try.infoI8b
  refine wpList_plain hgd fun K hK => ?_
  have hown' : (w.alloc (.cells #[.int .i64 y] 2)).ownsRow B 2 1 v l.length (icells l) := own_below hown (balloc w _)
  obtain ⟨v', w', hr, h2, h3, _, h4⟩ := run_append_own_at (P := Try.prog) (w.alloc (.cells #[.int .i64 y] 2)) B 84 o.type 2 i0 (.int .i64 0) 1 8 Try.underlying84 hi hz0 hz1 hz2 rfl (by decide) v l.length (icells l) hown' ⟨w.heap.size, 0, none⟩ 1 1 [.int .i64 y] rfl
    (fun j u hj => by
      have e : (⟨w.heap.size, 0, none⟩ : Addr).add j = ⟨w.heap.size, j, none⟩ := by unfold Addr.add; split <;> simp_all
      rw [e]
      have := (Blk.new w #[.int .i64 y] 2).cell j
      rw [this]
      simpa using hj) (icells_one [y]) (by unfold maxLen; omega) (by omega) (by simp; omega)
  unfold Oper.wp execOp
  simp only [ho, resolve, invoke, builtin, Sem.run_bind, Sem.run_pure, Result.andThen_ok, List.map_toArray, List.map_cons, List.map_nil, hs, hx, hr]
  obtain ⟨ao', cap', rfl⟩ := own_slice h2
  refine hK _ _ (h ao' cap' w' ?_ ⟨h3, h4.imp id fun e => ⟨_, e, Nat.le_refl _⟩⟩)
  rw [show icells (l ++ [y]) = icells l ++ [.int .i64 y] by simp [icells], List.length_append]
  exact h2
end Go.Proofs.Ytbdeflpjplhafaa.J

