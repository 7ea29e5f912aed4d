/- Run of package collect: walked. -/
import Derived.Test.YtbdeflpjplhafaaVH
import Derived.Test.YtbdeflpjplhafaaJOp
import Derived.Deep.RegionLaw
import Derived.Deep.WholeRow
namespace Go.Proofs.Ytbdeflpjplhafaa.J
open Go.RowKit Go.MapKept Go.ChangeMaps
set_option linter.unusedVariables false

theorem results_mid {fn : Func} {p t1 t2 : Tmp} {ty : TypeId} (h : fn.results = #[.tmp t1, .cell p ty, .tmp t2]) (tmps : Array Value) (w : World) (g : Nat) (t : TypeId) (cs : Array Value) (fr : Nat × Nat) (d : TypeDesc)
    (hp : tmps.getD p undef = .pointer (some ⟨g, 0, none⟩)) (hg : w.heap[g]? = some (.cells cs t fr))
    (hu : Try.prog.underlying ty = some d) (hd : (match d with | .struct _ | .array _ _ => true | _ => false) = true) (hi : (Try.prog.info? ty).map (·.size) = some cs.size) :
    (results fn tmps).run Try.prog w = .ok (.tuple #[tmps.getD t1 undef, .agg cs, tmps.getD t2 undef]) w := by
  have hp' : tmps[p]?.getD undef = .pointer (some ⟨g, 0, none⟩) := by simpa using hp
  have hL := run_loadVar_row (P := Try.prog) w g t ty cs fr d hg hu (by cases d <;> simp_all) hi
  simp [results, h, hp', asAddr, hL, Result.andThen]
variable {n0 : Nat} {w W : World} {H : HB} {most : Nat} {l : List Ob} {ss : List (List Bool)} {roots : List Int}
theorem NOwn.shape {v : Value} {B n : Nat} {xs : List Int} (h : NOwn w B v xs) (hn : xs.length = n) : ∃ a c, v = .slice a n c := by
  obtain ⟨a, c, e⟩ := own_slice h
  rw [hn] at e
  exact ⟨a, c, e⟩
theorem begs_obs_len (K : List (Nat × Ob)) : (begs 0 (obsK K)).length = K.length := by rw [begs_len, obsK_len]
theorem slide_then {K : List (Nat × Ob)} (h : HeapV n0 w H most l ss) (hr : RefsOk ss l) (hK : RchK ss l roots K) (vk : Value) (hv : KV w H vk (keysK K)) :
    Calls Try.prog 33 #[H.ptr, vk] w fun e w' => ∃ v, e = .returned (.tuple #[v, .int .i64 0]) ∧ SlQ n0 w H most ss K v w' :=
  (Slide_any h hr hK.ok vk hv).mono fun e w' he => by
    rcases he with ⟨a, _⟩ | ⟨_, b⟩
    · rw [hK.lead] at a; cases a
    · exact b
theorem usedN_obsM' (ss : List (List Bool)) (K : List (Nat × Ob)) : usedN (obsM ss K) = usedN (obsK K) := by
  have := usedN_obsM ss K K.length
  rwa [show (obsK K).take K.length = obsK K by rw [← obsK_len, List.take_length], show (obsM ss K).take K.length = obsM ss K by rw [← obsM_len ss K, List.take_length]] at this
theorem pairA_len : ∀ (l : List Ob) (p : Nat), (pairA p l).length = l.length
  | [], p => rfl
  | o :: l, p => by simp [pairA, pairA_len l]
theorem markK_len (R : List Bool) (l : List Ob) : (markK R l).length ≤ l.length := by
  have := List.length_filter_le (fun x : Nat × Ob => mkB R ((x.1 : Int) + 1)) (pairA 0 l)
  rw [pairA_len] at this
  exact this
/-- What Run leaves, and answers. -/
def RunQ (n0 : Nat) (w : World) (H : HB) (most : Nat) (ss : List (List Bool)) (l : List Ob) (roots : List Int) (e : Ending) (w' : World) : Prop :=
  ∃ (K : List (Nat × Ob)) (v : Value) (st : Nat) (H' : HB), RchK ss l roots K ∧ e = .returned (.tuple #[v, .agg #[.int .i64 (K.length : Int), .int .i64 ((l.length : Int) - (K.length : Int)), .int .i64 (usedN (obsK K) : Int), .int .i64 (st : Int)], .int .i64 0]) ∧ st ≤ 2 * roots.length + usedN l + l.length + usedN (obsK K) ∧ NOwn w' w.heap.size v (movedL K roots) ∧ HeapV n0 w' H' most (obsM ss K) ss ∧ HStep H H' w w'
theorem HeapV.not (h : HeapV n0 w H most l ss) {b : Nat} (hb : w.heap.size ≤ b) : ¬ H.has b := fun e => by have := (h.lt e).2; omega
def set4 (w : World) (g : Nat) (a b c d : Value) : World := (((w.setCell ⟨g, 0, none⟩ a).setCell ⟨g, 1, none⟩ b).setCell ⟨g, 2, none⟩ c).setCell ⟨g, 3, none⟩ d
theorem set4_other (w : World) (g : Nat) (a b c d : Value) {k : Nat} (h : k ≠ g) : (set4 w g a b c d).heap[k]? = w.heap[k]? :=
  (heap_setCell_other _ ⟨g, 3, none⟩ k _ h).trans ((heap_setCell_other _ ⟨g, 2, none⟩ k _ h).trans ((heap_setCell_other _ ⟨g, 1, none⟩ k _ h).trans (heap_setCell_other _ ⟨g, 0, none⟩ k _ h)))
theorem set4_blk {w : World} {g : Nat} {x y z u : Value} {T : TypeId} (h : Blk w g #[x, y, z, u] T) (a b c d : Value) : Blk (set4 w g a b c d) g #[a, b, c, d] T := by
  have := (((h.set 0 a).set 1 b).set 2 c).set 3 d
  unfold set4
  simpa using this
theorem set4_size (w : World) (g : Nat) (a b c d : Value) : (set4 w g a b c d).heap.size = w.heap.size := by simp [set4]
theorem run_fin {w4 w5 w8 : World} {H5 : HB} {l5 : List Ob} (h0 : HeapV n0 w H most l ss) (hb4 : Below w.heap.size w w4) (hlt : w.heap.size < w4.heap.size) (hs5 : HStep H H5 w4 w5) (hh5 : HeapV n0 w5 H5 most l5 ss) (hb8 : Below w5.heap.size w5 w8) (a b c d : Value) :
    HeapV n0 (set4 w8 w.heap.size a b c d) H5 most l5 ss ∧ HStep H H5 w (set4 w8 w.heap.size a b c d) := by
  have hsz := hs5.size
  have h8 := hb8.size
  refine ⟨(hh5.below hb8).kept fun k hk => set4_other _ _ _ _ _ _ (fun e => ?_), ⟨hb8.os.trans (hs5.os.trans hb4.os), hb8.tape.trans (hs5.tape.trans hb4.tape), hb8.output.trans (hs5.output.trans hb4.output), by rw [set4_size]; omega, fun k hk hn => ?_, hs5.hb, fun k hk => (hs5.moved k hk).imp id (fun h => by omega)⟩⟩
  · rcases hs5.moved k hk with h | h
    · have := (h0.lt h).2; omega
    · omega
  · exact (set4_other _ _ _ _ _ _ (by omega)).trans ((hb8.block k (by omega)).trans ((hs5.block k (by omega) hn).trans (hb4.block k hk)))
set_option maxRecDepth 8000 in
set_option maxHeartbeats 4000000 in
theorem gRun_any (h : HeapV n0 w H most l ss) (hr : RefsOk ss l) {B : Nat} (vk : Value) (hv : NOwn w B vk roots) (hrl : roots.length ≤ 1000000000000) (ha : roots.all (rootB l) = true) :
    Calls Try.prog 7 #[H.ptr, vk] w fun e w' => RunQ n0 w H most ss l roots e w' := by
  have hm2 : usedN l ≤ 16384 := Nat.le_trans h.few h.most
  have hge := usedN_ge l
  obtain ⟨ar, cr, rfl⟩ := own_slice hv
  have hrc := own_cap hv
  have B1 : Below w.heap.size w (w.alloc (.cells #[.int .i64 0, .int .i64 0, .int .i64 0, .int .i64 0] 34)) := balloc w _
  have Y1 := Blk.new w #[.int .i64 0, .int .i64 0, .int .i64 0, .int .i64 0] 34
  have h1 := h.below B1
  have v1 : NOwn _ B (.slice ar roots.length cr) roots := own_below hv B1
  have hs1 : (w.alloc (.cells #[.int .i64 0, .int .i64 0, .int .i64 0, .int .i64 0] 34)).heap.size = w.heap.size + 1 := by simp
  have G1 : Hid (Calls Try.prog 31 #[H.ptr, .slice ar roots.length cr] (w.alloc (.cells #[.int .i64 0, .int .i64 0, .int .i64 0, .int .i64 0] 34)) fun e w' => ∃ mb, e = .returned (.tuple #[.pointer (some ⟨mb, 0, none⟩), .int .i64 0]) ∧ MkQ (w.alloc (.cells #[.int .i64 0, .int .i64 0, .int .i64 0, .int .i64 0] 34)) mb H.hb ss l roots w') := hidIt ((gmark_any h1 hr _ (NOwn.view v1) (by omega)).mono (fun e w' he => by
    rcases he with ⟨a, _⟩ | ⟨_, a⟩
    · rw [ha] at a; cases a
    · exact a))
  have HH := hidIt h1
  have HV := hidIt v1
  have HR := hidIt hr
  have HA := hidIt ha
  have HB1 := hidIt B1
  have HY1 := hidIt Y1
  have h0 := hidIt h
  clear h hr hv ha h1 v1 B1 Y1
  unfold HB.ptr at *
  go_enter Try.func7, Try.ntmps7
  go_wp2_with fail
  generalize w.alloc (.cells #[.int .i64 0, .int .i64 0, .int .i64 0, .int .i64 0] 34) = w1 at *
  go_wp2_with (first
    | (go_at_call 31; refine G1.out.mono ?_; rintro e w2 ⟨mb, rfl, qb, R, lv, st, m, g, hb⟩; have M2 := hidIt m; have GM := hidIt g; have HB2 := hidIt hb; have GL := hidIt (glist_any HH.out m hb g.len); have HK := hidIt g.kept.1; have hst := g.few.2; have hKl := markK_len R l; have hKu := g.kept.1.ok.within; clear m g hb G1 GM; generalize markK R l = K at *)
    | (go_at_call 32; refine GL.out.mono ?_; rintro e w3 ⟨vk, rfl, hn, hb⟩; obtain ⟨ak, ck, rfl⟩ := hn.shape (keysK_len _); have HN := hidIt hn; have HB3 := hidIt (HB2.out.trans (hb.mono HB2.out.size)); have M3 := hidIt (M2.out.below hb); have GA := hidIt (All_any (HH.out.below HB3.out)); clear hn hb GL)
    | (go_at_call 14; refine GA.out.mono ?_; rintro e w4 ⟨va, rfl, hn2, hb⟩; obtain ⟨aa, ca, rfl⟩ := hn2.shape (begs_len _ _); clear hn2; have HN3 := hidIt (own_below HN.out hb); have HB4 := hidIt (HB3.out.trans (hb.mono HB3.out.size)); have M4 := hidIt (M3.out.below hb); have H4 := HH.out.below HB4.out; have GS := hidIt (slide_then H4 HR.out HK.out _ (KV.of_own H4.raw HN3.out)); clear hb GA H4)
    | (go_at_call 33; refine GS.out.mono ?_; rintro e w5 ⟨vn, rfl, H5, hn5, hh5, hs5⟩; obtain ⟨an, cn, rfl⟩ := hn5.shape (begs_obs_len _); have HN5 := hidIt hn5; have HH5 := hidIt hh5; have HS5 := hidIt hs5; have GU := used_any hh5; unfold HB.ptr at GU; rw [hs5.hb] at GU; rw [usedN_obsM'] at GU; replace GU := hidIt GU; clear hn5 hh5 hs5)
    | (go_at_call 11; refine GU.out.mono ?_; rintro e w' ⟨rfl, hww⟩; cases hww))
  have c3 : w5.cell? ⟨mb, 3, none⟩ = some (.int .i64 (st : Int)) := by
    have h4 := HH.out.below HB4.out
    have : w5.heap[mb]? = w4.heap[mb]? := HS5.out.block _ M4.out.box.lt (fun e => by
      rcases e with e | e | e | e | e
      · have := HH.out.box.lt; have := M4.out.lo; omega
      · have := HH.out.map.lt; have := M4.out.lo; omega
      · have := (HH.out.wo.lt _ e).2; have := M4.out.lo; omega
      · have := (HH.out.bo.lt _ e).2; have := M4.out.lo; omega
      · have := (HH.out.so.lt _ e).2; have := M4.out.lo; omega)
    exact (M4.out.box.kept this).cell 3
  have Z6 := Blk.new w5 #[.int .i64 (K.length : Int), .int .i64 ((l.length : Int) - (K.length : Int)), .int .i64 (usedN (obsK K) : Int), .int .i64 0] 34
  have B6 := balloc w5 (.cells #[.int .i64 (K.length : Int), .int .i64 ((l.length : Int) - (K.length : Int)), .int .i64 (usedN (obsK K) : Int), .int .i64 0] 34)
  generalize w5.alloc (.cells #[.int .i64 (K.length : Int), .int .i64 ((l.length : Int) - (K.length : Int)), .int .i64 (usedN (obsK K) : Int), .int .i64 0] 34) = w6 at *
  have x3 : w6.cell? ⟨mb, 3, none⟩ = some (.int .i64 (st : Int)) := by
    rw [B6.cell (p := ⟨mb, 3, none⟩) (cell_lt c3)]; exact c3
  have x2 : w6.cell? ⟨w5.heap.size, 2, none⟩ = some (.int .i64 (usedN (obsK K) : Int)) := Z6.cell 2
  have x4 : w6.cell? ⟨w5.heap.size, 3, none⟩ = some (.int .i64 0) := Z6.cell 3
  have f3 : w6.frozen? ⟨w5.heap.size, 3, none⟩ = false := Z6.frozen 3
  have Z7 := hidIt (Z6.set 3 (.int .i64 ((st : Int) + (l.length : Int) + (usedN (obsK K) : Int) + (roots.length : Int))))
  have B7 := hidIt (B6.setCell (p := ⟨w5.heap.size, 3, none⟩) (Nat.le_refl _) (.int .i64 ((st : Int) + (l.length : Int) + (usedN (obsK K) : Int) + (roots.length : Int))))
  have hst2 : (st : Int) ≤ 1000000016384 := by omega
  have hl2 : (l.length : Int) ≤ 16384 := by omega
  have hu2 : (usedN (obsK K) : Int) ≤ 16384 := by omega
  have hr2 : (roots.length : Int) ≤ 1000000000000 := by omega
  clear Z6 B6 c3 GS GU
  go_region
  have Z8 : Blk (w6.setCell ⟨w5.heap.size, 3, none⟩ (.int .i64 ((st : Int) + (l.length : Int) + (usedN (obsK K) : Int) + (roots.length : Int)))).drew w5.heap.size #[.int .i64 (K.length : Int), .int .i64 ((l.length : Int) - (K.length : Int)), .int .i64 (usedN (obsK K) : Int), .int .i64 ((st : Int) + (l.length : Int) + (usedN (obsK K) : Int) + (roots.length : Int))] 34 := Z7.out
  have B8 : Below w5.heap.size w5 (w6.setCell ⟨w5.heap.size, 3, none⟩ (.int .i64 ((st : Int) + (l.length : Int) + (usedN (obsK K) : Int) + (roots.length : Int)))).drew := ⟨B7.out.os, B7.out.tape, B7.out.output, B7.out.size, B7.out.block⟩
  clear x3 x2 x4 f3 Z7 B7
  generalize (w6.setCell ⟨w5.heap.size, 3, none⟩ (.int .i64 ((st : Int) + (l.length : Int) + (usedN (obsK K) : Int) + (roots.length : Int)))).drew = w7 at *
  have hnot : ∀ b, w1.heap.size ≤ b ∨ b = w.heap.size → ¬ H.has b := fun b hb e => by
    rcases hb with hb | rfl
    · exact HH.out.not hb e
    · exact h0.out.not (Nat.le_refl _) e
  have Y8 : Blk w7 w.heap.size #[.int .i64 0, .int .i64 0, .int .i64 0, .int .i64 0] 34 := by
    have y4 := HY1.out.kept (HB4.out.block _ (by omega))
    have y5 := y4.kept (HS5.out.block _ y4.lt (hnot _ (.inr rfl)))
    exact y5.kept (B8.block _ y5.lt)
  have hv4 : NOwn w4 B (.slice ar roots.length cr) roots := own_below HV.out HB4.out
  have H4 := HH.out.below HB4.out
  have hv7 : NOwn w7 B (.slice ar roots.length cr) roots := own_below (HStep.own H4.raw HS5.out (by unfold OT; decide) hv4) B8
  have hk7 : NOwn w7 w2.heap.size (.slice ak K.length ck) (keysK K) := own_below (HStep.own H4.raw HS5.out (by unfold OT; decide) HN3.out) B8
  have hn7 := own_below HN5.out B8
  have GM : Hid (Calls Try.prog 34 #[.slice ar roots.length cr, .slice ak K.length ck, .slice an K.length cn] w7.drew fun e w' => ∃ v, e = .returned v ∧ NOwn w' w7.heap.size v (movedL K roots) ∧ Below w7.heap.size w7 w') := hidIt ((moved_any (w := w7.drew) HK.out.ok hm2 _ _ _ (NOwn.view (w := w7.drew) hv7) (NOwn.view (w := w7.drew) hk7) (NOwn.view (w := w7.drew) hn7) (by omega) (fun x hx => by
    have h1 := List.all_eq_true.1 HA.out x hx
    rcases rootB_iff.1 h1 with h1 | h1
    · omega
    · obtain ⟨o, ho⟩ := Option.isSome_iff_exists.1 h1
      have := objZ_in ho; omega)).mono (fun e w' ⟨v, a, b, c⟩ => ⟨v, a, b, ⟨c.os, c.tape, c.output, c.size, c.block⟩⟩))
  have HZ8 := hidIt Z8
  have HY8 := hidIt Y8
  have HB8 := hidIt B8
  have FIN : Hid (∀ (w8 : World) (v : Value), Blk w8 w.heap.size #[.int .i64 0, .int .i64 0, .int .i64 0, .int .i64 0] 34 → NOwn w8 w7.heap.size v (movedL K roots) → Below w7.heap.size w7 w8 → RunQ n0 w H most ss l roots (.returned (.tuple #[v, .agg #[.int .i64 (K.length : Int), .int .i64 ((l.length : Int) - (K.length : Int)), .int .i64 (usedN (obsK K) : Int), .int .i64 ((st : Int) + (l.length : Int) + (usedN (obsK K) : Int) + (roots.length : Int))], .int .i64 0])) (set4 w8 w.heap.size (.int .i64 (K.length : Int)) (.int .i64 ((l.length : Int) - (K.length : Int))) (.int .i64 (usedN (obsK K) : Int)) (.int .i64 ((st : Int) + (l.length : Int) + (usedN (obsK K) : Int) + (roots.length : Int))))) := hidIt (fun w8 v hb hn hb8 => by
    obtain ⟨f1, f2⟩ := run_fin h0.out (HB1.out.trans (HB4.out.mono (by omega))) (by have := HB4.out.size; omega) HS5.out HH5.out (B8.trans (hb8.mono B8.size)) (.int .i64 (K.length : Int)) (.int .i64 ((l.length : Int) - (K.length : Int))) (.int .i64 (usedN (obsK K) : Int)) (.int .i64 ((st : Int) + (l.length : Int) + (usedN (obsK K) : Int) + (roots.length : Int)))
    have hs7 : w.heap.size ≤ w7.heap.size := by have := HB4.out.size; have := HS5.out.size; have := B8.size; omega
    refine ⟨K, v, st + l.length + usedN (obsK K) + roots.length, H5, HK.out, by rw [show ((st + l.length + usedN (obsK K) + roots.length : Nat) : Int) = (st : Int) + (l.length : Int) + (usedN (obsK K) : Int) + (roots.length : Int) by omega], by omega, own_wk (own_kept hn (fun g eg => set4_other _ _ _ _ _ _ (fun e => ?_))) hs7, f1, f2⟩
    exact own_not hn hb (by decide) (by rw [eg]; exact congrArg some e))
  have d0 : w7.drew.cell? ⟨w5.heap.size, 0, none⟩ = _ := Z8.cell 0
  have d1 : w7.drew.cell? ⟨w5.heap.size, 1, none⟩ = _ := Z8.cell 1
  have d2 : w7.drew.cell? ⟨w5.heap.size, 2, none⟩ = _ := Z8.cell 2
  have d3 : w7.drew.cell? ⟨w5.heap.size, 3, none⟩ = _ := Z8.cell 3
  clear Z8 Y8 B8 hv4 H4 hv7 hk7 hn7 hnot
  go_wp2_with fail
  go_region_law (first
    | (go_simp; go_at_call 34; refine GM.out.mono ?_; rintro e w8 ⟨v, rfl, hn, hb⟩; have HZ9 := hidIt (HZ8.out.kept (hb.block _ HZ8.out.lt)); have HY9 := hidIt (HY8.out.kept (hb.block _ HY8.out.lt)); have e0 := HZ9.out.cell 0; have e1 := HZ9.out.cell 1; have e2 := HZ9.out.cell 2; have e3 := HZ9.out.cell 3; have g0 := HY9.out.cell 0; have g1 := HY9.out.cell 1; have g2 := HY9.out.cell 2; have g3 := HY9.out.cell 3; have k0 := HY9.out.frozen 0; have k1 := HY9.out.frozen 1; have k2 := HY9.out.frozen 2; have k3 := HY9.out.frozen 3; have HN9 := hidIt hn; have HB9 := hidIt hb; clear hn hb; have FR := hidIt (FIN.out _ _ HY9.out HN9.out HB9.out); have FB := hidIt (set4_blk HY9.out (.int .i64 (K.length : Int)) (.int .i64 ((l.length : Int) - (K.length : Int))) (.int .i64 (usedN (obsK K) : Int)) (.int .i64 ((st : Int) + (l.length : Int) + (usedN (obsK K) : Int) + (roots.length : Int)))); clear HN9 HB9))
  all_goals unfold set4 at FR FB
  all_goals generalize (((w8.setCell ⟨w.heap.size, 0, none⟩ (.int .i64 (K.length : Int))).setCell ⟨w.heap.size, 1, none⟩ (.int .i64 ((l.length : Int) - (K.length : Int)))).setCell ⟨w.heap.size, 2, none⟩ (.int .i64 (usedN (obsK K) : Int))).setCell ⟨w.heap.size, 3, none⟩ (.int .i64 ((st : Int) + (l.length : Int) + (usedN (obsK K) : Int) + (roots.length : Int))) = W9 at *
  all_goals clear e0 e1 e2 e3 g0 g1 g2 g3 k0 k1 k2 k3 HY9 HZ9
  all_goals go_wp2_with fail
  all_goals refine bodyPost_ret (results_mid rfl _ _ w.heap.size 34 _ (0, 0) _ rfl FB.out Try.underlying34 rfl (by kernel_rfl)) rfl ?_
  all_goals simpa [Act.put] using FR.out
end Go.Proofs.Ytbdeflpjplhafaa.J

