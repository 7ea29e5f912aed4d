/- New, add, Array, Object: walked. -/
import Derived.Test.YtbdeflpjplhafaaJF
namespace Go.Proofs.Ytbdeflpjplhafaa.J
open Go.RowKit Go.MapKept Go.ChangeMaps
set_option linter.unusedVariables false

variable {n0 : Nat} {w : World} {H : HB} {most : Nat} {l : List Ob} {ss : List (List Bool)}
theorem begin_any (g U cap j : Nat) (s z x y : Int) (w : World) (hj : j + 2 < U) (hU : U ≤ 16384) (hc0 : w.cell? ⟨g, j, none⟩ = some (.int .i64 x)) (hz0 : w.frozen? ⟨g, j, none⟩ = false) (hc : w.cell? ⟨g, j + 1, none⟩ = some (.int .i64 y)) (hz : w.frozen? ⟨g, j + 1, none⟩ = false) :
    Calls Try.prog 64 #[.slice (some ⟨g, 0, none⟩) U cap, .int .i64 ((j : Int) + 1), .int .i64 s, .int .i64 z] w fun e w' => (∃ u, e = .returned u) ∧ w' = (w.setCell ⟨g, j, none⟩ (.int .i64 s)).setCell ⟨g, j + 1, none⟩ (.int .i64 z) := by
  have hj' : (j : Int) + 2 < (U : Int) := by omega
  have hj1 : j < U := by omega
  have hj2 : (j : Int) < U := by omega
  have ht2 : ((j : Int) + 1).toNat = j + 1 := by omega
  go_enter Try.func64, Try.ntmps64
  go_wp2
  go_end0
  exact ⟨⟨_, rfl⟩, rfl⟩
theorem New_no (words : Int) (hw : words < 1 ∨ 16384 < words) (w : World) : Calls Try.prog 18 #[.int .i64 words] w fun e w' => e = .returned (.tuple #[.pointer none, .int .i64 1]) ∧ w' = w := by
  by_cases h1 : words < 1
  · go_enter Try.func18, Try.ntmps18
    go_wp2
    go_ret2
    exact ⟨rfl, rfl⟩
  · have h2 : 16384 < words := by omega
    go_enter Try.func18, Try.ntmps18
    go_wp2
    go_ret2
    exact ⟨rfl, rfl⟩
theorem New_any (m : Nat) (h1 : 1 ≤ m) (h2 : m ≤ 16384) (w : World) : Calls Try.prog 18 #[.int .i64 (m : Int)] w fun e w' => ∃ H : HB, e = .returned (.tuple #[H.ptr, .int .i64 0]) ∧ HeapV w.heap.size w' H m [] [] ∧ Below w.heap.size w w' := by
  have h1' : ¬ (m : Int) < 1 := by omega
  have h2' : ¬ 16384 < (m : Int) := by omega
  have hmm := @run_makeMap Try.prog
  go_enter Try.func18, Try.ntmps18
  go_wp2
  go_ret2
  refine ⟨⟨w.heap.size + 1, w.heap.size, .slice none 0 0, .slice none 0 0, .slice none 0 0⟩, rfl, ⟨by simp, by simp, ?_, World.ownsRow_nil _ _ _ _, World.ownsRow_nil _ _ _ _, World.ownsRow_nil _ _ _ _, ⟨#[], 0, ?_, rfl⟩, Wf.nil _, by simp [usedN], h2⟩, ((Below.refl _ w).alloc (Nat.le_refl _) _).alloc (by simp) _⟩
  · have hb := Blk.new (w.alloc (.map #[] 0)) #[.int .i64 (m : Int), .slice none 0 0, .slice none 0 0, .slice none 0 0, .map (some w.heap.size)] 89
    rw [World.size_alloc] at hb
    exact hb
  · exact (Below.heap_alloc _ _ _ (by simp)).trans (heap_alloc_new w _)
/-- A heap's memory with any words and any beginnings. -/
structure HeapR (n0 : Nat) (w : World) (H : HB) (most : Nat) (ws : List Int) (bs : List Bool) (ss : List (List Bool)) : Prop where
  lo : n0 ≤ H.hb
  lom : n0 ≤ H.mb
  box : Blk w H.hb (H.row most) 89
  wo : w.ownsRow n0 2 1 H.wv ws.length (icells ws)
  bo : w.ownsRow n0 4 1 H.bv bs.length (tcells bs)
  so : w.ownsRow n0 9 1 H.sv ss.length (xcells ss)
  map : SMap w H.mb (ents ss)
theorem HeapV.raw (h : HeapV n0 w H most l ss) : HeapR n0 w H most (wsL l) (bsL l) ss := ⟨h.lo, h.lom, h.box, by rw [wsL_len]; exact h.wo, by rw [bsL_len]; exact h.bo, h.so, h.map⟩
theorem HeapR.heap (h : HeapR n0 w H most (wsL l) (bsL l) ss) (wf : Wf ss l) (few : usedN l ≤ most) (hm : most ≤ 16384) : HeapV n0 w H most l ss := ⟨h.lo, h.lom, h.box, by have := h.wo; rwa [wsL_len] at this, by have := h.bo; rwa [bsL_len] at this, h.so, h.map, wf, few, hm⟩
variable {ws : List Int} {bs : List Bool}
theorem HeapR.lt (h : HeapR n0 w H most ws bs ss) {b : Nat} (hb : H.has b) : n0 ≤ b ∧ b < w.heap.size := by
  rcases hb with rfl | rfl | e | e | e
  · exact ⟨h.lo, h.box.lt⟩
  · exact ⟨h.lom, h.map.lt⟩
  · exact h.wo.lt _ e
  · exact h.bo.lt _ e
  · exact h.so.lt _ e
theorem HeapR.kept {w' : World} (h : HeapR n0 w H most ws bs ss) (hb : ∀ b, H.has b → w'.heap[b]? = w.heap[b]?) : HeapR n0 w' H most ws bs ss :=
  ⟨h.lo, h.lom, h.box.kept (hb _ (.inl rfl)), own_kept h.wo (fun g e => hb g (.inr (.inr (.inl e)))), own_kept h.bo (fun g e => hb g (.inr (.inr (.inr (.inl e))))), own_kept h.so (fun g e => hb g (.inr (.inr (.inr (.inr e))))), h.map.kept (hb _ (.inr (.inl rfl)))⟩
/-- The wv row grew, and is stored into the box. -/
theorem HeapR.growW (h : HeapR n0 w H most ws bs ss) {v' : Value} {w1 : World} {ws' : List Int} (ho : w1.ownsRow n0 2 1 v' ws'.length (icells ws')) (hg : w.grownBy w1 H.wv.ownBlock) (ha : v'.ownBlock = H.wv.ownBlock ∨ v'.ownBlock = some w.heap.size) :
    HeapR n0 (w1.setCell ⟨H.hb, 1, none⟩ v') { H with wv := v' } most ws' bs ss ∧ HStep H { H with wv := v' } w (w1.setCell ⟨H.hb, 1, none⟩ v') := by
  have hbw : w1.heap[H.hb]? = w.heap[H.hb]? := hg.block _ h.box.lt (fun e => own_not h.wo h.box (by decide) e.symm)
  have hk : ∀ b, b ≠ H.hb → (w1.setCell ⟨H.hb, 1, none⟩ v').heap[b]? = w1.heap[b]? := fun b hb => heap_setCell_other w1 ⟨H.hb, 1, none⟩ b _ hb
  have hv : v'.ownBlock ≠ some H.hb := own_not ho (h.box.kept hbw) (by decide)
  refine ⟨⟨h.lo, h.lom, ?_, own_kept ho (fun b e => hk b (fun e' => hv (e' ▸ e))), own_kept h.bo (fun b e => (hk b (fun e' => own_not h.bo h.box (by decide) (e' ▸ e))).trans (hg.block b (h.bo.lt b e).2 (fun e' => own_apart h.bo h.wo (by decide) e e'.symm))), own_kept h.so (fun b e => (hk b (fun e' => own_not h.so h.box (by decide) (e' ▸ e))).trans (hg.block b (h.so.lt b e).2 (fun e' => own_apart h.so h.wo (by decide) e e'.symm))), h.map.kept ((hk _ (fun e => ?_)).trans (hg.block _ h.map.lt (fun e => own_notM h.wo h.map e.symm)))⟩, hg.os, hg.tape, hg.output, by simpa using hg.size, fun b hb hn => (hk b (fun e => hn (.inl e))).trans (hg.block b hb (fun e => hn (.inr <| .inr <| .inl e.symm))), rfl, fun b hb => ?_⟩
  · have := (h.box.kept hbw).set 1 v'
    simpa [HB.row] using this
  · obtain ⟨es, cl, hm, _⟩ := h.map
    have := h.box
    unfold Blk at this
    rw [← e, hm] at this
    cases this
  · rcases hb with e | e | e | e | e
    · exact .inl (.inl e)
    · exact .inl (.inr (.inl e))
    · rcases ha with e' | e'
      · exact .inl (.inr (.inr (.inl (e' ▸ e))))
      · exact .inr (by rw [show v'.ownBlock = some b from e, Option.some.injEq] at e'; omega)
    · exact .inl (.inr (.inr (.inr (.inl e))))
    · exact .inl (.inr (.inr (.inr (.inr e))))
/-- The bv row grew, and is stored into the box. -/
theorem HeapR.growB (h : HeapR n0 w H most ws bs ss) {v' : Value} {w1 : World} {bs' : List Bool} (ho : w1.ownsRow n0 4 1 v' bs'.length (tcells bs')) (hg : w.grownBy w1 H.bv.ownBlock) (ha : v'.ownBlock = H.bv.ownBlock ∨ v'.ownBlock = some w.heap.size) :
    HeapR n0 (w1.setCell ⟨H.hb, 2, none⟩ v') { H with bv := v' } most ws bs' ss ∧ HStep H { H with bv := v' } w (w1.setCell ⟨H.hb, 2, none⟩ v') := by
  have hbw : w1.heap[H.hb]? = w.heap[H.hb]? := hg.block _ h.box.lt (fun e => own_not h.bo h.box (by decide) e.symm)
  have hk : ∀ b, b ≠ H.hb → (w1.setCell ⟨H.hb, 2, none⟩ v').heap[b]? = w1.heap[b]? := fun b hb => heap_setCell_other w1 ⟨H.hb, 2, none⟩ b _ hb
  have hv : v'.ownBlock ≠ some H.hb := own_not ho (h.box.kept hbw) (by decide)
  refine ⟨⟨h.lo, h.lom, ?_, own_kept h.wo (fun b e => (hk b (fun e' => own_not h.wo h.box (by decide) (e' ▸ e))).trans (hg.block b (h.wo.lt b e).2 (fun e' => own_apart h.wo h.bo (by decide) e e'.symm))), own_kept ho (fun b e => hk b (fun e' => hv (e' ▸ e))), own_kept h.so (fun b e => (hk b (fun e' => own_not h.so h.box (by decide) (e' ▸ e))).trans (hg.block b (h.so.lt b e).2 (fun e' => own_apart h.so h.bo (by decide) e e'.symm))), h.map.kept ((hk _ (fun e => ?_)).trans (hg.block _ h.map.lt (fun e => own_notM h.bo h.map e.symm)))⟩, hg.os, hg.tape, hg.output, by simpa using hg.size, fun b hb hn => (hk b (fun e => hn (.inl e))).trans (hg.block b hb (fun e => hn (.inr <| .inr <| .inr <| .inl e.symm))), rfl, fun b hb => ?_⟩
  · have := (h.box.kept hbw).set 2 v'
    simpa [HB.row] using this
  · obtain ⟨es, cl, hm, _⟩ := h.map
    have := h.box
    unfold Blk at this
    rw [← e, hm] at this
    cases this
  · rcases hb with e | e | e | e | e
    · exact .inl (.inl e)
    · exact .inl (.inr (.inl e))
    · exact .inl (.inr (.inr (.inl e)))
    · rcases ha with e' | e'
      · exact .inl (.inr (.inr (.inr (.inl (e' ▸ e)))))
      · exact .inr (by rw [show v'.ownBlock = some b from e, Option.some.injEq] at e'; omega)
    · exact .inl (.inr (.inr (.inr (.inr e))))
theorem HeapR.setW (h : HeapR n0 w H most ws bs ss) {g U cap j : Nat} (ew : H.wv = .slice (some ⟨g, 0, none⟩) U cap) (x : Int) :
    HeapR n0 (w.setCell ⟨g, j, none⟩ (.int .i64 x)) H most (ws.set j x) bs ss ∧ HStep H H w (w.setCell ⟨g, j, none⟩ (.int .i64 x)) := by
  have hg : H.wv.ownBlock = some g := by rw [ew]; rfl
  have hk : ∀ b, b ≠ g → (w.setCell ⟨g, j, none⟩ (.int .i64 x)).heap[b]? = w.heap[b]? := fun b hb => heap_setCell_other w ⟨g, j, none⟩ b _ hb
  have ho := h.wo
  obtain ⟨ao, cap', e'⟩ := own_slice ho
  obtain ⟨rfl, rfl⟩ : U = ws.length ∧ cap' = cap := by rw [ew] at e'; cases e'; exact ⟨rfl, rfl⟩
  rw [ew] at ho
  have hbox := h.box.kept (hk _ (fun e => own_not h.wo h.box (by decide) (e ▸ hg)))
  have hso := own_kept h.so (fun b e => hk b (fun e' => own_apart h.wo h.so (by decide) hg (e' ▸ e)))
  have hmap := h.map.kept (hk _ (fun e => own_notM h.wo h.map (e ▸ hg)))
  have hot := own_kept h.bo (fun b e => hk b (fun e' => own_apart h.wo h.bo (by decide) hg (e' ▸ e)))
  have hme : (w.setCell ⟨g, j, none⟩ (.int .i64 x)).ownsRow n0 2 1 H.wv (ws.set j x).length (icells (ws.set j x)) := by
    rw [ew, List.length_set]
    have := own_set (j := j) ho (.int .i64 x)
    rwa [show icells (ws.set j x) = (icells ws).set j (.int .i64 x) by simp [icells, List.map_set]]
  exact ⟨⟨h.lo, h.lom, hbox, hme, hot, hso, hmap⟩, rfl, rfl, rfl, by simp, fun b _ hn => hk b (fun e => hn (.inr (.inr (.inl (e ▸ hg))))), rfl, fun _ e => .inl e⟩
theorem HeapR.setB (h : HeapR n0 w H most ws bs ss) {g U cap j : Nat} (ew : H.bv = .slice (some ⟨g, 0, none⟩) U cap) (x : Bool) :
    HeapR n0 (w.setCell ⟨g, j, none⟩ (.bool x)) H most ws (bs.set j x) ss ∧ HStep H H w (w.setCell ⟨g, j, none⟩ (.bool x)) := by
  have hg : H.bv.ownBlock = some g := by rw [ew]; rfl
  have hk : ∀ b, b ≠ g → (w.setCell ⟨g, j, none⟩ (.bool x)).heap[b]? = w.heap[b]? := fun b hb => heap_setCell_other w ⟨g, j, none⟩ b _ hb
  have ho := h.bo
  obtain ⟨ao, cap', e'⟩ := own_slice ho
  obtain ⟨rfl, rfl⟩ : U = bs.length ∧ cap' = cap := by rw [ew] at e'; cases e'; exact ⟨rfl, rfl⟩
  rw [ew] at ho
  have hbox := h.box.kept (hk _ (fun e => own_not h.bo h.box (by decide) (e ▸ hg)))
  have hso := own_kept h.so (fun b e => hk b (fun e' => own_apart h.bo h.so (by decide) hg (e' ▸ e)))
  have hmap := h.map.kept (hk _ (fun e => own_notM h.bo h.map (e ▸ hg)))
  have hot := own_kept h.wo (fun b e => hk b (fun e' => own_apart h.bo h.wo (by decide) hg (e' ▸ e)))
  have hme : (w.setCell ⟨g, j, none⟩ (.bool x)).ownsRow n0 4 1 H.bv (bs.set j x).length (tcells (bs.set j x)) := by
    rw [ew, List.length_set]
    have := own_set (j := j) ho (.bool x)
    rwa [show tcells (bs.set j x) = (tcells bs).set j (.bool x) by simp [tcells, List.map_set]]
  exact ⟨⟨h.lo, h.lom, hbox, hot, hme, hso, hmap⟩, rfl, rfl, rfl, by simp, fun b _ hn => hk b (fun e => hn (.inr (.inr (.inr (.inl (e ▸ hg)))))), rfl, fun _ e => .inl e⟩
theorem Try.infoI : (Try.prog.info? 2).map (fun i => (i.zero, i.size, i.bytes)) = some (some (.int .i64 0), 1, 8) := by kernel_rfl
theorem Try.infoB : (Try.prog.info? 4).map (fun i => (i.zero, i.size, i.bytes)) = some (some (.bool false), 1, 1) := by kernel_rfl
theorem add_full (h : HeapV n0 w H most l ss) (s : Int) (k : Nat) (hk : k ≤ 100000) (hf : most < usedN l + (k + 3)) : Calls Try.prog 45 #[H.ptr, .int .i64 s, .int .i64 (k : Int)] w fun e w' => e = .returned (.tuple #[.int .i64 0, .int .i64 26]) ∧ Below w.heap.size w w' := by
  have GU := hidIt (fun q => used_any (w := w.drewN q) (h.kept (fun _ _ => rfl)))
  have c0 : w.cell? ⟨H.hb, 0, none⟩ = some (.int .i64 (most : Int)) := h.box.cell 0
  have hm := h.most
  have hu := h.few
  unfold HB.ptr at GU ⊢
  generalize usedN l = U at *
  have hm' : (most : Int) ≤ 16384 := by omega
  have hu' : (U : Int) ≤ (most : Int) := by omega
  have hf' : (most : Int) - (U : Int) < 3 + (k : Int) := by omega
  have hk' : (k : Int) ≤ 100000 := by omega
  go_enter Try.func45, Try.ntmps45
  go_wp2_with fail
  go_quiet ((go_at_call 11; exact Calls.quiet_of_same (GU.out _)))
  go_wp2
  go_ret2
  exact ⟨rfl, below_drewN (Below.refl _ _) _⟩
end Go.Proofs.Ytbdeflpjplhafaa.J

