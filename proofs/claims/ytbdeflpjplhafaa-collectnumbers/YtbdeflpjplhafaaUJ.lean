/- Shape of the document's own heap: walked. -/
import Derived.Test.YtbdeflpjplhafaaUI
namespace Go.Proofs.Ytbdeflpjplhafaa.J
open Go.RowKit Go.MapKept Go.ChangeMaps
set_option linter.unusedVariables false

variable {n0 : Nat} {w : World} {R : RB} {most : Nat} {l : List Ob} {ss : List (List Bool)}
theorem idxS_first : ∀ {ss : List (List Bool)} {r : List Bool} {i : Nat}, ss[i]? = some r → (∀ j, j < i → ss[j]? ≠ some r) → idxS ss r = some i
  | [], r, i, h, _ => by simp at h
  | s :: ss, r, 0, h, _ => by
    unfold idxS
    rw [if_pos (by simpa using h)]
  | s :: ss, r, i + 1, h, h2 => by
    unfold idxS
    rw [if_neg (fun e => h2 0 (by omega) (by rw [e]; rfl)), idxS_first (i := i) (by simpa using h) (fun j hj e => h2 (j + 1) (by omega) (by simpa using e))]
    rfl
theorem idxS_all {ss : List (List Bool)} {r : List Bool} (h : ∀ j, j < ss.length → ss[j]? ≠ some r) : idxS ss r = none := by
  cases e : idxS ss r with
  | none => rfl
  | some i =>
    have := idxS_some e
    exact absurd this (h i (List.getElem?_eq_some_iff.1 this).1)
theorem RV.pushS (h : RV n0 w R most l ss) (r : List Bool) {gv v' : Value} {W w1 : World} (hb : Below w.heap.size w W) (hf : W.ownsRow w.heap.size 4 1 gv r.length (tcells r)) (ho : w1.ownsRow n0 52 1 v' (ss.length + 1) (R.gvs ++ [gv])) (hg : W.grownBy w1 R.sv.ownBlock)
    (ha : v'.ownBlock = R.sv.ownBlock ∨ v'.ownBlock = some W.heap.size) :
    RV n0 (w1.setCell ⟨R.rb, 2, none⟩ v') { R with sv := v', gvs := R.gvs ++ [gv] } most l (ss ++ [r]) ∧ RStep R { R with sv := v', gvs := R.gvs ++ [gv] } w (w1.setCell ⟨R.rb, 2, none⟩ v') := by
  have hk : ∀ b, b < w.heap.size → b ≠ R.rb → R.sv.ownBlock ≠ some b → (w1.setCell ⟨R.rb, 2, none⟩ v').heap[b]? = w.heap[b]? := fun b h1 h2 h3 => (heap_setCell_other w1 ⟨R.rb, 2, none⟩ b _ h2).trans ((hg.block b (Nat.lt_of_lt_of_le h1 hb.size) (fun e => h3 e.symm)).trans (hb.block b h1))
  have hbw : w1.heap[R.rb]? = w.heap[R.rb]? := (hg.block _ (Nat.lt_of_lt_of_le h.box.lt hb.size) (fun e => own_not h.so h.box (by decide) e.symm)).trans (hb.block _ h.box.lt)
  have hn0 : n0 ≤ w.heap.size := by have := h.lt (.inl rfl); omega
  have hrb := h.box.lt
  have hv : v'.ownBlock ≠ some R.rb := own_not ho (h.box.kept hbw) (by decide)
  have hfk : (w1.setCell ⟨R.rb, 2, none⟩ v').ownsRow n0 4 1 gv r.length (tcells r) := own_wk (own_kept hf (fun g eg => by
    have hgl := hf.lt g eg
    exact (heap_setCell_other w1 ⟨R.rb, 2, none⟩ g _ (by show g ≠ R.rb; omega)).trans (hg.block g hgl.2 (fun e => by have := (h.so.lt g e.symm).2; omega)))) hn0
  have hsz : w.heap.size ≤ (w1.setCell ⟨R.rb, 2, none⟩ v').heap.size := by have := hg.size; have := hb.size; simp; omega
  refine ⟨⟨h.lo, ?_, own_kept h.lo_ (fun b e => hk b (h.lo_.lt b e).2 (fun e' => own_not h.lo_ h.box (by decide) (e' ▸ e)) (fun e' => own_apart h.lo_ h.so (by decide) e e')), h.fl, fun i v o hv' hr => own_kept (h.fo i v o hv' hr) (fun b e => hk b ((h.fo i v o hv' hr).lt b e).2 (fun e' => own_not (h.fo i v o hv' hr) h.box (by decide) (e' ▸ e)) (fun e' => own_apart (h.fo i v o hv' hr) h.so (by decide) e e')), ?_, fun i v o' hv' ho' => ?_, h.ap, h.wf.addS r, h.few, h.most⟩, ⟨hg.os.trans hb.os, hg.tape.trans hb.tape, hg.output.trans hb.output, hsz, fun b h1 h2 => hk b h1 (fun e => h2 (.inl e)) (fun e => h2 (.inr (.inr (.inl e)))), rfl, fun b e => ?_⟩⟩
  · have := (h.box.kept hbw).set 2 v'
    simpa using this
  · rw [List.length_append]
    exact own_kept ho (fun b e => heap_setCell_other w1 ⟨R.rb, 2, none⟩ b _ (fun e' => hv (by rw [e]; exact congrArg some e')))
  · rw [List.getElem?_append] at hv' ho'
    rw [h.gl] at hv'
    split at ho'
    · rename_i hlt
      rw [if_pos hlt] at hv'
      have hfo := h.go i v o' hv' ho'
      exact own_kept hfo (fun b e => hk b (hfo.lt b e).2 (fun e' => own_not hfo h.box (by decide) (e' ▸ e)) (fun e' => own_apart hfo h.so (by decide) e e'))
    · rename_i hlt
      rw [if_neg hlt] at hv'
      have h0 : i - ss.length = 0 := by have := (List.getElem?_eq_some_iff.1 ho').1; simp at this; omega
      rw [h0] at hv' ho'
      obtain rfl : gv = v := by simpa using hv'
      obtain rfl : r = o' := by simpa using ho'
      exact hfk
  · rcases e with e | e | e | e | ⟨v, hv1, e⟩
    · exact .inl (.inl e)
    · exact .inl (.inr (.inl e))
    · rcases ha with e' | e'
      · exact .inl (.inr (.inr (.inl (e' ▸ e))))
      · have e : v'.ownBlock = some b := e
        rw [e', Option.some.injEq] at e
        exact .inr (by have := hb.size; omega)
    · exact .inl (.inr (.inr (.inr (.inl e))))
    · rcases List.mem_append.1 hv1 with hm | hm
      · exact .inl (.inr (.inr (.inr (.inr ⟨v, hm, e⟩))))
      · obtain rfl : v = gv := by simpa using hm
        exact .inr (hf.lt b e).1
theorem tcells_one (l : List Bool) : ∀ u ∈ tcells l, u.oneCell' = true := by
  intro u hu
  simp only [tcells, List.mem_map] at hu
  obtain ⟨x, _, rfl⟩ := hu
  rfl
theorem empty_own (w : World) (T : TypeId) : (w.alloc (.cells #[] T)).ownsRow w.heap.size T 1 (.slice (some ⟨w.heap.size, 0, none⟩) 0 0) 0 [] :=
  ⟨rfl, .inr ⟨w.heap.size, 0, _, rfl, Nat.le_refl _, heap_alloc_new w _, Nat.le_refl _, by unfold maxLen; omega, rfl, rfl⟩⟩
/-- append of a list of truths to a row of one's own. -/
theorem run_bappend {w : World} (ty : TypeId) (B : Nat) (v u : Value) (a r : List Bool) (ho : w.ownsRow B 4 1 v a.length (tcells a)) (hu : BView w u r) (hl : a.length + r.length ≤ 1000000) (hB : B ≤ w.heap.size) :
    ∃ v' w', (Builtin.append_ #[52, 52] ty #[v, u]).run Try.prog w = .ok v' w' ∧ w'.ownsRow B 4 1 v' (a.length + r.length) (tcells (a ++ r)) ∧ Step v w v' w' := by
  obtain ⟨i0, hi, hz0, hz1, hz2⟩ := info_parts Try.infoB
  obtain ⟨ao, cap, rfl, hc, hm, hl2⟩ := hu
  rcases hl2 with rfl | ⟨g, off, rfl, hl2⟩
  · refine ⟨v, w, ?_, by simpa using ho, ⟨⟨rfl, rfl, rfl, Nat.le_refl _, fun _ _ _ => rfl⟩, .inl rfl⟩⟩
    rcases ho.2 with ⟨rfl, h0⟩ | ⟨g, cap, cur, rfl, hbg, hg, hnc, hcm, hcs, htake⟩
    · cases ao <;> simp [Builtin.append_, run_underlying Try.underlying52, sizeOf, typeInfo, hi, Builtin.lenOf, Builtin.firstCells, loadCells, loadCellsFrom]
    · cases ao <;> simp [Builtin.append_, run_underlying Try.underlying52, sizeOf, typeInfo, hi, Builtin.lenOf, Builtin.firstCells, loadCells, loadCellsFrom, hnc, storeCells]
  · obtain ⟨v', w', hr, h2, hg, _, hat⟩ := run_append_own_at (P := Try.prog) w B 52 ty 4 i0 (.bool false) 1 1 Try.underlying52 hi hz0 hz1 hz2 rfl (by decide) v a.length (tcells a) ho ⟨g, off, none⟩ r.length cap (tcells r) (by simp [tcells]) (fun j u hj => by
      have e : (⟨g, off, none⟩ : Addr).add j = ⟨g, off + j, none⟩ := by unfold Addr.add; split <;> simp_all
      rw [e]
      simp only [tcells, List.getElem?_map, Option.map_eq_some_iff] at hj
      obtain ⟨x, hx, rfl⟩ := hj
      exact hl2 j x hx) (tcells_one r) (by unfold maxLen; omega) (by omega) hB
    refine ⟨v', w', hr, by rw [show tcells (a ++ r) = tcells a ++ tcells r by simp [tcells]]; exact h2, ⟨hg, hat.imp id fun e => ⟨_, e, Nat.le_refl _⟩⟩⟩
end Go.Proofs.Ytbdeflpjplhafaa.J

