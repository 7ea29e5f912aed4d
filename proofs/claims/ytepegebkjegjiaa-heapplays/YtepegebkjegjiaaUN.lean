/- A list of objects in the making. -/
import Derived.Test.YtepegebkjegjiaaUM
namespace Go.Proofs.Ytepegebkjegjiaa.J
open Go.RowKit Go.MapKept Go.ChangeMaps
set_option linter.unusedVariables false

variable {n0 B : Nat} {w W : World} {R : RB} {most : Nat} {l l2 : List Ob} {ss : List (List Bool)} {lv : Value} {fvs : List Value}
structure NL (B : Nat) (w : World) (lv : Value) (fvs : List Value) (l2 : List Ob) : Prop where
  row : w.ownsRow B 84 4 lv l2.length (ocells 0 l2 fvs)
  fl : fvs.length = l2.length
  fo : ∀ (i : Nat) v o, fvs[i]? = some v → l2[i]? = some o → w.ownsRow B 2 1 v o.f.length (icells o.f)
  ap : ∀ (i j : Nat) v u b, i ≠ j → fvs[i]? = some v → fvs[j]? = some u → v.ownBlock = some b → u.ownBlock ≠ some b
theorem NL.nil (B : Nat) (w : World) : NL B w (.slice none 0 0) [] [] := ⟨World.ownsRow_nil _ _ _ _, rfl, fun i v o h => by simp at h, fun i j v u b _ h => by simp at h⟩
theorem NL.flt (h : NL B w lv fvs l2) {i : Nat} {v : Value} (hv : fvs[i]? = some v) {b : Nat} (e : v.ownBlock = some b) : B ≤ b ∧ b < w.heap.size := by
  have hl := (List.getElem?_eq_some_iff.1 hv).1
  rw [h.fl] at hl
  exact (h.fo i v l2[i] hv (List.getElem?_eq_getElem hl)).lt _ e
theorem NL.kept {w' : World} (h : NL B w lv fvs l2) (hb : ∀ b, b < w.heap.size → w'.heap[b]? = w.heap[b]?) : NL B w' lv fvs l2 :=
  ⟨own_kept h.row (fun g e => hb g (h.row.lt g e).2), h.fl, fun i v o hv ho => own_kept (h.fo i v o hv ho) (fun g e => hb g ((h.fo i v o hv ho).lt g e).2), h.ap⟩
theorem NL.below {w' : World} (h : NL B w lv fvs l2) (hb : Below w.heap.size w w') : NL B w' lv fvs l2 := h.kept hb.block
theorem NL.push (h : NL B w lv fvs l2) (hB : B ≤ w.heap.size) (o : Ob) {fv v' : Value} {w1 : World} (hb : Below w.heap.size w W) (hf : W.ownsRow w.heap.size 2 1 fv o.f.length (icells o.f)) (ho : w1.ownsRow B 84 4 v' (l2.length + 1) (ocells 0 l2 fvs ++ ocell (usedN l2) o fv)) (hg : W.grownBy w1 lv.ownBlock) : NL B w1 v' (fvs ++ [fv]) (l2 ++ [o]) := by
  have hk : ∀ b, b < w.heap.size → lv.ownBlock ≠ some b → w1.heap[b]? = w.heap[b]? := fun b h1 h3 => (hg.block b (Nat.lt_of_lt_of_le h1 hb.size) (fun e => h3 e.symm)).trans (hb.block b h1)
  have hfk : w1.ownsRow B 2 1 fv o.f.length (icells o.f) := own_wk (own_kept hf (fun g eg => by
    have hgl := hf.lt g eg
    exact hg.block g hgl.2 (fun e => by have := (h.row.lt g e.symm).2; omega))) hB
  refine ⟨?_, by simp [h.fl], fun i v o' hv' ho' => ?_, fun i j v u b hij hvi huj hbv => ?_⟩
  · rw [ocells_append l2 fvs 0 o fv h.fl, Nat.zero_add, List.length_append]
    exact ho
  · rw [List.getElem?_append] at hv' ho'
    rw [h.fl] at hv'
    split at ho'
    · rename_i hlt
      rw [if_pos hlt] at hv'
      have hfo := h.fo i v o' hv' ho'
      exact own_kept hfo (fun b e => hk b (hfo.lt b e).2 (fun e' => own_apart hfo h.row (by decide) e e'))
    · rename_i hlt
      rw [if_neg hlt] at hv'
      have h0 : i - l2.length = 0 := by have := (List.getElem?_eq_some_iff.1 ho').1; simp at this; omega
      rw [h0] at hv' ho'
      obtain rfl : fv = v := by simpa using hv'
      obtain rfl : o = o' := by simpa using ho'
      exact hfk
  · intro hbu
    rw [List.getElem?_append, h.fl] at hvi huj
    split at hvi
    · split at huj
      · exact h.ap i j v u b hij hvi huj hbv hbu
      · have h0 : j - l2.length = 0 := by have := (List.getElem?_eq_some_iff.1 huj).1; simp at this; omega
        rw [h0] at huj
        obtain rfl : fv = u := by simpa using huj
        have := (hf.lt b hbu).1
        have := (h.flt hvi hbv).2
        omega
    · have h0 : i - l2.length = 0 := by have := (List.getElem?_eq_some_iff.1 hvi).1; simp at this; omega
      rw [h0] at hvi
      obtain rfl : fv = v := by simpa using hvi
      split at huj
      · have := (hf.lt b hbv).1
        have := (h.flt huj hbu).2
        omega
      · have h1 : j - l2.length = 0 := by have := (List.getElem?_eq_some_iff.1 huj).1; simp at this; omega
        omega
theorem RV.install (h : RV n0 w R most l ss) (hb : Below w.heap.size w W) (nl : NL w.heap.size W lv fvs l2) (hwf : Wf ss l2) (hfew : usedN l2 ≤ most) :
    RV n0 (W.setCell ⟨R.rb, 1, none⟩ lv) { R with lv := lv, fvs := fvs } most l2 ss ∧ RStep R { R with lv := lv, fvs := fvs } w (W.setCell ⟨R.rb, 1, none⟩ lv) := by
  have hn0 : n0 ≤ w.heap.size := by have := h.lt (.inl rfl); omega
  have hrb := h.box.lt
  have hbw : W.heap[R.rb]? = w.heap[R.rb]? := hb.block _ hrb
  have hk : ∀ b, b ≠ R.rb → (W.setCell ⟨R.rb, 1, none⟩ lv).heap[b]? = W.heap[b]? := fun b h2 => heap_setCell_other W ⟨R.rb, 1, none⟩ b _ h2
  have hkw : ∀ b, b < w.heap.size → b ≠ R.rb → (W.setCell ⟨R.rb, 1, none⟩ lv).heap[b]? = w.heap[b]? := fun b h1 h2 => (hk b h2).trans (hb.block b h1)
  have hsz : w.heap.size ≤ (W.setCell ⟨R.rb, 1, none⟩ lv).heap.size := by have := hb.size; simp; omega
  refine ⟨⟨h.lo, ?_, own_wk (own_kept nl.row (fun b e => hk b (by have := (nl.row.lt b e).1; omega))) hn0, nl.fl, fun i v o hv ho => own_wk (own_kept (nl.fo i v o hv ho) (fun b e => hk b (by have := ((nl.fo i v o hv ho).lt b e).1; omega))) hn0, own_kept h.so (fun b e => hkw b (h.so.lt b e).2 (fun e' => own_not h.so h.box (by decide) (e' ▸ e))), fun i v r hv hr => own_kept (h.go i v r hv hr) (fun b e => hkw b ((h.go i v r hv hr).lt b e).2 (fun e' => own_not (h.go i v r hv hr) h.box (by decide) (e' ▸ e))), nl.ap, hwf, hfew, h.most⟩, ⟨hb.os, hb.tape, hb.output, hsz, fun b h1 h2 => hkw b h1 (fun e => h2 (.inl e)), rfl, fun b e => ?_⟩⟩
  · have := (h.box.kept hbw).set 1 lv
    simpa using this
  · rcases e with e | e | e | ⟨v, hv1, e⟩ | e
    · exact .inl (.inl e)
    · exact .inr (nl.row.lt b e).1
    · exact .inl (.inr (.inr (.inl e)))
    · obtain ⟨i, hi⟩ := List.getElem?_of_mem hv1
      exact .inr (nl.flt hi e).1
    · exact .inl (.inr (.inr (.inr (.inr e))))
/-- append of a list of words to an empty row. -/
def LView (w : World) (v : Value) (r : List Int) : Prop := ∃ ao cap, v = .slice ao r.length cap ∧ r.length ≤ cap ∧ cap ≤ maxLen ∧ (r = [] ∨ ∃ g off, ao = some ⟨g, off, none⟩ ∧ ∀ (j : Nat) (x : Int), r[j]? = some x → w.cell? ⟨g, off + j, none⟩ = some (.int .i64 x))
theorem run_lappend {w : World} (ty : TypeId) (B : Nat) (v u : Value) (a r : List Int) (ho : w.ownsRow B 2 1 v a.length (icells a)) (hu : LView w u r) (hl : a.length + r.length ≤ 1000000) (hB : B ≤ w.heap.size) :
    ∃ v' w', (Builtin.append_ #[74, 74] ty #[v, u]).run Try.prog w = .ok v' w' ∧ w'.ownsRow B 2 1 v' (a.length + r.length) (icells (a ++ r)) ∧ Step v w v' w' := by
  obtain ⟨i0, hi, hz0, hz1, hz2⟩ := info_parts Try.infoI8
  obtain ⟨ao, cap, rfl, hc, hm, hl2⟩ := hu
  rcases hl2 with rfl | ⟨g, off, rfl, hl2⟩
  · refine ⟨v, w, ?_, by simpa using ho, ⟨⟨rfl, rfl, rfl, Nat.le_refl _, fun _ _ _ => rfl⟩, .inl rfl⟩⟩
    rcases ho.2 with ⟨rfl, h0⟩ | ⟨g, cap, cur, rfl, hbg, hg, hnc, hcm, hcs, htake⟩
    · cases ao <;> simp [Builtin.append_, run_underlying Try.underlying74, sizeOf, typeInfo, hi, Builtin.lenOf, Builtin.firstCells, loadCells, loadCellsFrom]
    · cases ao <;> simp [Builtin.append_, run_underlying Try.underlying74, sizeOf, typeInfo, hi, Builtin.lenOf, Builtin.firstCells, loadCells, loadCellsFrom, hnc, storeCells]
  · obtain ⟨v', w', hr, h2, hg, _, hat⟩ := run_append_own_at (P := Try.prog) w B 74 ty 2 i0 (.int .i64 0) 1 8 Try.underlying74 hi hz0 hz1 hz2 rfl (by decide) v a.length (icells a) ho ⟨g, off, none⟩ r.length cap (icells r) (by simp [icells]) (fun j u hj => by
      have e : (⟨g, off, none⟩ : Addr).add j = ⟨g, off + j, none⟩ := by unfold Addr.add; split <;> simp_all
      rw [e]
      simp only [icells, List.getElem?_map, Option.map_eq_some_iff] at hj
      obtain ⟨x, hx, rfl⟩ := hj
      exact hl2 j x hx) (icells_one r) (by unfold maxLen; omega) (by omega) hB
    refine ⟨v', w', hr, by rw [show icells (a ++ r) = icells a ++ icells r by simp [icells]]; exact h2, ⟨hg, hat.imp id fun e => ⟨_, e, Nat.le_refl _⟩⟩⟩
theorem mvF_step {ss : List (List Bool)} {K : List (Nat × Ob)} {o : Ob} {n : Nat} {x : Int} (hx : o.f[n]? = some x) (h : rb ss o.sh n = true) : (mvN ss K n o).f.set n (toA 0 K x.toNat) = (mvN ss K (n + 1) o).f := by
  rw [← mvN_yes hx h]; rfl
end Go.Proofs.Ytepegebkjegjiaa.J

