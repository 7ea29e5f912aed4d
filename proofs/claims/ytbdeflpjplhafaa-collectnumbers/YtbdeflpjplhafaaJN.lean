/- Shape: walked. -/
import Derived.Test.YtbdeflpjplhafaaJM
import Derived.Deep.CutRange
namespace Go.Proofs.Ytbdeflpjplhafaa.J
open Go.RowKit Go.MapKept Go.ChangeMaps
set_option linter.unusedVariables false

/-- Where a shape stands. -/
def idxS : List (List Bool) → List Bool → Option Nat
  | [], _ => none
  | s :: ss, r => if s = r then some 0 else (idxS ss r).map (· + 1)
theorem idxS_some : ∀ {ss : List (List Bool)} {r : List Bool} {i : Nat}, idxS ss r = some i → ss[i]? = some r
  | [], r, i, h => by simp [idxS] at h
  | s :: ss, r, i, h => by
    unfold idxS at h
    split at h
    · rename_i e
      cases h; rw [e]; rfl
    · cases e : idxS ss r with
      | none => rw [e] at h; cases h
      | some j =>
        rw [e] at h
        cases h
        simpa using idxS_some e
theorem idxS_none : ∀ {ss : List (List Bool)} {r : List Bool}, idxS ss r = none → r ∉ ss
  | [], r, h => by simp
  | s :: ss, r, h => by
    unfold idxS at h
    split at h
    · cases h
    · rename_i e
      cases e2 : idxS ss r with
      | none =>
        intro hm
        rcases List.mem_cons.1 hm with rfl | hm
        · exact e rfl
        · exact idxS_none e2 hm
      | some j => rw [e2] at h; cases h
theorem slook_entsA : ∀ (ss : List (List Bool)) (r : List Bool) (k : Nat), slook (entsA k ss) (txt r) = (idxS ss r).map fun (i : Nat) => Value.int .i64 ((k + i : Nat) : Int)
  | [], r, k => rfl
  | s :: ss, r, k => by
    unfold entsA idxS slook
    by_cases e : s = r
    · subst e
      rw [(MapKept.bytes_beq (txt s) (txt s)).2 rfl]
      simp only [if_true, Option.map_some, Nat.add_zero]
    · rw [if_neg e]
      have : (txt r == txt s) = false := by
        cases h : txt r == txt s with
        | false => rfl
        | true => exact absurd (txt_inj ((MapKept.bytes_beq _ _).1 h)).symm e
      simp only [this, Bool.false_eq_true, if_false]
      rw [slook_entsA ss r (k + 1)]
      cases idxS ss r with
      | none => rfl
      | some i => simp only [Option.map_some]; congr 2; congr 1; omega
theorem slook_ents (ss : List (List Bool)) (r : List Bool) : slook (ents ss) (txt r) = (idxS ss r).map fun (i : Nat) => Value.int .i64 (i : Int) := by
  have := slook_entsA ss r 0
  unfold ents
  rw [this]
  cases idxS ss r with
  | none => rfl
  | some i => simp only [Option.map_some, Nat.zero_add]
theorem entsA_append : ∀ (ss : List (List Bool)) (r : List Bool) (k : Nat), entsA k (ss ++ [r]) = entsA k ss ++ [(txt r, .int .i64 ((k + ss.length : Nat) : Int))]
  | [], r, k => by simp [entsA]
  | s :: ss, r, k => by
    simp only [List.cons_append, entsA, entsA_append ss r, List.length_cons]
    rw [show k + 1 + ss.length = k + (ss.length + 1) by omega]
theorem ents_append (ss : List (List Bool)) (r : List Bool) : ents (ss ++ [r]) = ents ss ++ [(txt r, .int .i64 (ss.length : Int))] := by
  unfold ents
  rw [entsA_append]
  simp
/-- The shapes once one was asked for, and its number. -/
def addS (ss : List (List Bool)) (r : List Bool) : List (List Bool) := match idxS ss r with
  | some _ => ss
  | none => ss ++ [r]
def numS (ss : List (List Bool)) (r : List Bool) : Nat := match idxS ss r with
  | some i => i
  | none => ss.length
theorem addS_at (ss : List (List Bool)) (r : List Bool) : (addS ss r)[numS ss r]? = some r := by
  unfold addS numS
  cases e : idxS ss r with
  | some i => exact idxS_some e
  | none => simp
theorem addS_old {ss : List (List Bool)} {r s : List Bool} {i : Nat} (h : ss[i]? = some s) : (addS ss r)[i]? = some s := by
  unfold addS
  split
  · exact h
  · rw [List.getElem?_append_left (List.getElem?_eq_some_iff.1 h).1]; exact h
variable {n0 : Nat} {w : World} {H : HB} {most : Nat} {l : List Ob} {ss : List (List Bool)}
theorem Wf.addS (h : Wf ss l) (r : List Bool) : Wf (ss ++ [r]) l := by
  intro p o e
  obtain ⟨a, b⟩ := h p o e
  refine ⟨a, fun h0 => ?_⟩
  obtain ⟨x, hx, hl⟩ := b h0
  exact ⟨x, by rw [List.getElem?_append_left (List.getElem?_eq_some_iff.1 hx).1]; exact hx, hl⟩
theorem HeapV.shape (h : HeapV n0 w H most l ss) {r : List Bool} {v' : Value} {w1 : World} {es : Array MapEntry} {clk : Nat} (ho : w1.ownsRow n0 9 1 v' (ss ++ [r]).length (xcells (ss ++ [r]))) (hg : w.grownBy w1 H.sv.ownBlock) (ha : v'.ownBlock = H.sv.ownBlock ∨ ∃ g, v'.ownBlock = some g ∧ w.heap.size ≤ g)
    (hm : SMap (setBlock (w1.setCell ⟨H.hb, 3, none⟩ v') H.mb (.map es clk)) H.mb (ents ss ++ [(txt r, .int .i64 (ss.length : Int))])) :
    HeapV n0 (setBlock (w1.setCell ⟨H.hb, 3, none⟩ v') H.mb (.map es clk)) { H with sv := v' } most l (ss ++ [r]) ∧ HStep H { H with sv := v' } w (setBlock (w1.setCell ⟨H.hb, 3, none⟩ v') H.mb (.map es clk)) := by
  have hbw : w1.heap[H.hb]? = w.heap[H.hb]? := hg.block _ h.box.lt (fun e => own_not h.so h.box (by decide) e.symm)
  have hmb : H.mb ≠ H.hb := fun e => by
    obtain ⟨es, cl, hm, _⟩ := h.map
    have := h.box
    unfold Blk at this
    rw [← e, hm] at this
    cases this
  have hmw : SMap w1 H.mb (ents ss) := h.map.kept (hg.block _ h.map.lt (fun e => own_notM h.so h.map e.symm))
  have hk : ∀ b, b ≠ H.hb → b ≠ H.mb → (setBlock (w1.setCell ⟨H.hb, 3, none⟩ v') H.mb (.map es clk)).heap[b]? = w1.heap[b]? := fun b h1 h2 => (setBlock_other _ _ _ _ h2).trans (heap_setCell_other w1 ⟨H.hb, 3, none⟩ b _ h1)
  have hv : v'.ownBlock ≠ some H.hb := own_not ho (h.box.kept hbw) (by decide)
  have hv2 : v'.ownBlock ≠ some H.mb := own_notM ho hmw
  have hsz : (setBlock (w1.setCell ⟨H.hb, 3, none⟩ v') H.mb (.map es clk)).heap.size = w1.heap.size := by simp [setBlock]
  refine ⟨⟨h.lo, h.lom, ?_, own_kept h.wo (fun b e => (hk b (fun e' => own_not h.wo h.box (by decide) (e' ▸ e)) (fun e' => own_notM h.wo h.map (e' ▸ e))).trans (hg.block b (h.wo.lt b e).2 (fun e' => own_apart h.wo h.so (by decide) e e'.symm))), own_kept h.bo (fun b e => (hk b (fun e' => own_not h.bo h.box (by decide) (e' ▸ e)) (fun e' => own_notM h.bo h.map (e' ▸ e))).trans (hg.block b (h.bo.lt b e).2 (fun e' => own_apart h.bo h.so (by decide) e e'.symm))), own_kept ho (fun b e => hk b (fun e' => hv (e' ▸ e)) (fun e' => hv2 (e' ▸ e))), by rw [ents_append]; exact hm, h.wf.addS r, h.few, h.most⟩, hg.os, hg.tape, hg.output, by rw [hsz]; exact hg.size, fun b hb hn => (hk b (fun e => hn (.inl e)) (fun e => hn (.inr (.inl e)))).trans (hg.block b hb (fun e => hn (.inr <| .inr <| .inr <| .inr e.symm))), rfl, fun b hb => ?_⟩
  · have h1 := (h.box.kept hbw).set 3 v'
    have : Blk (w1.setCell ⟨H.hb, 3, none⟩ v') H.hb (HB.row { H with sv := v' } most) 89 := by simpa [HB.row] using h1
    exact this.kept (setBlock_other _ _ _ _ (Ne.symm hmb))
  · rcases hb with e | e | e | e | e
    · exact .inl (.inl e)
    · exact .inl (.inr (.inl e))
    · exact .inl (.inr (.inr (.inl e)))
    · exact .inl (.inr (.inr (.inr (.inl e))))
    · rcases ha with e' | ⟨g, e', hge⟩
      · exact .inl (.inr (.inr (.inr (.inr (e' ▸ e)))))
      · exact .inr (by rw [show v'.ownBlock = some b from e, Option.some.injEq] at e'; omega)
theorem Try.infoT : (Try.prog.info? 9).map (fun i => (i.zero, i.size, i.bytes)) = some (some (.string ⟨#[]⟩), 1, 16) := by kernel_rfl
theorem wpList_xappend {w : World} {ops : Array Oper} {rest : List Oper} {o : Oper} {a : Act} {Q : Exit → Act → World → Prop} (hgd : o.guard = none) (s x : Operand)
    (ho : o.op = .call { callee := .builtin .append, args := #[s, x], argTypes := #[86, 86] })
    (B : Nat) (v : Value) (l : List (List Bool)) (y : List Bool) (hown : w.ownsRow B 9 1 v l.length (xcells l)) (hs : a.eval s = v) (hx : a.eval x = .slice (some ⟨w.heap.size, 0, none⟩) 1 1)
    (hlen : l.length ≤ 1000000000000) (hB : B ≤ w.heap.size)
    (h : ∀ ao' cap' w', w'.ownsRow B 9 1 (.slice ao' (l.length + 1) cap') (l ++ [y]).length (xcells (l ++ [y])) → Step v (w.alloc (.cells #[.string (txt y)] 9)) (.slice ao' (l.length + 1) cap') w' → wpList Try.prog ops Q rest (a.put o.dst (.slice ao' (l.length + 1) cap')) w') :
    wpList Try.prog ops Q (o :: rest) a (w.alloc (.cells #[.string (txt y)] 9)) := by
  obtain ⟨i0, hi, hz0, hz1, hz2⟩ := info_parts Try.infoT
  refine wpList_plain hgd fun K hK => ?_
  have hown' : (w.alloc (.cells #[.string (txt y)] 9)).ownsRow B 9 1 v l.length (xcells l) := own_below hown (balloc w _)
  have hone : ∀ u ∈ [Value.string (txt y)], u.oneCell' = true := by
    intro u hu
    obtain rfl : u = .string (txt y) := by simpa using hu
    rfl
  obtain ⟨v', w', hr, h2, h3, _, h4⟩ := run_append_own_at (P := Try.prog) (w.alloc (.cells #[.string (txt y)] 9)) B 86 o.type 9 i0 (.string ⟨#[]⟩) 1 16 Try.underlying86 hi hz0 hz1 hz2 rfl (by decide) v l.length (xcells l) hown' ⟨w.heap.size, 0, none⟩ 1 1 [.string (txt y)] rfl
    (fun j u hj => by
      have e : (⟨w.heap.size, 0, none⟩ : Addr).add j = ⟨w.heap.size, j, none⟩ := by unfold Addr.add; split <;> simp_all
      rw [e]
      have := (Blk.new w #[.string (txt y)] 9).cell j
      rw [this]
      simpa using hj) hone (by unfold maxLen; omega) (by omega) (by simp; omega)
  unfold Oper.wp execOp
  simp only [ho, resolve, invoke, builtin, Sem.run_bind, Sem.run_pure, Result.andThen_ok, List.map_toArray, List.map_cons, List.map_nil, hs, hx, hr]
  obtain ⟨ao', cap', rfl⟩ := own_slice h2
  refine hK _ _ (h ao' cap' w' ?_ ⟨h3, h4.imp id fun e => ⟨_, e, Nat.le_refl _⟩⟩)
  rw [show xcells (l ++ [y]) = xcells l ++ [.string (txt y)] by simp [xcells], List.length_append]
  exact h2
end Go.Proofs.Ytbdeflpjplhafaa.J

