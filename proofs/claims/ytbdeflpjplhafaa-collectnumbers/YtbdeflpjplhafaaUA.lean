/- The document's own heap as it lies in memory, and what is asked of it: walked. -/
import Derived.Test.YtbdeflpjplhafaaJZ
namespace Go.Proofs.Ytbdeflpjplhafaa.J
open Go.RowKit Go.MapKept Go.ChangeMaps
set_option linter.unusedVariables false

def ocell (at_ : Nat) (o : Ob) (fv : Value) : List Value := [.int .i64 ((at_ : Int) + 1), .int .i64 o.sh, fv, .int .i64 o.tag]
def ocells : Nat → List Ob → List Value → List Value
  | p, o :: l, v :: fvs => ocell p o v ++ ocells (p + (o.f.length + 3)) l fvs
  | _, _, _ => []
theorem ocells_len : ∀ (l : List Ob) (fvs : List Value) (p : Nat), fvs.length = l.length → (ocells p l fvs).length = l.length * 4
  | [], [], p, _ => rfl
  | o :: l, v :: fvs, p, h => by
    simp only [ocells, List.length_append, ocells_len l fvs _ (by simpa using h), List.length_cons, ocell, List.length_nil]
    omega
  | [], _ :: _, p, h => by simp at h
  | _ :: _, [], p, h => by simp at h
theorem ocells_at : ∀ (l : List Ob) (fvs : List Value) (p i c : Nat) (o : Ob) (v : Value), l[i]? = some o → fvs[i]? = some v → c < 4 → (ocells p l fvs)[i * 4 + c]? = (ocell (p + usedN (l.take i)) o v)[c]?
  | [], fvs, p, i, c, o, v, h, _, _ => by simp at h
  | _ :: _, [], p, i, c, o, v, _, h, _ => by simp at h
  | x :: l, y :: fvs, p, 0, c, o, v, h, h', hc => by
    obtain rfl : x = o := by simpa using h
    obtain rfl : y = v := by simpa using h'
    simp only [ocells, Nat.zero_mul, Nat.zero_add, List.take_zero, usedN, Nat.add_zero]
    rw [List.getElem?_append_left (by simpa [ocell] using hc)]
  | x :: l, y :: fvs, p, i + 1, c, o, v, h, h', hc => by
    simp only [ocells, List.take_succ_cons, usedN]
    rw [List.getElem?_append_right (by simp [ocell]; omega), show (i + 1) * 4 + c - (ocell p x y).length = i * 4 + c by simp [ocell]; omega]
    rw [ocells_at l fvs _ i c o v (by simpa using h) (by simpa using h') hc]
    rw [show p + (x.f.length + 3) + usedN (l.take i) = p + (x.f.length + 3 + usedN (l.take i)) by omega]
theorem ocells_append : ∀ (l : List Ob) (fvs : List Value) (p : Nat) (o : Ob) (v : Value), fvs.length = l.length → ocells p (l ++ [o]) (fvs ++ [v]) = ocells p l fvs ++ ocell (p + usedN l) o v
  | [], [], p, o, v, _ => by simp [ocells, usedN]
  | x :: l, y :: fvs, p, o, v, h => by
    simp only [List.cons_append, ocells, ocells_append l fvs _ o v (by simpa using h), usedN, List.append_assoc]
    rw [show p + (x.f.length + 3) + usedN l = p + (x.f.length + 3 + usedN l) by omega]
  | [], _ :: _, p, o, v, h => by simp at h
  | _ :: _, [], p, o, v, h => by simp at h
structure RB where
  rb : Nat
  lv : Value
  sv : Value
  fvs : List Value
  gvs : List Value
def RB.ptr (R : RB) : Value := .pointer (some ⟨R.rb, 0, none⟩)
def RB.has (R : RB) (b : Nat) : Prop := b = R.rb ∨ R.lv.ownBlock = some b ∨ R.sv.ownBlock = some b ∨ (∃ v ∈ R.fvs, v.ownBlock = some b) ∨ (∃ v ∈ R.gvs, v.ownBlock = some b)
structure RV (n0 : Nat) (w : World) (R : RB) (most : Nat) (l : List Ob) (ss : List (List Bool)) : Prop where
  lo : n0 ≤ R.rb
  box : Blk w R.rb #[.int .i64 (most : Int), R.lv, R.sv] 95
  lo_ : w.ownsRow n0 103 4 R.lv l.length (ocells 0 l R.fvs)
  fl : R.fvs.length = l.length
  fo : ∀ (i : Nat) v o, R.fvs[i]? = some v → l[i]? = some o → w.ownsRow n0 2 1 v o.f.length (icells o.f)
  so : w.ownsRow n0 52 1 R.sv ss.length R.gvs
  go : ∀ (i : Nat) v r, R.gvs[i]? = some v → ss[i]? = some r → w.ownsRow n0 4 1 v r.length (tcells r)
  ap : ∀ (i j : Nat) v u b, i ≠ j → R.fvs[i]? = some v → R.fvs[j]? = some u → v.ownBlock = some b → u.ownBlock ≠ some b
  wf : Wf ss l
  few : usedN l ≤ most
  most : most ≤ 16384
variable {n0 : Nat} {w : World} {R : RB} {most : Nat} {l : List Ob} {ss : List (List Bool)}
theorem RV.fv (h : RV n0 w R most l ss) {i : Nat} {o : Ob} (hi : l[i]? = some o) : ∃ v, R.fvs[i]? = some v := ⟨R.fvs[i]'(by rw [h.fl]; exact (List.getElem?_eq_some_iff.1 hi).1), List.getElem?_eq_getElem _⟩
theorem RV.gl (h : RV n0 w R most l ss) : R.gvs.length = ss.length := by have := h.so.1; simpa using this
theorem RV.lt (h : RV n0 w R most l ss) {b : Nat} (hb : R.has b) : n0 ≤ b ∧ b < w.heap.size := by
  rcases hb with rfl | e | e | ⟨v, hv, e⟩ | ⟨v, hv, e⟩
  · exact ⟨h.lo, h.box.lt⟩
  · exact h.lo_.lt _ e
  · exact h.so.lt _ e
  · obtain ⟨i, hi⟩ := List.getElem?_of_mem hv
    have hl := (List.getElem?_eq_some_iff.1 hi).1
    rw [h.fl] at hl
    exact (h.fo i v l[i] hi (List.getElem?_eq_getElem hl)).lt _ e
  · obtain ⟨i, hi⟩ := List.getElem?_of_mem hv
    have hl := (List.getElem?_eq_some_iff.1 hi).1
    rw [h.gl] at hl
    exact (h.go i v ss[i] hi (List.getElem?_eq_getElem hl)).lt _ e
theorem RV.kept {w' : World} (h : RV n0 w R most l ss) (hb : ∀ b, R.has b → w'.heap[b]? = w.heap[b]?) : RV n0 w' R most l ss :=
  ⟨h.lo, h.box.kept (hb _ (.inl rfl)), own_kept h.lo_ (fun g e => hb g (.inr (.inl e))), h.fl, fun i v o hv ho => own_kept (h.fo i v o hv ho) (fun g e => hb g (.inr (.inr (.inr (.inl ⟨v, List.mem_of_getElem? hv, e⟩))))), own_kept h.so (fun g e => hb g (.inr (.inr (.inl e)))), fun i v r hv hr => own_kept (h.go i v r hv hr) (fun g e => hb g (.inr (.inr (.inr (.inr ⟨v, List.mem_of_getElem? hv, e⟩))))), h.ap, h.wf, h.few, h.most⟩
theorem RV.below {w' : World} (h : RV n0 w R most l ss) (hb : Below w.heap.size w w') : RV n0 w' R most l ss := h.kept fun b e => hb.block b (h.lt e).2
/-- Only the blocks of the document's own heap are turned. -/
structure RStep (R R' : RB) (w w' : World) : Prop where
  os : w'.os = w.os
  tape : w'.tape = w.tape
  output : w'.output = w.output
  size : w.heap.size ≤ w'.heap.size
  block : ∀ b, b < w.heap.size → ¬ R.has b → w'.heap[b]? = w.heap[b]?
  rb : R'.rb = R.rb
  moved : ∀ b, R'.has b → R.has b ∨ w.heap.size ≤ b
theorem RStep.refl (R : RB) (w : World) : RStep R R w w := ⟨rfl, rfl, rfl, Nat.le_refl _, fun _ _ _ => rfl, rfl, fun _ h => .inl h⟩
theorem RStep.trans {A B C : RB} {u v w : World} (h : RStep A B u v) (k : RStep B C v w) : RStep A C u w :=
  ⟨k.os.trans h.os, k.tape.trans h.tape, k.output.trans h.output, Nat.le_trans h.size k.size, fun b hb hn => (k.block b (Nat.lt_of_lt_of_le hb h.size) (fun e => by rcases h.moved b e with x | x; exact hn x; omega)).trans (h.block b hb hn), k.rb.trans h.rb, fun b e => by
    rcases k.moved b e with x | x
    · exact h.moved b x
    · exact .inr (Nat.le_trans h.size x)⟩
theorem RStep.of_below {w' : World} (h : Below w.heap.size w w') : RStep R R w w' := ⟨h.os, h.tape, h.output, h.size, fun b hb _ => h.block b hb, rfl, fun _ e => .inl e⟩
/-- A row's cell, whatever the size of its elements. -/
theorem own_cellk {w : World} {B e k n : Nat} {ao : Option Addr} {cap : Nat} {xs : List Value} (h : w.ownsRow B e k (.slice ao n cap) n xs) {j : Nat} {x : Value} (hx : xs[j]? = some x) : ∃ g, ao = some ⟨g, 0, none⟩ ∧ B ≤ g ∧ g < w.heap.size ∧ w.cell? ⟨g, j, none⟩ = some x ∧ w.frozen? ⟨g, j, none⟩ = false := by
  have hj : j < xs.length := (List.getElem?_eq_some_iff.1 hx).1
  rcases h.2 with ⟨_, h0⟩ | ⟨g, cap', cur, e1, hB, hg, h1, h2, h3, h4⟩
  · rw [h.1, h0] at hj; simp at hj
  · cases e1
    refine ⟨g, rfl, hB, (Array.getElem?_eq_some_iff.1 hg).1, ?_, by simp [World.frozen?, hg]⟩
    rw [cell_of_row w g j _ e (0, 0) hg]
    rw [← h4, List.getElem?_take, Array.getElem?_toList] at hx
    split at hx
    · exact hx
    · cases hx
theorem own_capk {w : World} {B e s n : Nat} {ao : Option Addr} {cap : Nat} {xs : List Value} (h : w.ownsRow B e s (.slice ao n cap) n xs) : n ≤ cap ∧ cap ≤ maxLen := own_cap h
/-- The cells of an object. -/
theorem RV.obj (h : RV n0 w R most l ss) {i : Nat} {o : Ob} (hi : l[i]? = some o) : ∃ g cap v, R.lv = .slice (some ⟨g, 0, none⟩) l.length cap ∧ R.fvs[i]? = some v ∧ w.cell? ⟨g, i * 4, none⟩ = some (.int .i64 ((usedN (l.take i) : Int) + 1)) ∧ w.cell? ⟨g, i * 4 + 1, none⟩ = some (.int .i64 o.sh) ∧ w.cell? ⟨g, i * 4 + 2, none⟩ = some v ∧ w.cell? ⟨g, i * 4 + 3, none⟩ = some (.int .i64 o.tag) ∧ ∀ c, w.frozen? ⟨g, c, none⟩ = false := by
  obtain ⟨v, hv⟩ := h.fv hi
  obtain ⟨ao, cap, e⟩ := own_slice h.lo_
  have ho := h.lo_
  rw [e] at ho
  have hc := fun c hc => ocells_at l R.fvs 0 i c o v hi hv hc
  simp only [Nat.zero_add] at hc
  obtain ⟨g, rfl, -, -, h0, -⟩ := own_cellk ho ((hc 0 (by decide)).trans rfl)
  obtain ⟨g1, e1, -, -, h1, -⟩ := own_cellk ho ((hc 1 (by decide)).trans rfl)
  obtain ⟨g2, e2, -, -, h2, -⟩ := own_cellk ho ((hc 2 (by decide)).trans rfl)
  obtain ⟨g3, e3, -, -, h3, -⟩ := own_cellk ho ((hc 3 (by decide)).trans rfl)
  cases e1; cases e2; cases e3
  refine ⟨g, cap, v, e, hv, by simpa using h0, h1, h2, h3, fun c => ?_⟩
  rcases ho.2 with ⟨e1, _⟩ | ⟨g', cap', cur, e1, hB, hg, _⟩
  · cases e1
  · cases e1
    simp [World.frozen?, hg]
end Go.Proofs.Ytbdeflpjplhafaa.J

