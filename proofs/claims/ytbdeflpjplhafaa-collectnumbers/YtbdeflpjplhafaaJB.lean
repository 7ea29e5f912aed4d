/- A heap as it lies in memory. -/
import Derived.Test.YtbdeflpjplhafaaJA
import Derived.WalkKit
import Derived.WalkSpells
import Derived.WalkLawsBesides
import Derived.Maps.AppendAt
import Derived.Maps.OwnIn
import Derived.Maps.Keyed
import Derived.Deep.AppendLies
import Derived.Laws.OwnMore
import Derived.Laws.Tables
import Derived.Laws.Rows
import Derived.Deep.RegionHeld3
import Derived.Lib.OwnKind
import Derived.OneCell
import Derived.Deep.QuietTactic
import Derived.BigQuiet
namespace Go.Proofs.Ytbdeflpjplhafaa.J
open Go.RowKit Go.MapKept Go.ChangeMaps

theorem hidIt {p : Prop} (h : p) : Hid p := h
theorem balloc (w : World) (o : Obj) : Below w.heap.size w (w.alloc o) := (Below.refl _ _).alloc (Nat.le_refl _) o

/-! Maps with texts for keys. -/
def SMap (w : World) (b : Nat) (l : List (ByteArray × Value)) : Prop :=
  ∃ es clock, w.heap[b]? = some (.map es clock) ∧ es.toList.map (fun e => (e.key, e.val)) = l.map (fun p => (Value.string p.1, p.2))
def slook : List (ByteArray × Value) → ByteArray → Option Value
  | [], _ => none
  | p :: l, s => if s == p.1 then some p.2 else slook l s
theorem findNow_str (s : ByteArray) : ∀ (es : List MapEntry) (l : List (ByteArray × Value)) (i : Nat), es.map (fun e => (e.key, e.val)) = l.map (fun p => (Value.string p.1, p.2)) →
    (slook l s = none → Instr.findNow .string (.string s) es i = some none) ∧ (∀ v, slook l s = some v → ∃ j, Instr.findNow .string (.string s) es i = some (some (j, v)))
  | [], [], i, _ => ⟨fun _ => rfl, fun v h => by simp [slook] at h⟩
  | [], p :: l, i, h => by simp at h
  | e :: es, [], i, h => by simp at h
  | e :: es, p :: l, i, h => by
    simp only [List.map_cons, List.cons.injEq, Prod.mk.injEq] at h
    obtain ⟨⟨h1, h2⟩, h3⟩ := h
    obtain ⟨a, b⟩ := findNow_str s es l (i + 1) h3
    unfold slook Instr.findNow
    rw [h1]
    cases hs : s == p.1
    · simp only [Instr.sameNow, hs]
      exact ⟨a, b⟩
    · simp only [Instr.sameNow, hs]
      exact ⟨fun h => by simp at h, fun v h => ⟨i, by rw [h2]; simpa using h⟩⟩
theorem check_str {P : Program} {k : TypeId} (hk : P.underlying k = some .string) (e : Bool) (n : Nat) (s : ByteArray) (w : World) : (Instr.checkKey e (n + 1) k (.string s)).run P w = .ok () w := by
  simp [Instr.checkKey, run_underlying hk, Result.andThen]
theorem SMap.look2 {P : Program} {w : World} {b : Nat} {l : List (ByteArray × Value)} {t k e : TypeId} (h : SMap w b l) (ht : P.underlying t = some (.map k e)) (hk : P.underlying k = some .string)
    {z : Value} (hz : (zeroValue e).run P w = .ok z w) (s : ByteArray) : (Instr.lookup t (.map (some b)) (.string s) true).run P w = .ok (.tuple #[(slook l s).getD z, .bool (slook l s).isSome]) w := by
  obtain ⟨es, clock, hb, he⟩ := h
  obtain ⟨f1, f2⟩ := findNow_str s es.toList l 0 he
  cases hs : slook l s with
  | none => simp [Instr.lookup, run_underlying ht, MapKept.run_getObj_map hb, check_str hk _ 9999, run_underlying hk, Instr.findKey, f1 hs, hz, Result.andThen]
  | some v =>
    obtain ⟨j, f3⟩ := f2 v hs
    simp [Instr.lookup, run_underlying ht, MapKept.run_getObj_map hb, check_str hk _ 9999, run_underlying hk, Instr.findKey, f3, Result.andThen]
theorem SMap.put {P : Program} {w : World} {b : Nat} {l : List (ByteArray × Value)} {t k e : TypeId} (h : SMap w b l) (ht : P.underlying t = some (.map k e)) (hk : P.underlying k = some .string)
    (s : ByteArray) (v : Value) (hs : slook l s = none) : ∃ es clock, (Instr.mapUpdate t (.map (some b)) (.string s) v).run P w = .ok () (setBlock w b (.map es clock)) ∧ SMap (setBlock w b (.map es clock)) b (l ++ [(s, v)]) := by
  obtain ⟨es, clock, hb, he⟩ := h
  obtain ⟨f1, f2⟩ := findNow_str s es.toList l 0 he
  refine ⟨es.push ⟨.string s, v, clock⟩, clock + 1, ?_, ?_⟩
  · simp [Instr.mapUpdate, run_underlying ht, MapKept.run_getObj_map hb, check_str hk _ 9999, run_underlying hk, Instr.findKey, f1 hs, MapKept.run_setObj_map _ hb, Result.andThen, setBlock]
  · refine ⟨es.push ⟨.string s, v, clock⟩, clock + 1, ?_, ?_⟩
    · have := (Array.getElem?_eq_some_iff.1 hb).1
      simp [setBlock, this]
    · simp [he]
theorem SMap.kept {w w' : World} {b : Nat} {l : List (ByteArray × Value)} (h : SMap w b l) (hb : w'.heap[b]? = w.heap[b]?) : SMap w' b l := by
  obtain ⟨es, clock, h1, h2⟩ := h
  exact ⟨es, clock, hb.trans h1, h2⟩
theorem SMap.lt {w : World} {b : Nat} {l : List (ByteArray × Value)} (h : SMap w b l) : b < w.heap.size := by
  obtain ⟨es, clock, h1, _⟩ := h
  exact (Array.getElem?_eq_some_iff.1 h1).1
theorem setBlock_other (w : World) (b k : Nat) (o : Obj) (h : k ≠ b) : (setBlock w b o).heap[k]? = w.heap[k]? := by
  unfold setBlock
  simp [Ne.symm h]

/-! Blocks, and rows of one's own. -/
def Blk (W : World) (b : Nat) (row : Array Value) (t : TypeId) : Prop := W.heap[b]? = some (.cells row t (0, 0))
theorem Blk.lt {W : World} {b : Nat} {row : Array Value} {t : TypeId} (h : Blk W b row t) : b < W.heap.size := (Array.getElem?_eq_some_iff.1 h).1
theorem Blk.cell {W : World} {b : Nat} {row : Array Value} {t : TypeId} (h : Blk W b row t) (i : Nat) : W.cell? ⟨b, i, none⟩ = row[i]? := by simp [World.cell?, show W.heap[b]? = _ from h]
theorem Blk.frozen {W : World} {b : Nat} {row : Array Value} {t : TypeId} (h : Blk W b row t) (i : Nat) : W.frozen? ⟨b, i, none⟩ = false := by simp [World.frozen?, show W.heap[b]? = _ from h]
theorem Blk.new (W : World) (row : Array Value) (t : TypeId) : Blk (W.alloc (.cells row t)) W.heap.size row t := heap_alloc_new W _
theorem Blk.kept {X Y : World} {b : Nat} {row : Array Value} {t : TypeId} (h : Blk X b row t) (hb : Y.heap[b]? = X.heap[b]?) : Blk Y b row t := hb.trans h
theorem Blk.set {W : World} {b : Nat} {row : Array Value} {t : TypeId} (h : Blk W b row t) (i : Nat) (v : Value) : Blk (W.setCell ⟨b, i, none⟩ v) b (row.setIfInBounds i v) t := by
  obtain ⟨hlt, hk⟩ := Array.getElem?_eq_some_iff.1 h
  show (W.heap.modify b _)[b]? = _
  rw [Array.getElem?_eq_getElem (by rw [Array.size_modify]; exact hlt), Array.getElem_modify_self, hk]
  rfl
theorem own_slice {w : World} {B e s n : Nat} {v : Value} {xs : List Value} (h : w.ownsRow B e s v n xs) : ∃ ao cap, v = .slice ao n cap := by
  rcases h.2 with ⟨rfl, rfl⟩ | ⟨g, cap, cur, rfl, _⟩
  · exact ⟨_, _, rfl⟩
  · exact ⟨_, _, rfl⟩
theorem own_kept {w w' : World} {B e s n : Nat} {v : Value} {xs : List Value} (h : w.ownsRow B e s v n xs) (hb : ∀ g, v.ownBlock = some g → w'.heap[g]? = w.heap[g]?) : w'.ownsRow B e s v n xs := by
  refine ⟨h.1, ?_⟩
  rcases h.2 with x | ⟨g, cap, cur, rfl, hB, hg2, r⟩
  · exact .inl x
  · exact .inr ⟨g, cap, cur, rfl, hB, (hb g rfl).trans hg2, r⟩
theorem own_wk {w : World} {B B' n s : Nat} {T : TypeId} {v : Value} {xs : List Value} (h : w.ownsRow B T s v n xs) (hB : B' ≤ B) : w.ownsRow B' T s v n xs := by
  refine ⟨h.1, ?_⟩
  rcases h.2 with x | ⟨g, cap, cur, e, hb, r⟩
  · exact .inl x
  · exact .inr ⟨g, cap, cur, e, by omega, r⟩
theorem own_not {w : World} {B : Nat} {e : TypeId} {k : Nat} {v : Value} {n : Nat} {xs : List Value} (h : w.ownsRow B e k v n xs) {b : Nat} {row : Array Value} {t : TypeId} (hb : Blk w b row t) (ht : t ≠ e) : v.ownBlock ≠ some b := fun eb => by
  obtain ⟨c, fz, h'⟩ := Lib.ownsRow_kind h b eb
  rw [show w.heap[b]? = _ from hb] at h'
  simp only [Option.some.injEq, Obj.cells.injEq] at h'
  exact ht h'.2.1
theorem own_notM {w : World} {B : Nat} {e : TypeId} {k : Nat} {v : Value} {n : Nat} {xs : List Value} (h : w.ownsRow B e k v n xs) {b : Nat} {l : List (ByteArray × Value)} (hb : SMap w b l) : v.ownBlock ≠ some b := fun eb => by
  obtain ⟨c, fz, h'⟩ := Lib.ownsRow_kind h b eb
  obtain ⟨es, cl, hm, _⟩ := hb
  rw [hm] at h'
  cases h'
theorem own_apart {w : World} {B B' : Nat} {e e' : TypeId} {k k' : Nat} {v v' : Value} {n n' : Nat} {xs xs' : List Value} (h : w.ownsRow B e k v n xs) (h' : w.ownsRow B' e' k' v' n' xs') (ht : e ≠ e') {g : Nat} (hg : v.ownBlock = some g) : v'.ownBlock ≠ some g := fun eb => by
  obtain ⟨c, fz, h1⟩ := Lib.ownsRow_kind h g hg
  obtain ⟨c', fz', h2⟩ := Lib.ownsRow_kind h' g eb
  rw [h1] at h2
  simp only [Option.some.injEq, Obj.cells.injEq] at h2
  exact ht h2.2.1
/-- What lies in a row of one's own, cell by cell. -/
theorem own_cell {w : World} {B e n : Nat} {ao : Option Addr} {cap : Nat} {xs : List Value} (h : w.ownsRow B e 1 (.slice ao n cap) n xs) {j : Nat} {x : Value} (hx : xs[j]? = some x) : ∃ g, ao = some ⟨g, 0, none⟩ ∧ B ≤ g ∧ g < w.heap.size ∧ w.cell? ⟨g, j, none⟩ = some x ∧ w.frozen? ⟨g, j, none⟩ = false := by
  have hj : j < xs.length := (List.getElem?_eq_some_iff.1 hx).1
  rcases h.2 with ⟨_, h0⟩ | ⟨g, cap', cur, e1, hB, hg, h1, h2, h3, h4⟩
  · rw [h.1, h0] at hj; simp at hj
  · cases e1
    refine ⟨g, rfl, hB, (Array.getElem?_eq_some_iff.1 hg).1, ?_, by simp [World.frozen?, hg]⟩
    rw [cell_of_row w g j _ e (0, 0) hg]
    rw [← h4, List.getElem?_take, Array.getElem?_toList] at hx
    split at hx
    · exact hx
    · cases hx
theorem own_cap {w : World} {B e s n : Nat} {ao : Option Addr} {cap : Nat} {xs : List Value} (h : w.ownsRow B e s (.slice ao n cap) n xs) : n ≤ cap ∧ cap ≤ maxLen := by
  rcases h.2 with ⟨h1, h0⟩ | ⟨g, cap', cur, e1, hB, hg, h1, h2, h3, h4⟩
  · cases h1; exact ⟨Nat.le_refl _, by unfold maxLen; omega⟩
  · cases e1; exact ⟨h1, h2⟩

/-! A heap. -/
def icells (l : List Int) : List Value := l.map (Value.int .i64)
def tcells (l : List Bool) : List Value := l.map Value.bool
/-- A shape as a text. -/
def txt (r : List Bool) : ByteArray := ⟨(r.map fun b => if b then (114 : UInt8) else 110).toArray⟩
def xcells (ss : List (List Bool)) : List Value := ss.map fun r => .string (txt r)
def entsA : Nat → List (List Bool) → List (ByteArray × Value)
  | _, [] => []
  | k, r :: ss => (txt r, .int .i64 k) :: entsA (k + 1) ss
def ents (ss : List (List Bool)) : List (ByteArray × Value) := entsA 0 ss
structure HB where
  hb : Nat
  mb : Nat
  wv : Value
  bv : Value
  sv : Value
def HB.ptr (H : HB) : Value := .pointer (some ⟨H.hb, 0, none⟩)
def HB.row (H : HB) (most : Nat) : Array Value := #[.int .i64 (most : Int), H.wv, H.bv, H.sv, .map (some H.mb)]
def HB.has (H : HB) (b : Nat) : Prop := b = H.hb ∨ b = H.mb ∨ H.wv.ownBlock = some b ∨ H.bv.ownBlock = some b ∨ H.sv.ownBlock = some b
structure HeapV (n0 : Nat) (w : World) (H : HB) (most : Nat) (l : List Ob) (ss : List (List Bool)) : Prop where
  lo : n0 ≤ H.hb
  lom : n0 ≤ H.mb
  box : Blk w H.hb (H.row most) 89
  wo : w.ownsRow n0 2 1 H.wv (usedN l) (icells (wsL l))
  bo : w.ownsRow n0 4 1 H.bv (usedN l) (tcells (bsL l))
  so : w.ownsRow n0 9 1 H.sv ss.length (xcells ss)
  map : SMap w H.mb (ents ss)
  wf : Wf ss l
  few : usedN l ≤ most
  most : most ≤ 16384
theorem HeapV.lt {n0 : Nat} {w : World} {H : HB} {most : Nat} {l : List Ob} {ss : List (List Bool)} (h : HeapV n0 w H most l ss) {b : Nat} (hb : H.has b) : n0 ≤ b ∧ b < w.heap.size := by
  rcases hb with rfl | rfl | e | e | e
  · exact ⟨h.lo, h.box.lt⟩
  · exact ⟨h.lom, h.map.lt⟩
  · exact h.wo.lt _ e
  · exact h.bo.lt _ e
  · exact h.so.lt _ e
theorem HeapV.kept {n0 : Nat} {w w' : World} {H : HB} {most : Nat} {l : List Ob} {ss : List (List Bool)} (h : HeapV n0 w H most l ss) (hb : ∀ b, H.has b → w'.heap[b]? = w.heap[b]?) : HeapV n0 w' H most l ss :=
  ⟨h.lo, h.lom, h.box.kept (hb _ (.inl rfl)), own_kept h.wo (fun g e => hb g (.inr (.inr (.inl e)))), own_kept h.bo (fun g e => hb g (.inr (.inr (.inr (.inl e))))), own_kept h.so (fun g e => hb g (.inr (.inr (.inr (.inr e))))), h.map.kept (hb _ (.inr (.inl rfl))), h.wf, h.few, h.most⟩
theorem HeapV.below {n0 : Nat} {w w' : World} {H : HB} {most : Nat} {l : List Ob} {ss : List (List Bool)} (h : HeapV n0 w H most l ss) (hb : Below w.heap.size w w') : HeapV n0 w' H most l ss := h.kept fun b e => hb.block b (h.lt e).2
/-- Only the heap's own blocks are turned. -/
structure HStep (H H' : HB) (w w' : World) : Prop where
  os : w'.os = w.os
  tape : w'.tape = w.tape
  output : w'.output = w.output
  size : w.heap.size ≤ w'.heap.size
  block : ∀ b, b < w.heap.size → ¬ H.has b → w'.heap[b]? = w.heap[b]?
  hb : H'.hb = H.hb
  moved : ∀ b, H'.has b → H.has b ∨ w.heap.size ≤ b
theorem HStep.refl (H : HB) (w : World) : HStep H H w w := ⟨rfl, rfl, rfl, Nat.le_refl _, fun _ _ _ => rfl, rfl, fun _ h => .inl h⟩
theorem HStep.trans {A B C : HB} {u v w : World} (h : HStep A B u v) (k : HStep B C v w) : HStep A C u w :=
  ⟨k.os.trans h.os, k.tape.trans h.tape, k.output.trans h.output, Nat.le_trans h.size k.size, fun b hb hn => (k.block b (Nat.lt_of_lt_of_le hb h.size) (fun e => by rcases h.moved b e with x | x; exact hn x; omega)).trans (h.block b hb hn), k.hb.trans h.hb, fun b e => by
    rcases k.moved b e with x | x
    · exact h.moved b x
    · exact .inr (Nat.le_trans h.size x)⟩
theorem HStep.of_below {H : HB} {w w' : World} (h : Below w.heap.size w w') : HStep H H w w' := ⟨h.os, h.tape, h.output, h.size, fun b hb _ => h.block b hb, rfl, fun _ e => .inl e⟩
theorem HStep.below {H H' : HB} {w w' : World} (h : HStep H H' w w') {B : Nat} (hB : B ≤ w.heap.size) (hlo : ∀ b, H.has b → B ≤ b) : Below B w w' :=
  ⟨h.os, h.tape, h.output, h.size, fun b hb => h.block b (by omega) (fun e => by have := hlo b e; omega)⟩
theorem icells_at {l : List Int} {j : Nat} {x : Int} (h : l[j]? = some x) : (icells l)[j]? = some (.int .i64 x) := by simp [icells, h]
theorem tcells_at {l : List Bool} {j : Nat} {x : Bool} (h : l[j]? = some x) : (tcells l)[j]? = some (.bool x) := by simp [tcells, h]
theorem xcells_at {l : List (List Bool)} {j : Nat} {x : List Bool} (h : l[j]? = some x) : (xcells l)[j]? = some (.string (txt x)) := by simp [xcells, h]
/-- The word of an object. -/
theorem HeapV.word {n0 : Nat} {w : World} {H : HB} {most : Nat} {l : List Ob} {ss : List (List Bool)} (h : HeapV n0 w H most l ss) {v : Int} {o : Ob} (e : objZ l v = some o) {k : Nat} {x : Int} (hx : (obW o)[k]? = some x) :
    ∃ g cap, H.wv = .slice (some ⟨g, 0, none⟩) (usedN l) cap ∧ n0 ≤ g ∧ g < w.heap.size ∧ w.cell? ⟨g, (v - 1).toNat + k, none⟩ = some (.int .i64 x) ∧ w.frozen? ⟨g, (v - 1).toNat + k, none⟩ = false := by
  obtain ⟨ao, cap, ew⟩ := own_slice h.wo
  have ho := h.wo
  rw [ew] at ho
  obtain ⟨g, rfl, h1, h2, h3, h4⟩ := own_cell ho (icells_at (wsL_obj e k x hx))
  exact ⟨g, cap, ew, h1, h2, h3, h4⟩

theorem below_drewN {B : Nat} {w W : World} (h : Below B w W) (q : Nat) : Below B w (W.drewN q) := ⟨h.os, h.tape, h.output, h.size, h.block⟩

set_option maxRecDepth 8000 in
theorem is_any {n0 : Nat} {w : World} {H : HB} {most : Nat} {l : List Ob} {ss : List (List Bool)} (h : HeapV n0 w H most l ss) (v : Int) :
    Calls Try.prog 40 #[H.ptr, .int .i64 v] w fun e w' => e = .returned (.bool (objZ l v).isSome) ∧ w' = w := by
  have c2 : w.cell? ⟨H.hb, 2, none⟩ = some H.bv := h.box.cell 2
  obtain ⟨ao, cap, e⟩ := own_slice h.bo
  have hs := h.bo
  rw [e] at c2 hs
  have hf := h.few
  have hm := h.most
  unfold HB.ptr
  by_cases h1 : v < 1
  · have h1' : decide (v ≥ 1) = false := by simp; omega
    rw [objZ_lo h1]
    have H' := hidIt hs
    clear hs
    go_enter Try.func40, Try.ntmps40
    go_wp2
    go_ret
    exact ⟨rfl, rfl⟩
  · by_cases h2 : (usedN l : Int) < v
    · rw [objZ_hi h2]
      have H' := hidIt hs
      clear hs
      go_enter Try.func40, Try.ntmps40
      go_wp2
      go_ret
      exact ⟨rfl, rfl⟩
    · obtain ⟨g, rfl, -, -, h3, -⟩ := own_cell hs (tcells_at (bsL_obj (l := l) (v := v) (by omega) (by omega)))
      clear hs
      generalize (objZ l v).isSome = b at *
      obtain ⟨j, rfl⟩ : ∃ j : Nat, v = (j : Int) + 1 := ⟨(v - 1).toNat, by omega⟩
      have hj : j < usedN l := by omega
      have hj' : (j : Int) < (usedN l : Int) := by omega
      rw [show ((j : Int) + 1 - 1).toNat = j by omega] at h3
      clear h1 h2
      generalize usedN l = U at *
      go_enter Try.func40, Try.ntmps40
      go_wp2
      go_ret
      exact ⟨rfl, rfl⟩
end Go.Proofs.Ytbdeflpjplhafaa.J

