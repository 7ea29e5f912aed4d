/- Maps with texts for keys, blocks, rows of one's own, lists of numbers: no heap. -/
import Derived.Test.YtacmooknfbjpeaaProg
import Derived.Test.YtacmooknfbjpeaaChecked
import Derived.Deep.CutRange
import Derived.WalkKit
import Derived.WalkSpells
import Derived.WalkLawsBesides
import Derived.Maps.AppendAt
import Derived.Maps.OwnIn
import Derived.Maps.Keyed
import Derived.Deep.AppendLies
import Derived.Laws.OwnMore
import Derived.Laws.Tables
import Derived.Laws.Rows
import Derived.Deep.RegionHeld3
import Derived.Lib.OwnKind
import Derived.OneCell
import Derived.Deep.QuietTactic
import Derived.BigQuiet
namespace Go.Proofs.Ytacmooknfbjpeaa.J
open Go.RowKit Go.MapKept Go.ChangeMaps

theorem hidIt {p : Prop} (h : p) : Hid p := h
theorem balloc (w : World) (o : Obj) : Below w.heap.size w (w.alloc o) := (Below.refl _ _).alloc (Nat.le_refl _) o

/-! Maps with texts for keys. -/
def SMap (w : World) (b : Nat) (l : List (ByteArray × Value)) : Prop :=
  ∃ es clock, w.heap[b]? = some (.map es clock) ∧ es.toList.map (fun e => (e.key, e.val)) = l.map (fun p => (Value.string p.1, p.2))
def slook : List (ByteArray × Value) → ByteArray → Option Value
  | [], _ => none
  | p :: l, s => if s == p.1 then some p.2 else slook l s
theorem findNow_str (s : ByteArray) : ∀ (es : List MapEntry) (l : List (ByteArray × Value)) (i : Nat), es.map (fun e => (e.key, e.val)) = l.map (fun p => (Value.string p.1, p.2)) →
    (slook l s = none → Instr.findNow .string (.string s) es i = some none) ∧ (∀ v, slook l s = some v → ∃ j, Instr.findNow .string (.string s) es i = some (some (j, v)))
  | [], [], i, _ => ⟨fun _ => rfl, fun v h => by simp [slook] at h⟩
  | [], p :: l, i, h => by simp at h
  | e :: es, [], i, h => by simp at h
  | e :: es, p :: l, i, h => by
    simp only [List.map_cons, List.cons.injEq, Prod.mk.injEq] at h
    obtain ⟨⟨h1, h2⟩, h3⟩ := h
    obtain ⟨a, b⟩ := findNow_str s es l (i + 1) h3
    unfold slook Instr.findNow
    rw [h1]
    cases hs : s == p.1
    · simp only [Instr.sameNow, hs]
      exact ⟨a, b⟩
    · simp only [Instr.sameNow, hs]
      exact ⟨fun h => by simp at h, fun v h => ⟨i, by rw [h2]; simpa using h⟩⟩
theorem check_str {P : Program} {k : TypeId} (hk : P.underlying k = some .string) (e : Bool) (n : Nat) (s : ByteArray) (w : World) : (Instr.checkKey e (n + 1) k (.string s)).run P w = .ok () w := by
  simp [Instr.checkKey, run_underlying hk, Result.andThen]
theorem SMap.look2 {P : Program} {w : World} {b : Nat} {l : List (ByteArray × Value)} {t k e : TypeId} (h : SMap w b l) (ht : P.underlying t = some (.map k e)) (hk : P.underlying k = some .string)
    {z : Value} (hz : (zeroValue e).run P w = .ok z w) (s : ByteArray) : (Instr.lookup t (.map (some b)) (.string s) true).run P w = .ok (.tuple #[(slook l s).getD z, .bool (slook l s).isSome]) w := by
  obtain ⟨es, clock, hb, he⟩ := h
  obtain ⟨f1, f2⟩ := findNow_str s es.toList l 0 he
  cases hs : slook l s with
  | none => simp [Instr.lookup, run_underlying ht, MapKept.run_getObj_map hb, check_str hk _ 9999, run_underlying hk, Instr.findKey, f1 hs, hz, Result.andThen]
  | some v =>
    obtain ⟨j, f3⟩ := f2 v hs
    simp [Instr.lookup, run_underlying ht, MapKept.run_getObj_map hb, check_str hk _ 9999, run_underlying hk, Instr.findKey, f3, Result.andThen]
theorem SMap.put {P : Program} {w : World} {b : Nat} {l : List (ByteArray × Value)} {t k e : TypeId} (h : SMap w b l) (ht : P.underlying t = some (.map k e)) (hk : P.underlying k = some .string)
    (s : ByteArray) (v : Value) (hs : slook l s = none) : ∃ es clock, (Instr.mapUpdate t (.map (some b)) (.string s) v).run P w = .ok () (setBlock w b (.map es clock)) ∧ SMap (setBlock w b (.map es clock)) b (l ++ [(s, v)]) := by
  obtain ⟨es, clock, hb, he⟩ := h
  obtain ⟨f1, f2⟩ := findNow_str s es.toList l 0 he
  refine ⟨es.push ⟨.string s, v, clock⟩, clock + 1, ?_, ?_⟩
  · simp [Instr.mapUpdate, run_underlying ht, MapKept.run_getObj_map hb, check_str hk _ 9999, run_underlying hk, Instr.findKey, f1 hs, MapKept.run_setObj_map _ hb, Result.andThen, setBlock]
  · refine ⟨es.push ⟨.string s, v, clock⟩, clock + 1, ?_, ?_⟩
    · have := (Array.getElem?_eq_some_iff.1 hb).1
      simp [setBlock, this]
    · simp [he]
theorem SMap.kept {w w' : World} {b : Nat} {l : List (ByteArray × Value)} (h : SMap w b l) (hb : w'.heap[b]? = w.heap[b]?) : SMap w' b l := by
  obtain ⟨es, clock, h1, h2⟩ := h
  exact ⟨es, clock, hb.trans h1, h2⟩
theorem SMap.lt {w : World} {b : Nat} {l : List (ByteArray × Value)} (h : SMap w b l) : b < w.heap.size := by
  obtain ⟨es, clock, h1, _⟩ := h
  exact (Array.getElem?_eq_some_iff.1 h1).1
theorem setBlock_other (w : World) (b k : Nat) (o : Obj) (h : k ≠ b) : (setBlock w b o).heap[k]? = w.heap[k]? := by
  unfold setBlock
  simp [Ne.symm h]

/-! Blocks, and rows of one's own. -/
def Blk (W : World) (b : Nat) (row : Array Value) (t : TypeId) : Prop := W.heap[b]? = some (.cells row t (0, 0))
theorem Blk.lt {W : World} {b : Nat} {row : Array Value} {t : TypeId} (h : Blk W b row t) : b < W.heap.size := (Array.getElem?_eq_some_iff.1 h).1
theorem Blk.cell {W : World} {b : Nat} {row : Array Value} {t : TypeId} (h : Blk W b row t) (i : Nat) : W.cell? ⟨b, i, none⟩ = row[i]? := by simp [World.cell?, show W.heap[b]? = _ from h]
theorem Blk.frozen {W : World} {b : Nat} {row : Array Value} {t : TypeId} (h : Blk W b row t) (i : Nat) : W.frozen? ⟨b, i, none⟩ = false := by simp [World.frozen?, show W.heap[b]? = _ from h]
theorem Blk.new (W : World) (row : Array Value) (t : TypeId) : Blk (W.alloc (.cells row t)) W.heap.size row t := heap_alloc_new W _
theorem Blk.kept {X Y : World} {b : Nat} {row : Array Value} {t : TypeId} (h : Blk X b row t) (hb : Y.heap[b]? = X.heap[b]?) : Blk Y b row t := hb.trans h
theorem Blk.set {W : World} {b : Nat} {row : Array Value} {t : TypeId} (h : Blk W b row t) (i : Nat) (v : Value) : Blk (W.setCell ⟨b, i, none⟩ v) b (row.setIfInBounds i v) t := by
  obtain ⟨hlt, hk⟩ := Array.getElem?_eq_some_iff.1 h
  show (W.heap.modify b _)[b]? = _
  rw [Array.getElem?_eq_getElem (by rw [Array.size_modify]; exact hlt), Array.getElem_modify_self, hk]
  rfl
theorem own_slice {w : World} {B e s n : Nat} {v : Value} {xs : List Value} (h : w.ownsRow B e s v n xs) : ∃ ao cap, v = .slice ao n cap := by
  rcases h.2 with ⟨rfl, rfl⟩ | ⟨g, cap, cur, rfl, _⟩
  · exact ⟨_, _, rfl⟩
  · exact ⟨_, _, rfl⟩
theorem own_kept {w w' : World} {B e s n : Nat} {v : Value} {xs : List Value} (h : w.ownsRow B e s v n xs) (hb : ∀ g, v.ownBlock = some g → w'.heap[g]? = w.heap[g]?) : w'.ownsRow B e s v n xs := by
  refine ⟨h.1, ?_⟩
  rcases h.2 with x | ⟨g, cap, cur, rfl, hB, hg2, r⟩
  · exact .inl x
  · exact .inr ⟨g, cap, cur, rfl, hB, (hb g rfl).trans hg2, r⟩
theorem own_wk {w : World} {B B' n s : Nat} {T : TypeId} {v : Value} {xs : List Value} (h : w.ownsRow B T s v n xs) (hB : B' ≤ B) : w.ownsRow B' T s v n xs := by
  refine ⟨h.1, ?_⟩
  rcases h.2 with x | ⟨g, cap, cur, e, hb, r⟩
  · exact .inl x
  · exact .inr ⟨g, cap, cur, e, by omega, r⟩
theorem own_not {w : World} {B : Nat} {e : TypeId} {k : Nat} {v : Value} {n : Nat} {xs : List Value} (h : w.ownsRow B e k v n xs) {b : Nat} {row : Array Value} {t : TypeId} (hb : Blk w b row t) (ht : t ≠ e) : v.ownBlock ≠ some b := fun eb => by
  obtain ⟨c, fz, h'⟩ := Lib.ownsRow_kind h b eb
  rw [show w.heap[b]? = _ from hb] at h'
  simp only [Option.some.injEq, Obj.cells.injEq] at h'
  exact ht h'.2.1
theorem own_notM {w : World} {B : Nat} {e : TypeId} {k : Nat} {v : Value} {n : Nat} {xs : List Value} (h : w.ownsRow B e k v n xs) {b : Nat} {l : List (ByteArray × Value)} (hb : SMap w b l) : v.ownBlock ≠ some b := fun eb => by
  obtain ⟨c, fz, h'⟩ := Lib.ownsRow_kind h b eb
  obtain ⟨es, cl, hm, _⟩ := hb
  rw [hm] at h'
  cases h'
theorem own_apart {w : World} {B B' : Nat} {e e' : TypeId} {k k' : Nat} {v v' : Value} {n n' : Nat} {xs xs' : List Value} (h : w.ownsRow B e k v n xs) (h' : w.ownsRow B' e' k' v' n' xs') (ht : e ≠ e') {g : Nat} (hg : v.ownBlock = some g) : v'.ownBlock ≠ some g := fun eb => by
  obtain ⟨c, fz, h1⟩ := Lib.ownsRow_kind h g hg
  obtain ⟨c', fz', h2⟩ := Lib.ownsRow_kind h' g eb
  rw [h1] at h2
  simp only [Option.some.injEq, Obj.cells.injEq] at h2
  exact ht h2.2.1
/-- What lies in a row of one's own, cell by cell. -/
theorem own_cell {w : World} {B e n : Nat} {ao : Option Addr} {cap : Nat} {xs : List Value} (h : w.ownsRow B e 1 (.slice ao n cap) n xs) {j : Nat} {x : Value} (hx : xs[j]? = some x) : ∃ g, ao = some ⟨g, 0, none⟩ ∧ B ≤ g ∧ g < w.heap.size ∧ w.cell? ⟨g, j, none⟩ = some x ∧ w.frozen? ⟨g, j, none⟩ = false := by
  have hj : j < xs.length := (List.getElem?_eq_some_iff.1 hx).1
  rcases h.2 with ⟨_, h0⟩ | ⟨g, cap', cur, e1, hB, hg, h1, h2, h3, h4⟩
  · rw [h.1, h0] at hj; simp at hj
  · cases e1
    refine ⟨g, rfl, hB, (Array.getElem?_eq_some_iff.1 hg).1, ?_, by simp [World.frozen?, hg]⟩
    rw [cell_of_row w g j _ e (0, 0) hg]
    rw [← h4, List.getElem?_take, Array.getElem?_toList] at hx
    split at hx
    · exact hx
    · cases hx
theorem own_cap {w : World} {B e s n : Nat} {ao : Option Addr} {cap : Nat} {xs : List Value} (h : w.ownsRow B e s (.slice ao n cap) n xs) : n ≤ cap ∧ cap ≤ maxLen := by
  rcases h.2 with ⟨h1, h0⟩ | ⟨g, cap', cur, e1, hB, hg, h1, h2, h3, h4⟩
  · cases h1; exact ⟨Nat.le_refl _, by unfold maxLen; omega⟩
  · cases e1; exact ⟨h1, h2⟩

def icells (l : List Int) : List Value := l.map (Value.int .i64)
theorem icells_at {l : List Int} {j : Nat} {x : Int} (h : l[j]? = some x) : (icells l)[j]? = some (.int .i64 x) := by simp [icells, h]
theorem below_drewN {B : Nat} {w W : World} (h : Below B w W) (q : Nat) : Below B w (W.drewN q) := ⟨h.os, h.tape, h.output, h.size, h.block⟩

theorem ret_int {k : IntKind} {a b : Int} (h : a = b) : Ending.returned (.int k a) = .returned (.int k b) := by rw [h]
/-! Lists of numbers. -/
theorem own_below {w w' : World} {B e s n : Nat} {v : Value} {xs : List Value} (h : w.ownsRow B e s v n xs) (hb : Below w.heap.size w w') : w'.ownsRow B e s v n xs := own_kept h fun g e => hb.block g (h.lt g e).2
def Moved (H : Nat) (v v' : Value) : Prop := v'.ownBlock = v.ownBlock ∨ ∃ g, v'.ownBlock = some g ∧ H ≤ g
structure Step (v : Value) (w : World) (v' : Value) (w' : World) : Prop where
  grown : w.grownBy w' v.ownBlock
  moved : Moved w.heap.size v v'
theorem Step.below {v v' : Value} {w w' : World} (h : Step v w v' w') {B : Nat} (hB : B ≤ w.heap.size) (hv : ∀ k, v.ownBlock = some k → B ≤ k) : Below B w w' :=
  (Below.refl _ _).grown h.grown hB hv
def NOwn (w : World) (B : Nat) (v : Value) (l : List Int) : Prop := w.ownsRow B 3 1 v l.length (icells l)
def NView (w : World) (v : Value) (l : List Int) : Prop :=
  ∃ ao cap, v = .slice ao l.length cap ∧ l.length ≤ cap ∧ cap ≤ maxLen ∧ (l = [] ∨ ∃ g off, ao = some ⟨g, off, none⟩ ∧ ∀ (j : Nat) (x : Int), l[j]? = some x → w.cell? ⟨g, off + j, none⟩ = some (.int .i64 x))
theorem NView.below {w w' : World} {v : Value} {l : List Int} (h : NView w v l) (hb : Below w.heap.size w w') : NView w' v l := by
  obtain ⟨ao, cap, e, hc, hm, hl⟩ := h
  refine ⟨ao, cap, e, hc, hm, ?_⟩
  rcases hl with h | ⟨g, off, e, hl⟩
  · exact .inl h
  · exact .inr ⟨g, off, e, fun j x hj => cell_later hb (hl j x hj)⟩
theorem NView.row {w : World} {ao : Option Addr} {n cap : Nat} {l : List Int} (h : NView w (.slice ao n cap) l) {j : Nat} {x : Int} (hj : l[j]? = some x) : ∃ g off, ao = some ⟨g, off, none⟩ ∧ w.cell? ⟨g, off + j, none⟩ = some (.int .i64 x) := by
  obtain ⟨ao', cap', e, hc, hm, hl⟩ := h
  cases e
  rcases hl with rfl | ⟨g, off, rfl, hl⟩
  · simp at hj
  · exact ⟨g, off, rfl, hl j x hj⟩
theorem NOwn.view {w : World} {B : Nat} {v : Value} {l : List Int} (h : NOwn w B v l) : NView w v l := by
  obtain ⟨ao, cap, rfl⟩ := own_slice h
  obtain ⟨h1, h2⟩ := own_cap h
  refine ⟨ao, cap, rfl, h1, h2, ?_⟩
  cases hl : l with
  | nil => exact .inl rfl
  | cons y r =>
    obtain ⟨g, rfl, -⟩ := own_cell h (j := 0) (x := .int .i64 y) (by rw [hl]; rfl)
    refine .inr ⟨g, 0, rfl, fun j x hj => ?_⟩
    obtain ⟨g', e, -, -, hc, -⟩ := own_cell h (icells_at (hl ▸ hj))
    cases e
    rw [Nat.zero_add]; exact hc
theorem NOwn.nil (w : World) (B : Nat) : NOwn w B (.slice none 0 0) [] := World.ownsRow_nil _ _ _ _
theorem Try.infoN : (Try.prog.info? 3).map (fun i => (i.zero, i.size, i.bytes)) = some (some (.int .i64 0), 1, 8) := by kernel_rfl
theorem icells_one (l : List Int) : ∀ u ∈ icells l, u.oneCell' = true := by
  intro u hu
  simp only [icells, List.mem_map] at hu
  obtain ⟨x, _, rfl⟩ := hu
  rfl
theorem wpList_nappend {w : World} {ops : Array Oper} {rest : List Oper} {o : Oper} {a : Act} {Q : Exit → Act → World → Prop} (hgd : o.guard = none) (s x : Operand)
    (ho : o.op = .call { callee := .builtin .append, args := #[s, x], argTypes := #[80, 80] })
    (B : Nat) (v : Value) (l : List Int) (y : Int) (hown : NOwn w B v l) (hs : a.eval s = v) (hx : a.eval x = .slice (some ⟨w.heap.size, 0, none⟩) 1 1)
    (hlen : l.length ≤ 10000000000000) (hB : B ≤ w.heap.size)
    (h : ∀ ao' cap' w', NOwn w' B (.slice ao' (l.length + 1) cap') (l ++ [y]) → Step v (w.alloc (.cells #[.int .i64 y] 3)) (.slice ao' (l.length + 1) cap') w' → wpList Try.prog ops Q rest (a.put o.dst (.slice ao' (l.length + 1) cap')) w') :
    wpList Try.prog ops Q (o :: rest) a (w.alloc (.cells #[.int .i64 y] 3)) := by
  obtain ⟨i0, hi, hz0, hz1, hz2⟩ := info_parts Try.infoN
  refine wpList_plain hgd fun K hK => ?_
  have hown' : (w.alloc (.cells #[.int .i64 y] 3)).ownsRow B 3 1 v l.length (icells l) := own_below hown (balloc w _)
  obtain ⟨v', w', hr, h2, h3, _, h4⟩ := run_append_own_at (P := Try.prog) (w.alloc (.cells #[.int .i64 y] 3)) B 80 o.type 3 i0 (.int .i64 0) 1 8 Try.underlying80 hi hz0 hz1 hz2 rfl (by decide) v l.length (icells l) hown' ⟨w.heap.size, 0, none⟩ 1 1 [.int .i64 y] rfl
    (fun j u hj => by
      have e : (⟨w.heap.size, 0, none⟩ : Addr).add j = ⟨w.heap.size, j, none⟩ := by unfold Addr.add; split <;> simp_all
      rw [e]
      have := (Blk.new w #[.int .i64 y] 3).cell j
      rw [this]
      simpa using hj) (icells_one [y]) (by unfold maxLen; omega) (by omega) (by simp; omega)
  unfold Oper.wp execOp
  simp only [ho, resolve, invoke, builtin, Sem.run_bind, Sem.run_pure, Result.andThen_ok, List.map_toArray, List.map_cons, List.map_nil, hs, hx, hr]
  obtain ⟨ao', cap', rfl⟩ := own_slice h2
  refine hK _ _ (h ao' cap' w' ?_ ⟨h3, h4.imp id fun e => ⟨_, e, Nat.le_refl _⟩⟩)
  show w'.ownsRow B 3 1 _ (l ++ [y]).length (icells (l ++ [y]))
  rw [show icells (l ++ [y]) = icells l ++ [.int .i64 y] by simp [icells], List.length_append]
  exact h2
theorem tmod_pos (n m : Int) (hm : 0 < m) : -m < n.tmod m ∧ n.tmod m < m := by
  have h1 := Int.tmod_lt_of_pos n hm
  have h2 := Int.lt_tmod_of_pos n hm
  exact ⟨h2, h1⟩
def wiZ (n : Int) (hi : Nat) : Nat := (if n.tmod ((hi : Int) + 1) < 0 then n.tmod ((hi : Int) + 1) + hi + 1 else n.tmod ((hi : Int) + 1)).toNat
theorem wiZ_le (n : Int) (hi : Nat) : wiZ n hi ≤ hi := by
  have hf := tmod_pos n ((hi : Int) + 1) (by omega)
  unfold wiZ
  split <;> omega
theorem own_set {w : World} {B e n g cap j : Nat} {xs : List Value} (h : w.ownsRow B e 1 (.slice (some ⟨g, 0, none⟩) n cap) n xs) (v : Value) : (w.setCell ⟨g, j, none⟩ v).ownsRow B e 1 (.slice (some ⟨g, 0, none⟩) n cap) n (xs.set j v) := by
  rcases h.2 with ⟨h1, h0⟩ | ⟨g', cap', cur, e1, hB, hg, h1, h2, h3, h4⟩
  · cases h1
  · cases e1
    refine ⟨by simp [h.1], .inr ⟨g, cap, cur.setIfInBounds j v, rfl, hB, Blk.set (show Blk w g cur e from hg) j v, h1, h2, by simpa using h3, ?_⟩⟩
    rw [← h4, Array.toList_setIfInBounds, List.take_set]
theorem below_setBlock {B : Nat} {w W : World} (h : Below B w W) {b : Nat} (hb : B ≤ b) (o : Obj) : Below B w (setBlock W b o) :=
  ⟨h.os, h.tape, h.output, by have := h.size; simpa [setBlock] using this, fun k hk => (setBlock_other W b k o (by omega)).trans (h.block k hk)⟩

theorem take_snoc {α : Type} {l : List α} {k : Nat} {o : α} (h : l[k]? = some o) : l.take (k + 1) = l.take k ++ [o] := by
  rw [List.take_add_one, h]; rfl
end Go.Proofs.Ytacmooknfbjpeaa.J

