/- Texts S G ZP R FA Z Nm RB RZ FB FC. -/
import Derived.WalkKit
import Derived.Test.YtlnapfeglbdecaaProg
import Derived.WalkSpells
import Derived.WalkLawsBesides
import Derived.Maps.AppendAt
import Derived.Deep.AppendLies
import Derived.Laws.BytesArg
import Derived.Deep.QuietTactic
import Derived.BigQuiet
import Derived.Deep.RegionHeld3
import Derived.Laws.Tables
import Derived.Great.Walk
import Derived.Deep.Cut
import Derived.Deep.MidRow
import Derived.WalkMore
import Derived.Lib.SliceRun
namespace Go.Proofs.Ytlnapfeglbdecaa

def AllBytes (l : List Int) : Prop := ∀ x ∈ l, 0 ≤ x ∧ x ≤ 255
structure IN where
  pl : Int
  op : Int
  a : Int
  b : Int

def kd (op : Int) : Nat :=
  if op = 132 then 7 else if (153 ≤ op ∧ op ≤ 167) ∨ op = 198 ∨ op = 199 then 6 else if op = 17 then 5
  else if (178 ≤ op ∧ op ≤ 182) ∨ op = 184 ∨ op = 187 ∨ op = 189 ∨ op = 192 ∨ op = 193 then 4
  else if op = 16 then 3 else if op = 18 ∨ op = 21 ∨ op = 25 ∨ op = 54 ∨ op = 58 ∨ op = 188 then 2
  else if (0 ≤ op ∧ op ≤ 8) ∨ op = 46 ∨ op = 50 ∨ op = 79 ∨ op = 83 ∨ op = 87 ∨ op = 89 ∨ op = 95 ∨ op = 96 ∨ op = 100 ∨ op = 104 ∨ op = 108 ∨ op = 112 ∨ op = 116 ∨ op = 120 ∨ op = 122 ∨ op = 124 ∨ op = 126 ∨ op = 128 ∨ op = 130 ∨ op = 172 ∨ op = 176 ∨ op = 177 ∨ op = 190 ∨ op = 191 ∨ op = 194 ∨ op = 195 then 1 else 0
theorem kd_six (op : Int) : kd op = 6 ↔ (153 ≤ op ∧ op ≤ 167) ∨ op = 198 ∨ op = 199 := by
  unfold kd
  constructor
  · intro h
    repeat' split at h
    all_goals first | assumption | omega
  · intro h
    rw [if_neg (by omega), if_pos h]
def s8 (x : Int) : Int := if 128 ≤ x then x - 256 else x

/-! Lists. -/

end Go.Proofs.Ytlnapfeglbdecaa
namespace Go.Proofs.Ytlnapfeglbdecaa
open Go.RowKit
theorem hidIt {p : Prop} (h : p) : Hid p := h
theorem ret_int {k : IntKind} {a b : Int} (h : a = b) : Ending.returned (.int k a) = .returned (.int k b) := by rw [h]
def Moved (H : Nat) (v v' : Value) : Prop := v'.ownBlock = v.ownBlock ∨ ∃ g, v'.ownBlock = some g ∧ H ≤ g
structure Step (v : Value) (w : World) (v' : Value) (w' : World) : Prop where
  grown : w.grownBy w' v.ownBlock
  moved : Moved w.heap.size v v'
theorem Step.refl (v : Value) (w : World) : Step v w v w := ⟨⟨rfl, rfl, rfl, Nat.le_refl _, fun _ _ _ => rfl⟩, .inl rfl⟩
theorem Step.trans {v v1 v2 : Value} {w w1 w2 : World} (h : Step v w v1 w1) (k : Step v1 w1 v2 w2) : Step v w v2 w2 := by
  refine ⟨⟨k.grown.os.trans h.grown.os, k.grown.tape.trans h.grown.tape, k.grown.output.trans h.grown.output, Nat.le_trans h.grown.size k.grown.size, ?_⟩, ?_⟩
  · intro i hi hne
    have h1 := h.grown.block i hi hne
    have hlt : i < w1.heap.size := Nat.lt_of_lt_of_le hi h.grown.size
    rw [k.grown.block i hlt ?_, h1]
    rcases h.moved with e | ⟨g, e, hg⟩
    · rw [e]; exact hne
    · rw [e]; intro e2; cases e2; omega
  · rcases k.moved with e | ⟨g, e, hg⟩
    · rcases h.moved with e1 | ⟨g1, e1, hg1⟩
      · exact .inl (e.trans e1)
      · exact .inr ⟨g1, e.trans e1, hg1⟩
    · exact .inr ⟨g, e, Nat.le_trans h.grown.size hg⟩
theorem Step.of_at {v v' : Value} {w w' : World} (hg : w.grownBy w' v.ownBlock) (ha : v'.ownBlock = v.ownBlock ∨ v'.ownBlock = some w.heap.size) : Step v w v' w' :=
  ⟨hg, ha.imp id fun e => ⟨_, e, Nat.le_refl _⟩⟩
theorem Step.below {v v' : Value} {w w' : World} (h : Step v w v' w') {B : Nat} (hB : B ≤ w.heap.size) (hv : ∀ k, v.ownBlock = some k → B ≤ k) : Below B w w' :=
  (Below.refl _ _).grown h.grown hB hv
theorem below_alloc (w : World) (o : Obj) : Below w.heap.size w (w.alloc o) := (Below.refl _ _).alloc (Nat.le_refl _) o
theorem below_drewN {B : Nat} {w W : World} (h : Below B w W) (q : Nat) : Below B w (W.drewN q) := ⟨h.os, h.tape, h.output, h.size, h.block⟩
theorem cell_row {w : World} {b : Nat} {cs : Array Value} {T : TypeId} (h : w.heap[b]? = some (.cells cs T (0, 0))) (j : Nat) {v : Value} (hv : cs[j]? = some v) : w.cell? ⟨b, j, none⟩ = some v := by
  rw [cell_of_row w b j _ T (0, 0) h]; exact hv
theorem frozen_row {w : World} {b : Nat} {cs : Array Value} {T : TypeId} (hb : w.heap[b]? = some (.cells cs T (0, 0))) (j : Nat) : w.frozen? ⟨b, j, none⟩ = false := by
  simp [World.frozen?, hb]
theorem set_row {w : World} {g j : Nat} {cur : Array Value} {T : TypeId} {u : Value} (h : w.heap[g]? = some (.cells cur T (0, 0))) : (w.setCell ⟨g, j, none⟩ u).heap[g]? = some (.cells (cur.setIfInBounds j u) T (0, 0)) := by
  simp only [World.setCell, Array.getElem?_modify, if_pos, h, Option.map_some]
  try simp
theorem other_block {w : World} {k k' : Nat} {cs cs' : Array Value} {T T' : TypeId} {f f' : Nat × Nat} (h : w.heap[k]? = some (.cells cs T f)) (h' : w.heap[k']? = some (.cells cs' T' f')) (hT : T ≠ T') : k ≠ k' := by
  rintro rfl
  rw [h] at h'
  cases h'
  exact hT rfl

/-! Rows of one's own. -/
theorem own_below {w w' : World} {B e s n : Nat} {v : Value} {xs : List Value} (h : w.ownsRow B e s v n xs) (hb : Below w.heap.size w w') : w'.ownsRow B e s v n xs := by
  refine ⟨h.1, ?_⟩
  rcases h.2 with x | ⟨g, cap, cur, rfl, hB, hg2, r⟩
  · exact .inl x
  · exact .inr ⟨g, cap, cur, rfl, hB, (hb.block g (Array.getElem?_eq_some_iff.1 hg2).1).trans hg2, r⟩
theorem own_wk {w : World} {B B' n s : Nat} {T : TypeId} {v : Value} {xs : List Value} (h : w.ownsRow B T s v n xs) (hB : B' ≤ B) : w.ownsRow B' T s v n xs := by
  refine ⟨h.1, ?_⟩
  rcases h.2 with x | ⟨g, cap, cur, e, hb, r⟩
  · exact .inl x
  · exact .inr ⟨g, cap, cur, e, by omega, r⟩
theorem own_slice {w : World} {B e s n : Nat} {v : Value} {xs : List Value} (h : w.ownsRow B e s v n xs) : ∃ ao cap, v = .slice ao n cap := by
  rcases h.2 with ⟨rfl, rfl⟩ | ⟨g, cap, cur, rfl, _⟩
  · exact ⟨_, _, rfl⟩
  · exact ⟨_, _, rfl⟩

/-! Bytes. -/
def bcells (l : List Int) : List Value := l.map (Value.int .u8)
def Lies (w : World) (g off : Nat) (l : List Int) : Prop := ∀ j x, l[j]? = some x → w.cell? ⟨g, off + j, none⟩ = some (.int .u8 x)
def View (w : World) (v : Value) (l : List Int) : Prop :=
  ∃ ao cap, v = .slice ao l.length cap ∧ l.length ≤ cap ∧ cap ≤ maxLen ∧ AllBytes l ∧ (l = [] ∨ ∃ g off, ao = some ⟨g, off, none⟩ ∧ Lies w g off l)
theorem AllBytes.append {a b : List Int} (ha : AllBytes a) (hb : AllBytes b) : AllBytes (a ++ b) := fun x hx => by
  rcases List.mem_append.1 hx with h | h
  · exact ha x h
  · exact hb x h
theorem AllBytes.nil : AllBytes [] := fun x hx => by simp at hx
theorem View.drewN {w : World} {v : Value} {l : List Int} (h : View w v l) (q : Nat) : View (w.drewN q) v l := h
theorem View.below {w wr : World} {v : Value} {l : List Int} (h : View w v l) (hb : Below w.heap.size w wr) : View wr v l := by
  obtain ⟨ao, cap, rfl, hc, hm, hy, hl⟩ := h
  refine ⟨ao, cap, rfl, hc, hm, hy, ?_⟩
  rcases hl with h | ⟨g, off, e, hl⟩
  · exact .inl h
  · exact .inr ⟨g, off, e, fun j x hj => cell_later hb (hl j x hj)⟩
theorem View.laid (w : World) (l : List Int) (hb : AllBytes l) (hm : l.length ≤ maxLen) : View (w.alloc (.cells (bcells l).toArray 5)) (.slice (some ⟨w.heap.size, 0, none⟩) l.length l.length) l := by
  refine ⟨_, _, rfl, Nat.le_refl _, hm, hb, .inr ⟨_, _, rfl, fun j x hj => ?_⟩⟩
  have h := cell_of_row (w.alloc (.cells (bcells l).toArray 5)) w.heap.size (0 + j) (bcells l).toArray 5 (0, 0) (heap_alloc_new w _)
  rw [h]
  simp [bcells, hj]
theorem View.take {w : World} {ao : Option Addr} {c n : Nat} {l : List Int} (h : View w (.slice ao l.length c) l) (hn : n ≤ l.length) : View w (.slice ao n c) (l.take n) := by
  obtain ⟨ao', cap, e, hc, hm, hy, hl⟩ := h
  cases e
  refine ⟨ao, c, by rw [List.length_take, Nat.min_eq_left hn], by rw [List.length_take]; omega, hm, fun x hx => hy x (List.mem_of_mem_take hx), ?_⟩
  rcases hl with rfl | ⟨g, off, e, hl⟩
  · exact .inl (by simp)
  · refine .inr ⟨g, off, e, fun j x hj => hl j x ?_⟩
    rw [List.getElem?_take] at hj
    split at hj
    · exact hj
    · cases hj

/-! Instructions. -/
def IN.val (i : IN) : Value := .agg #[.int .i64 i.pl, .int .i64 i.op, .int .i64 i.a, .int .i64 i.b]
def irow (i : IN) : List Value := [.int .i64 i.pl, .int .i64 i.op, .int .i64 i.a, .int .i64 i.b]
def icells (l : List IN) : List Value := l.flatMap irow
theorem icells_len (l : List IN) : (icells l).length = l.length * 4 := by
  induction l with
  | nil => rfl
  | cons x l ih => simp only [icells, List.flatMap_cons, List.length_append, List.length_cons] at *; rw [ih]; simp [irow]; omega
def IAt (w : World) (g o : Nat) (i : IN) : Prop :=
  w.cell? ⟨g, o, none⟩ = some (.int .i64 i.pl) ∧ w.cell? ⟨g, o + 1, none⟩ = some (.int .i64 i.op) ∧ w.cell? ⟨g, o + 2, none⟩ = some (.int .i64 i.a) ∧ w.cell? ⟨g, o + 3, none⟩ = some (.int .i64 i.b)
def ILies (w : World) (g off : Nat) (l : List IN) : Prop := ∀ j x, l[j]? = some x → IAt w g (off + j * 4) x
def IView (w : World) (v : Value) (l : List IN) : Prop :=
  ∃ ao cap, v = .slice ao l.length cap ∧ l.length ≤ cap ∧ cap ≤ maxLen ∧ (l = [] ∨ ∃ g off, ao = some ⟨g, off, none⟩ ∧ ILies w g off l)
theorem IAt.below {w w' : World} {g o : Nat} {i : IN} (h : IAt w g o i) (hb : Below w.heap.size w w') : IAt w' g o i :=
  ⟨cell_later hb h.1, cell_later hb h.2.1, cell_later hb h.2.2.1, cell_later hb h.2.2.2⟩
theorem IAt.block {w w' : World} {g o : Nat} {i : IN} (h : IAt w g o i) (hb : w'.heap[g]? = w.heap[g]?) : IAt w' g o i :=
  ⟨(World.cell?_of_block (a := ⟨g, o, none⟩) hb).trans h.1, (World.cell?_of_block (a := ⟨g, o + 1, none⟩) hb).trans h.2.1, (World.cell?_of_block (a := ⟨g, o + 2, none⟩) hb).trans h.2.2.1, (World.cell?_of_block (a := ⟨g, o + 3, none⟩) hb).trans h.2.2.2⟩
theorem IView.below {w wr : World} {v : Value} {l : List IN} (h : IView w v l) (hb : Below w.heap.size w wr) : IView wr v l := by
  obtain ⟨ao, cap, rfl, hc, hm, hl⟩ := h
  refine ⟨ao, cap, rfl, hc, hm, ?_⟩
  rcases hl with h | ⟨g, off, e, hl⟩
  · exact .inl h
  · exact .inr ⟨g, off, e, fun j x hj => (hl j x hj).below hb⟩
theorem IView.drewN {w : World} {v : Value} {l : List IN} (h : IView w v l) (q : Nat) : IView (w.drewN q) v l := h
theorem icells_get (l : List IN) (j : Nat) (x : IN) (i : Nat) (h : l[j]? = some x) (hi : i < 4) : (icells l)[j * 4 + i]? = (irow x)[i]? := by
  induction l generalizing j with
  | nil => simp at h
  | cons y l ih =>
    unfold icells
    rw [List.flatMap_cons]
    have hy : (irow y).length = 4 := rfl
    cases j with
    | zero =>
      simp at h; subst h
      rw [Nat.zero_mul, Nat.zero_add, List.getElem?_append_left (by omega)]
    | succ j =>
      simp at h
      rw [List.getElem?_append_right (by omega), hy, show (j + 1) * 4 + i - 4 = j * 4 + i by omega]
      exact ih j h
theorem ILies.cells {w : World} {g off : Nat} {l : List IN} (h : ILies w g off l) (j : Nat) (u : Value) (hj : (icells l)[j]? = some u) : w.cell? ((⟨g, off, none⟩ : Addr).add j) = some u := by
  have e : (⟨g, off, none⟩ : Addr).add j = ⟨g, off + j, none⟩ := by unfold Addr.add; split <;> simp_all
  rw [e]
  have hlt := (List.getElem?_eq_some_iff.1 hj).1
  rw [icells_len] at hlt
  obtain ⟨x, hx⟩ : ∃ x, l[j / 4]? = some x := ⟨l[j / 4]'(by omega), List.getElem?_eq_getElem (by omega)⟩
  have h4 : j % 4 < 4 := Nat.mod_lt _ (by decide)
  have hg := icells_get l (j / 4) x (j % 4) hx h4
  rw [show j / 4 * 4 + j % 4 = j by omega, hj] at hg
  obtain ⟨h0, h1, h2, h3⟩ := h (j / 4) x hx
  have ej : j = j / 4 * 4 + j % 4 := by omega
  generalize j % 4 = r at *
  match r, h4 with
  | 0, _ => simp [irow] at hg; subst hg; rw [ej]; exact h0
  | 1, _ => simp [irow] at hg; subst hg; rw [ej, ← Nat.add_assoc]; exact h1
  | 2, _ => simp [irow] at hg; subst hg; rw [ej, ← Nat.add_assoc]; exact h2
  | 3, _ => simp [irow] at hg; subst hg; rw [ej, ← Nat.add_assoc]; exact h3
theorem ILies.of_block {w : World} {g n : Nat} {cur : Array Value} {l : List IN} (hg : w.heap[g]? = some (.cells cur 52 (0, 0))) (hn : l.length = n) (ht : cur.toList.take (n * 4) = icells l) : ILies w g 0 l := by
  intro j x hj
  have hlt := (List.getElem?_eq_some_iff.1 hj).1
  have hc : ∀ i, i < 4 → cur[0 + j * 4 + i]? = (irow x)[i]? := by
    intro i hi
    rw [← icells_get l j x i hj hi, ← ht, List.getElem?_take, if_pos (by omega), Nat.zero_add, Array.getElem?_toList]
  exact ⟨cell_row hg _ (hc 0 (by decide)), cell_row hg _ (hc 1 (by decide)), cell_row hg _ (hc 2 (by decide)), cell_row hg _ (hc 3 (by decide))⟩
theorem IView.row {w : World} {ao : Option Addr} {n cap : Nat} {l : List IN} (h : IView w (.slice ao n cap) l) {j : Nat} {x : IN} (hj : l[j]? = some x) : ∃ g off, ao = some ⟨g, off, none⟩ ∧ IAt w g (off + j * 4) x := by
  obtain ⟨ao', cap', e, hc, hm, hl⟩ := h
  cases e
  rcases hl with rfl | ⟨g, off, rfl, hl⟩
  · simp at hj
  · exact ⟨g, off, rfl, hl j x hj⟩
theorem box_at (w : World) (i : IN) : IAt (w.alloc (.cells #[.int .i64 i.pl, .int .i64 i.op, .int .i64 i.a, .int .i64 i.b] 52)) w.heap.size 0 i := by
  have h := heap_alloc_new w (.cells #[.int .i64 i.pl, .int .i64 i.op, .int .i64 i.a, .int .i64 i.b] 52)
  exact ⟨cell_row h 0 rfl, cell_row h 1 rfl, cell_row h 2 rfl, cell_row h 3 rfl⟩
end Go.Proofs.Ytlnapfeglbdecaa
namespace Go.Proofs.Ytlnapfeglbdecaa
open Go.RowKit
def endsB (op : Int) : Bool := op == 167 || (op == 172 || (op == 176 || (op == 177 || op == 191)))
end Go.Proofs.Ytlnapfeglbdecaa
namespace Go.Proofs.Ytlnapfeglbdecaa
open Go.RowKit
theorem cell_lt {W : World} {b o : Nat} {u : Value} (h : W.cell? ⟨b, o, none⟩ = some u) : b < W.heap.size := by
  apply Nat.lt_of_not_le
  intro hle
  have hn : W.heap[b]? = none := Array.getElem?_eq_none (by omega)
  simp [World.cell?, hn] at h
end Go.Proofs.Ytlnapfeglbdecaa
namespace Go.Proofs.Ytlnapfeglbdecaa
open Go.RowKit

def findZ (l : List IN) (p : Int) : Int := match l.findIdx? (fun i => i.pl == p) with
  | some k => (k : Int)
  | none => -1
theorem findZ_some {l : List IN} {p : Int} {k : Nat} {x : IN} (hx : l[k]? = some x) (hp : x.pl = p) (hb : ∀ (j : Nat) (y : IN), j < k → l[j]? = some y → y.pl ≠ p) : findZ l p = (k : Int) := by
  have hk : k < l.length := (List.getElem?_eq_some_iff.1 hx).1
  have e : l.findIdx? (fun i => i.pl == p) = some k := by
    rw [List.findIdx?_eq_some_iff_getElem]
    refine ⟨hk, ?_, fun j hj => ?_⟩
    · rw [List.getElem?_eq_getElem hk] at hx
      cases hx
      simpa using hp
    · have := hb j l[j] hj (List.getElem?_eq_getElem (by omega))
      simpa using this
  unfold findZ
  rw [e]
theorem findZ_none {l : List IN} {p : Int} (hb : ∀ (j : Nat) (y : IN), l[j]? = some y → y.pl ≠ p) : findZ l p = -1 := by
  have e : l.findIdx? (fun i => i.pl == p) = none := by
    rw [List.findIdx?_eq_none_iff]
    intro x hx
    obtain ⟨i, hi⟩ := List.getElem?_of_mem hx
    simpa using hb i x hi
  unfold findZ
  rw [e]
theorem findZ_cases (l : List IN) (p : Int) : (findZ l p = -1 ∧ ∀ x ∈ l, x.pl ≠ p) ∨ ∃ k : Nat, ∃ x, findZ l p = (k : Int) ∧ l[k]? = some x ∧ x.pl = p := by
  unfold findZ
  cases h : l.findIdx? (fun i => i.pl == p) with
  | none =>
    rw [List.findIdx?_eq_none_iff] at h
    exact .inl ⟨rfl, fun x hx => by simpa using h x hx⟩
  | some k =>
    rw [List.findIdx?_eq_some_iff_getElem] at h
    obtain ⟨hk, h1, -⟩ := h
    exact .inr ⟨k, l[k], rfl, List.getElem?_eq_getElem hk, by simpa using h1⟩
theorem findZ_lt (l : List IN) (p : Int) : -1 ≤ findZ l p ∧ findZ l p < l.length := by
  rcases findZ_cases l p with ⟨h, -⟩ | ⟨k, x, h, hx, -⟩
  · omega
  · have := (List.getElem?_eq_some_iff.1 hx).1
    omega
theorem find1_any (i : IN) (b : Nat) (p : Int) (w : World) (hb : w.cell? ⟨b, 0, none⟩ = some (.int .i64 p)) :
    Calls Try.prog 53 #[i.val, .pointer (some ⟨b, 0, none⟩)] w fun e w' => e = .returned (.bool (i.pl == p)) ∧ Below w.heap.size w w' := by
  have hA := below_alloc w (.cells #[.int .i64 i.pl, .int .i64 i.op, .int .i64 i.a, .int .i64 i.b] 52)
  have h2 := cell_later hA hb
  have hbl := cell_lt hb
  have HA := hidIt hA
  clear hA
  unfold IN.val
  go_enter Try.func53, Try.ntmps53
  go_wp2
  go_ret
  exact ⟨rfl, HA.out⟩
set_option maxRecDepth 8000 in
set_option maxHeartbeats 2000000 in
theorem idx_any (v : Value) (l : List IN) (b : Nat) (p : Int) (w : World) (hv : IView w v l) (hb : w.cell? ⟨b, 0, none⟩ = some (.int .i64 p)) :
    Calls Try.prog 52 #[v, .func (.func 53) #[] #[.pointer (some ⟨b, 0, none⟩)]] w fun e w' => e = .returned (.int .i64 (findZ l p)) ∧ Below w.heap.size w w' := by
  have HV := hidIt hv
  have HB := hidIt hb
  obtain ⟨ao, cap, rfl, hc, hm, _⟩ := hv
  unfold maxLen at hm
  clear hb
  go_enter Try.func52, Try.ntmps52
  go_wp2
  go_loopw [5, 8] (fun _ s8 wr => ∃ k : Nat, k ≤ l.length ∧ s8 = .int .i64 (k : Int) ∧ Below w.heap.size w wr ∧ ∀ (j : Nat) (y : IN), j < k → l[j]? = some y → y.pl ≠ p) (fun _ s8 _ => l.length - (intOf s8).toNat)
  case atStart => exact ⟨0, Nat.zero_le _, rfl, Below.refl _ w, fun j y hj => absurd hj (Nat.not_lt_zero _)⟩
  case round =>
    obtain ⟨k, hk, rfl, BW, A⟩ := hrel
    have HBW := hidIt BW
    have HA := hidIt A
    clear BW A
    by_cases hlt : k < l.length
    · have hlt' : (k : Int) < (l.length : Int) := by omega
      obtain ⟨x, hx⟩ : ∃ x, l[k]? = some x := ⟨l[k], List.getElem?_eq_getElem hlt⟩
      obtain ⟨g, off, rfl, c0, c1, c2, c3⟩ := (HV.out.below HBW.out).row hx
      have hcall := find1_any x b p wr (cell_later HBW.out HB.out)
      unfold IN.val at hcall
      have HX := hidIt hx
      clear hx
      cases hq : (x.pl == p) with
      | true =>
        rw [hq] at hcall
        go_wp2_with fail
        refine hcall.mono ?_
        rintro e w' ⟨rfl, hb'⟩
        go_wp2
        go_ret
        exact ⟨ret_int (findZ_some HX.out (by simpa using hq) HA.out).symm, HBW.out.trans (hb'.mono HBW.out.size)⟩
      | false =>
        rw [hq] at hcall
        go_wp2_with fail
        refine hcall.mono ?_
        rintro e w' ⟨rfl, hb'⟩
        go_wp2
        refine ⟨⟨k + 1, by omega, by go_num, HBW.out.trans (hb'.mono HBW.out.size), fun j y hj hy => ?_⟩, by simp [intOf]; omega⟩
        by_cases e : j = k
        · subst e
          rw [HX.out] at hy
          cases hy
          simpa using hq
        · exact HA.out j y (by omega) hy
    · have hlt' : ¬ (k : Int) < (l.length : Int) := by omega
      go_wp2
      go_ret
      refine ⟨ret_int (findZ_none fun j y hy => HA.out j y ?_ hy).symm, HBW.out⟩
      have := (List.getElem?_eq_some_iff.1 hy).1
      omega
set_option maxRecDepth 8000 in
set_option maxHeartbeats 1000000 in
theorem find_any (v : Value) (l : List IN) (p : Int) (w : World) (hv : IView w v l) :
    Calls Try.prog 34 #[v, .int .i64 p] w fun e w' => e = .returned (.int .i64 (findZ l p)) ∧ Below w.heap.size w w' := by
  have hA := below_alloc w (.cells #[.int .i64 p] 3)
  have hI := idx_any v l w.heap.size p (w.alloc (.cells #[.int .i64 p] 3)) (hv.below hA) (cell_row (heap_alloc_new w _) 0 rfl)
  obtain ⟨ao, cap, rfl, hc, hm, _⟩ := hv
  have HA := hidIt hA
  have HI := hidIt hI
  clear hA hI
  go_enter Try.func34, Try.ntmps34
  go_wp2_with fail
  refine HI.out.mono ?_
  rintro e w' ⟨rfl, hb'⟩
  go_wp2
  go_ret
  exact ⟨rfl, HA.out.trans (hb'.mono HA.out.size)⟩
end Go.Proofs.Ytlnapfeglbdecaa
namespace Go.Proofs.Ytlnapfeglbdecaa
open Go.RowKit
set_option maxRecDepth 8000 in
set_option maxHeartbeats 1000000 in
theorem branch_any (op : Int) (w : World) : Calls Try.prog 64 #[.int .i64 op] w fun e w' => e = .returned (.bool (decide (kd op = 6))) ∧ w' = w := by
  have hk := kd_six op
  by_cases h1 : 153 ≤ op
  · by_cases h2 : op ≤ 167
    · rw [decide_eq_true (hk.2 (by omega))]
      clear hk
      go_enter Try.func64, Try.ntmps64
      go_wp2
      go_ret
      exact ⟨rfl, rfl⟩
    · by_cases h3 : op = 198
      · subst h3
        rw [decide_eq_true (hk.2 (by omega))]
        clear hk
        go_enter Try.func64, Try.ntmps64
        go_wp2
        go_ret
        exact ⟨rfl, rfl⟩
      · by_cases h4 : op = 199
        · subst h4
          rw [decide_eq_true (hk.2 (by omega))]
          clear hk
          go_enter Try.func64, Try.ntmps64
          go_wp2
          go_ret
          exact ⟨rfl, rfl⟩
        · rw [decide_eq_false (fun h => by have := hk.1 h; omega)]
          clear hk
          have h3' : (op == 198) = false := by simpa using h3
          have h4' : (op == 199) = false := by simpa using h4
          go_enter Try.func64, Try.ntmps64
          go_wp2
          go_ret
          exact ⟨rfl, rfl⟩
  · rw [decide_eq_false (fun h => by have := hk.1 h; omega)]
    clear hk
    have h3' : (op == 198) = false := by simp; omega
    have h4' : (op == 199) = false := by simp; omega
    go_enter Try.func64, Try.ntmps64
    go_wp2
    go_ret
    exact ⟨rfl, rfl⟩
set_option maxRecDepth 8000 in
set_option maxHeartbeats 1000000 in
theorem ends_any (op : Int) (w : World) : Calls Try.prog 48 #[.int .i64 op] w fun e w' => e = .returned (.bool (endsB op)) ∧ w' = w := by
  have HE : Hid (endsB op = (op == 167 || (op == 172 || (op == 176 || (op == 177 || op == 191))))) := by show _ = _; unfold endsB; rfl
  generalize endsB op = r at *
  go_enter Try.func48, Try.ntmps48
  go_wp2
  all_goals go_ret
  all_goals refine ⟨?_, rfl⟩
  all_goals rw [HE.out]; simp_all
end Go.Proofs.Ytlnapfeglbdecaa
namespace Go.Proofs.Ytlnapfeglbdecaa
open Go.RowKit
end Go.Proofs.Ytlnapfeglbdecaa
namespace Go.Proofs.Ytlnapfeglbdecaa
open Go.RowKit
end Go.Proofs.Ytlnapfeglbdecaa
namespace Go.Proofs.Ytlnapfeglbdecaa
open Go.RowKit
end Go.Proofs.Ytlnapfeglbdecaa
namespace Go.Proofs.Ytlnapfeglbdecaa
open Go.RowKit

def tgtZ (l : List IN) (x : IN) : Int := if kd x.op = 6 then findZ l x.a else -1
set_option maxRecDepth 8000 in
set_option maxHeartbeats 1000000 in
theorem target_any (v : Value) (l : List IN) (x : IN) (w : World) (hv : IView w v l) :
    Calls Try.prog 49 #[v, x.val] w fun e w' => e = .returned (.int .i64 (tgtZ l x)) ∧ Below w.heap.size w w' := by
  have hA := below_alloc w (.cells #[.int .i64 x.pl, .int .i64 x.op, .int .i64 x.a, .int .i64 x.b] 52)
  have HA := hidIt hA
  have HF := hidIt (find_any v l x.a _ (hv.below hA))
  have GB := hidIt (fun W => branch_any x.op W)
  obtain ⟨ao, cap, rfl, -⟩ := hv
  have HT : Hid (tgtZ l x = if kd x.op = 6 then findZ l x.a else -1) := by show _ = _; rfl
  generalize tgtZ l x = r at *
  unfold IN.val
  clear hA
  by_cases h6 : kd x.op = 6
  · rw [decide_eq_true h6] at GB
    rw [if_pos h6] at HT
    go_enter Try.func49, Try.ntmps49
    go_wp2_with (first | (go_at_call 64; refine (GB.out _).mono ?_; rintro e w' ⟨rfl, hww⟩; cases hww) | (go_at_call 34; refine HF.out.mono ?_; rintro e w' ⟨rfl, hb⟩))
    go_ret
    exact ⟨ret_int HT.out.symm, HA.out.trans (hb.mono HA.out.size)⟩
  · rw [decide_eq_false h6] at GB
    rw [if_neg h6] at HT
    go_enter Try.func49, Try.ntmps49
    go_wp2_with (first | (go_at_call 64; refine (GB.out _).mono ?_; rintro e w' ⟨rfl, hww⟩; cases hww))
    go_ret
    exact ⟨ret_int HT.out.symm, HA.out⟩
end Go.Proofs.Ytlnapfeglbdecaa
namespace Go.Proofs.Ytlnapfeglbdecaa
open Go.RowKit

def ncells (l : List Int) : List Value := l.map (Value.int .i64)
theorem ncells_append (a b : List Int) : ncells (a ++ b) = ncells a ++ ncells b := by simp [ncells]
theorem ncells_len (l : List Int) : (ncells l).length = l.length := by simp [ncells]
theorem nan_any (x : Int) (w : World) : Calls Try.prog 91 #[.int .i64 x] w fun e w' => e = .returned (.bool false) ∧ w' = w := by
  go_enter Try.func91, Try.ntmps91
  go_wp2
  go_ret
  exact ⟨rfl, rfl⟩
theorem less_any (x y : Int) (w : World) : Calls Try.prog 78 #[.int .i64 x, .int .i64 y] w fun e w' => e = .returned (.bool (decide (x < y))) ∧ w' = w := by
  have G := hidIt (fun x W => nan_any x W)
  go_enter Try.func78, Try.ntmps78
  go_wp2_with (go_at_call 91; refine (G.out _ _).mono ?_; rintro e w' ⟨rfl, hww⟩; cases hww)
  all_goals go_ret
  all_goals exact ⟨by simp_all, rfl⟩
structure OnlyG (g : Nat) (w w' : World) : Prop where
  os : w'.os = w.os
  tape : w'.tape = w.tape
  output : w'.output = w.output
  size : w'.heap.size = w.heap.size
  block : ∀ k, k ≠ g → w'.heap[k]? = w.heap[k]?
theorem OnlyG.refl (g : Nat) (w : World) : OnlyG g w w := ⟨rfl, rfl, rfl, rfl, fun _ _ => rfl⟩
theorem OnlyG.trans {g : Nat} {a b c : World} (h : OnlyG g a b) (k : OnlyG g b c) : OnlyG g a c := ⟨k.os.trans h.os, k.tape.trans h.tape, k.output.trans h.output, k.size.trans h.size, fun i hi => (k.block i hi).trans (h.block i hi)⟩
theorem OnlyG.drewN {g : Nat} {a b : World} (h : OnlyG g a b) (q : Nat) : OnlyG g a (b.drewN q) := ⟨h.os, h.tape, h.output, h.size, h.block⟩
theorem OnlyG.set {g o : Nat} {a b : World} {u : Value} (h : OnlyG g a b) : OnlyG g a (b.setCell ⟨g, o, none⟩ u) :=
  ⟨h.os, h.tape, h.output, by simpa [World.setCell] using h.size, fun i hi => by rw [Below.heap_setCell _ _ _ _ hi]; exact h.block i hi⟩
theorem OnlyG.below {g B : Nat} {a b : World} (h : OnlyG g a b) (hg : B ≤ g) : Below B a b :=
  ⟨h.os, h.tape, h.output, by rw [h.size]; exact Nat.le_refl _, fun k hk => h.block k (by omega)⟩
def sort2 (x y : Int) (cs : Array Value) : Array Value := if y < x then (cs.setIfInBounds 1 (.int .i64 x)).setIfInBounds 0 (.int .i64 y) else cs
set_option maxRecDepth 8000 in
set_option maxHeartbeats 2000000 in
theorem isort_two (g cap : Nat) (x y : Int) (cs : Array Value) (w : World) (h : w.heap[g]? = some (.cells cs 3 (0, 0))) (h0 : cs[0]? = some (.int .i64 x)) (h1 : cs[1]? = some (.int .i64 y)) :
    Calls Try.prog 72 #[.slice (some ⟨g, 0, none⟩) 2 cap, .int .i64 0, .int .i64 2] w fun e w' => e = .returned (.tuple #[]) ∧ OnlyG g w w' ∧
      w'.heap[g]? = some (.cells (sort2 x y cs) 3 (0, 0)) := by
  have G := hidIt (fun x y W => less_any x y W)
  have c0 := cell_row h 0 h0
  have c1 := cell_row h 1 h1
  have H := hidIt h
  have hbl := cell_lt c0
  have f0 := frozen_row h
  clear h h0 h1
  have HY : Hid (y < x → sort2 x y cs = (cs.setIfInBounds 1 (.int .i64 x)).setIfInBounds 0 (.int .i64 y)) := fun h => by unfold sort2; rw [if_pos h]
  have HN : Hid (¬ y < x → sort2 x y cs = cs) := fun h => by unfold sort2; rw [if_neg h]
  generalize sort2 x y cs = cs' at *
  go_enter Try.func72, Try.ntmps72
  go_wp2
  go_loopw [6, 7] (fun i _ wr => (i = .int .i64 1 ∧ wr = w) ∨ (i = .int .i64 2 ∧ OnlyG g w wr ∧ wr.heap[g]? = some (.cells cs' 3 (0, 0)))) (fun i _ _ => 3 - (intOf i).toNat)
  case atStart => exact .inl ⟨rfl, rfl⟩
  case round =>
    rcases hrel with ⟨rfl, hww⟩ | ⟨rfl, h1, h2⟩
    · cases hww
      go_wp2
      go_loopw [7] (fun j wr => (j = .int .i64 1 ∧ wr = w) ∨ (j = .int .i64 0 ∧ y < x ∧ OnlyG g w wr ∧ wr.heap[g]? = some (.cells cs' 3 (0, 0)))) (fun j _ => (intOf j).toNat)
      case atStart => exact .inl ⟨rfl, rfl⟩
      case round =>
        rcases hrel with ⟨rfl, hww⟩ | ⟨rfl, hyx, h1, h2⟩
        · cases hww
          by_cases hlt : y < x
          · have G2 := hidIt (fun W => G.out y x W)
            rw [decide_eq_true hlt] at G2
            go_wp2
            go_quiet ((go_at_call 78; exact Calls.quiet_of_same (G2.out _)))
            go_wp2
            go_region
            go_wp2
            refine ⟨.inr ⟨rfl, hlt, ((OnlyG.refl g w).drewN _).set.set, ?_⟩, by simp [intOf]⟩
            rw [HY.out hlt]
            exact set_row (set_row H.out)
          · have G2 := hidIt (fun W => G.out y x W)
            rw [decide_eq_false hlt] at G2
            go_wp2
            go_quiet ((go_at_call 78; exact Calls.quiet_of_same (G2.out _)))
            go_wp2
            exact ⟨.inr ⟨rfl, (OnlyG.refl g w).drewN _, by rw [HN.out hlt]; exact H.out⟩, by simp [intOf]⟩
        · have HO := hidIt h1
          have H2 := hidIt h2
          clear h1 h2
          go_wp2
          go_quiet (fail)
          go_wp2
          exact ⟨.inr ⟨rfl, HO.out.drewN _, H2.out⟩, by simp [intOf]⟩
    · have HO := hidIt h1
      have H2 := hidIt h2
      clear h1 h2
      go_wp2
      go_end0
      exact ⟨rfl, HO.out, H2.out⟩
set_option maxRecDepth 8000 in
set_option maxHeartbeats 2000000 in
theorem isort_few (ao : Option Addr) (n cap : Nat) (hn : n ≤ 1) (w : World) :
    Calls Try.prog 72 #[.slice ao n cap, .int .i64 0, .int .i64 (n : Int)] w fun e w' => e = .returned (.tuple #[]) ∧ w' = w := by
  have hn' : ¬ (1 : Int) < (n : Int) := by omega
  go_enter Try.func72, Try.ntmps72
  go_wp2
  go_loopw [6, 7] (fun i _ wr => (i = .int .i64 1 ∧ wr = w)) (fun i _ _ => 3 - (intOf i).toNat)
  case atStart => exact ⟨rfl, rfl⟩
  case round =>
    obtain ⟨rfl, hww⟩ := hrel
    cases hww
    go_wp2
    go_end0
    exact ⟨rfl, rfl⟩
set_option maxRecDepth 8000 in
set_option maxHeartbeats 2000000 in
theorem len64_any (n : Nat) (hn : n ≤ 2) (w : World) : Calls Try.prog 82 #[.int .u64 (n : Int)] w fun e w' => (∃ k : Int, e = .returned (.int .i64 k)) ∧ w' = w := by
  have h : n = 0 ∨ n = 1 ∨ n = 2 := by omega
  rcases h with rfl | rfl | rfl
  all_goals
    go_enter Try.func82, Try.ntmps82
    go_wp2
    go_ret
    exact ⟨⟨_, rfl⟩, rfl⟩
set_option maxRecDepth 8000 in
set_option maxHeartbeats 2000000 in
theorem len_any (n : Nat) (hn : n ≤ 2) (w : World) : Calls Try.prog 66 #[.int .u64 (n : Int)] w fun e w' => (∃ k : Int, e = .returned (.int .i64 k)) ∧ w' = w := by
  have G := hidIt (len64_any n hn w)
  go_enter Try.func66, Try.ntmps66
  go_wp2_with (go_at_call 82; refine G.out.mono ?_; rintro e w' ⟨⟨k, rfl⟩, hww⟩; cases hww)
  go_ret
  exact ⟨⟨k, rfl⟩, rfl⟩
set_option maxRecDepth 8000 in
set_option maxHeartbeats 2000000 in
theorem pdq_any (ao : Option Addr) (n cap : Nat) (k : Int) (hn : n ≤ 2) (w : World) (Q : World → Prop) (h : Calls Try.prog 72 #[.slice ao n cap, .int .i64 0, .int .i64 (n : Int)] w fun e w' => e = .returned (.tuple #[]) ∧ Q w') :
    Calls Try.prog 65 #[.slice ao n cap, .int .i64 0, .int .i64 (n : Int), .int .i64 k] w fun e w' => e = .returned (.tuple #[]) ∧ Q w' := by
  have G := hidIt h
  have hn' : (n : Int) ≤ 12 := by omega
  clear h
  go_enter Try.func65, Try.ntmps65
  go_wp2
  go_loopw [1, 2] (fun a b wr => a = .int .i64 0 ∧ b = .int .i64 (n : Int) ∧ wr = w) (fun _ _ _ => 0)
  case atStart => exact ⟨rfl, rfl, rfl⟩
  case round =>
    obtain ⟨rfl, rfl, hww⟩ := hrel
    cases hww
    go_wp2_with (go_at_call 72; refine G.out.mono ?_; rintro e w' ⟨rfl, hQ⟩)
    refine bodyPost_ret (results_none rfl _ _ _) rfl ?_
    exact ⟨rfl, hQ⟩
set_option maxRecDepth 8000 in
set_option maxHeartbeats 2000000 in
theorem sort_any (ao : Option Addr) (n cap : Nat) (hn : n ≤ 2) (w : World) (Q : World → Prop) (h : Calls Try.prog 72 #[.slice ao n cap, .int .i64 0, .int .i64 (n : Int)] w fun e w' => e = .returned (.tuple #[]) ∧ Q w') :
    Calls Try.prog 50 #[.slice ao n cap] w fun e w' => e = .returned (.tuple #[]) ∧ Q w' := by
  have G1 := hidIt (len_any n hn w)
  have G2 := hidIt (fun k => pdq_any ao n cap k hn w Q h)
  clear h
  go_enter Try.func50, Try.ntmps50
  go_wp2_with (first | (go_at_call 66; refine G1.out.mono ?_; rintro e w' ⟨⟨k, rfl⟩, hww⟩; cases hww) | (go_at_call 65; refine (G2.out _).mono ?_; rintro e w' ⟨rfl, hQ⟩))
  go_end0
  exact ⟨rfl, hQ⟩
set_option maxRecDepth 8000 in
set_option maxHeartbeats 2000000 in
theorem compact_few (ao : Option Addr) (n cap : Nat) (hn : n ≤ 1) (w : World) :
    Calls Try.prog 51 #[.slice ao n cap] w fun e w' => e = .returned (.slice ao n cap) ∧ w' = w := by
  have hn' : (n : Int) < 2 := by omega
  go_enter Try.func51, Try.ntmps51
  go_wp2
  go_ret
  exact ⟨rfl, rfl⟩
set_option maxRecDepth 8000 in
set_option maxHeartbeats 2000000 in
theorem compact_two (g cap : Nat) (x y : Int) (hne : x ≠ y) (w : World) (c0 : w.cell? ⟨g, 0, none⟩ = some (.int .i64 x)) (c1 : w.cell? ⟨g, 1, none⟩ = some (.int .i64 y)) :
    Calls Try.prog 51 #[.slice (some ⟨g, 0, none⟩) 2 cap] w fun e w' => e = .returned (.slice (some ⟨g, 0, none⟩) 2 cap) ∧ ∃ q, w' = w.drewN q := by
  have hne' : (y == x) = false := by simpa using fun h => hne h.symm
  go_enter Try.func51, Try.ntmps51
  go_wp2
  go_loopw [3] (fun k wr => (k = .int .i64 1 ∨ k = .int .i64 2) ∧ ∃ q, wr = w.drewN q) (fun k _ => 3 - (intOf k).toNat)
  case atStart => exact ⟨.inl rfl, 0, rfl⟩
  case round =>
    obtain ⟨hk, q, rfl⟩ := hrel
    rcases hk with rfl | rfl
    · go_wp2
      try go_quiet (fail)
      try go_wp2
      exact ⟨⟨.inr rfl, _, rfl⟩, by simp [intOf]⟩
    · go_wp2
      go_ret
      exact ⟨rfl, _, rfl⟩
set_option maxRecDepth 8000 in
theorem run_clear1 (w : World) (nq g cap : Nat) (x : Int) (c1 : w.cell? ⟨g, 1, none⟩ = some (.int .i64 x)) (f0 : ∀ j, w.frozen? ⟨g, j, none⟩ = false) :
    (Builtin.clear_ #[25] 0 #[.slice (some ⟨g, 1, none⟩) 1 (cap - 1)]).run Try.prog (w.drewN nq) = .ok (.tuple #[]) ((w.drewN nq).setCell ⟨g, 1, none⟩ (.int .i64 0)) := by
  have := Go.Lib.run_clear_slice (P := Try.prog) (w.drewN nq) 25 3 0 (.int .i64 0) Try.underlying25 (fun _ => rfl) rfl rfl g 1 1 (cap - 1) (by omega)
    (by
      intro j hj
      obtain rfl : j = 0 := by omega
      have e : (w.drewN nq).cell? ⟨g, 1 + 0, none⟩ = some (.int .i64 x) := c1
      rw [e]
      rfl) (fun j _ => f0 (1 + j))
  exact this
set_option maxRecDepth 8000 in
set_option maxHeartbeats 2000000 in
theorem compact_same (g cap : Nat) (x : Int) (cs : Array Value) (hc2 : 2 ≤ cap) (hcm : cap ≤ 2 ^ 63 - 1) (w : World) (h : w.heap[g]? = some (.cells cs 3 (0, 0))) (h0 : cs[0]? = some (.int .i64 x)) (h1 : cs[1]? = some (.int .i64 x)) :
    Calls Try.prog 51 #[.slice (some ⟨g, 0, none⟩) 2 cap] w fun e w' => e = .returned (.slice (some ⟨g, 0, none⟩) 1 cap) ∧ OnlyG g w w' ∧ ∃ u, w'.heap[g]? = some (.cells (cs.setIfInBounds 1 u) 3 (0, 0)) := by
  have c0 := cell_row h 0 h0
  have c1 := cell_row h 1 h1
  have H := hidIt h
  have hbl := cell_lt c0
  have f0 := frozen_row h
  clear h h0 h1
  go_enter Try.func51, Try.ntmps51
  go_wp2
  go_loopw [3] (fun k wr => k = .int .i64 1 ∧ wr = w) (fun k _ => 3 - (intOf k).toNat)
  case atStart => exact ⟨rfl, rfl⟩
  case round =>
    obtain ⟨rfl, hww⟩ := hrel
    cases hww
    go_wp2
    go_quiet (fail)
    go_wp2
    go_loopw [3, 5] (fun k k2 wr => k = .int .i64 1 ∧ k2 = .int .i64 1 ∧ wr = w.drewN nq) (fun _ _ _ => 0)
    case atStart => exact ⟨rfl, rfl, rfl⟩
    case round =>
      obtain ⟨rfl, rfl, rfl⟩ := hrel
      have hcl := run_clear1 w nq g cap x c1 f0
      go_wp2
      go_ret
      refine ⟨rfl, ?_, .int .i64 0, ?_⟩
      · exact ((OnlyG.refl g w).drewN nq).set
      · exact set_row H.out
end Go.Proofs.Ytlnapfeglbdecaa
