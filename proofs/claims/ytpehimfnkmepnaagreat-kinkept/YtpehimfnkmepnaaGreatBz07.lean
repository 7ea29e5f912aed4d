import Derived.Test.YtpehimfnkmepnaaGreatBz06
import Derived.Laws.BytesArg
import Derived.Laws.Tables
import Derived.Great.Walk
import Derived.Deep.Cut
import Derived.Deep.MidRow
set_option maxRecDepth 8000
set_option maxHeartbeats 40000000
namespace Go.Proofs.YtpehimfnkmepnaaGreat
open Go.RowKit
theorem zA0 {p : Prop} (h : p) : Hid p := h
theorem Tryz.info5 : (Tryz.prog.info? 5).map (fun i => (i.zero, i.size, i.bytes)) = some (some (.int .u8 0), 1, 1) := by kernel_rfl
def zeroI : Value := .agg #[.int .i64 0, .int .i64 0, .int .i64 0, .int .i64 0]
theorem Tryz.info179 : (Tryz.prog.info? 179).map (fun i => (i.zero, i.size, i.bytes)) = some (some zeroI, 4, 32) := by kernel_rfl
def Moved (H : Nat) (v v' : Value) : Prop := v'.ownBlock = v.ownBlock ∨ ∃ g, v'.ownBlock = some g ∧ H ≤ g
structure Step (v : Value) (w : World) (v' : Value) (w' : World) : Prop where
 grown : w.grownBy w' v.ownBlock
 moved : Moved w.heap.size v v'
theorem Step.refl (v : Value) (w : World) : Step v w v w := ⟨⟨rfl, rfl, rfl, Nat.le_refl _, fun _ _ _ => rfl⟩, .inl rfl⟩
theorem Step.trans {v v1 v2 : Value} {w w1 w2 : World} (h : Step v w v1 w1) (k : Step v1 w1 v2 w2) : Step v w v2 w2 := by
 refine ⟨⟨k.grown.os.trans h.grown.os, k.grown.tape.trans h.grown.tape, k.grown.output.trans h.grown.output, Nat.le_trans h.grown.size k.grown.size, ?_⟩, ?_⟩
 · intro i hi hne
   have h1 := h.grown.block i hi hne
   have hlt : i < w1.heap.size := Nat.lt_of_lt_of_le hi h.grown.size
   rw [k.grown.block i hlt ?_, h1]
   rcases h.moved with e | ⟨g, e, hg⟩
   · rw [e]; exact hne
   · rw [e]; intro e2; cases e2; omega
 · rcases k.moved with e | ⟨g, e, hg⟩
   · rcases h.moved with e1 | ⟨g1, e1, hg1⟩
     · exact .inl (e.trans e1)
     · exact .inr ⟨g1, e.trans e1, hg1⟩
   · exact .inr ⟨g, e, Nat.le_trans h.grown.size hg⟩
theorem Step.of_below {v : Value} {w w' : World} (h : Below w.heap.size w w') : Step v w v w' :=
 ⟨⟨h.os, h.tape, h.output, h.size, fun k hk _ => h.block k hk⟩, .inl rfl⟩
theorem Step.of_at {v v' : Value} {w w' : World} (hg : w.grownBy w' v.ownBlock) (ha : v'.ownBlock = v.ownBlock ∨ v'.ownBlock = some w.heap.size) : Step v w v' w' :=
 ⟨hg, ha.imp id fun e => ⟨_, e, Nat.le_refl _⟩⟩
theorem Step.below {v v' : Value} {w w' : World} (h : Step v w v' w') {B : Nat} (hB : B ≤ w.heap.size) (hv : ∀ k, v.ownBlock = some k → B ≤ k) : Below B w w' :=
 (Below.refl _ _).grown h.grown hB hv
theorem zA2 (w : World) (o : Obj) : Below w.heap.size w (w.alloc o) := (Below.refl _ _).alloc (Nat.le_refl _) o
theorem zA5 {B : Nat} {w W : World} (h : Below B w W) (q : Nat) : Below B w (W.drewN q) := ⟨h.os, h.tape, h.output, h.size, h.block⟩
theorem zA1 {w : World} {b : Nat} {cs : Array Value} {T : TypeId} (h : w.heap[b]? = some (.cells cs T (0, 0))) (j : Nat) {v : Value} (hv : cs[j]? = some v) : w.cell? ⟨b, j, none⟩ = some v := by
 rw [cell_of_row w b j _ T (0, 0) h]; exact hv
/-! Rows of one's own. -/
theorem zBx {w w' : World} {B e s n : Nat} {v : Value} {xs : List Value} (h : w.ownsRow B e s v n xs) (hb : Below w.heap.size w w') : w'.ownsRow B e s v n xs := by
 refine ⟨h.1, ?_⟩
 rcases h.2 with x | ⟨g, cap, cur, rfl, hB, hg2, r⟩
 · exact .inl x
 · exact .inr ⟨g, cap, cur, rfl, hB, (hb.block g (Array.getElem?_eq_some_iff.1 hg2).1).trans hg2, r⟩
theorem zA4 {w : World} {B e s n : Nat} {v : Value} {xs : List Value} (h : w.ownsRow B e s v n xs) : ∃ ao cap, v = .slice ao n cap := by
 rcases h.2 with ⟨rfl, rfl⟩ | ⟨g, cap, cur, rfl, _⟩
 · exact ⟨_, _, rfl⟩
 · exact ⟨_, _, rfl⟩
/-! Bytes. -/
def zAj (l : List Int) : List Value := l.map (Value.int .u8)
theorem zIt (a b : List Int) : zAj (a ++ b) = zAj a ++ zAj b := by simp [zAj]
def Lies (w : World) (g off : Nat) (l : List Int) : Prop := ∀ j x, l[j]? = some x → w.cell? ⟨g, off + j, none⟩ = some (.int .u8 x)
def View (w : World) (v : Value) (l : List Int) : Prop :=
 ∃ ao cap, v = .slice ao l.length cap ∧ l.length ≤ cap ∧ cap ≤ maxLen ∧ zAq l ∧ (l = [] ∨ ∃ g off, ao = some ⟨g, off, none⟩ ∧ Lies w g off l)
theorem zAq.append {a b : List Int} (ha : zAq a) (hb : zAq b) : zAq (a ++ b) := fun x hx => by
 rcases List.mem_append.1 hx with h | h
 · exact ha x h
 · exact hb x h
theorem zAq.nil : zAq [] := fun x hx => by simp at hx
theorem View.empty (w : World) : View w (.slice none 0 0) [] := ⟨none, 0, rfl, Nat.le_refl _, by unfold maxLen; omega, zAq.nil, .inl rfl⟩
theorem View.of_own {w : World} {B : Nat} {v : Value} {l : List Int} (h : w.ownsRow B 5 1 v l.length (zAj l)) (hb : zAq l) : View w v l := by
 rcases h.2 with ⟨rfl, h0⟩ | ⟨g, cap, cur, rfl, _, hg, h1, h2, h3, h4⟩
 · have : l = [] := List.length_eq_zero_iff.1 h0
   subst this
   exact ⟨none, 0, rfl, Nat.le_refl _, by unfold maxLen; omega, hb, .inl rfl⟩
 · refine ⟨some ⟨g, 0, none⟩, cap, rfl, h1, h2, hb, .inr ⟨g, 0, rfl, fun j x hj => ?_⟩⟩
   have hj' : (zAj l)[j]? = some (.int .u8 x) := by simp [zAj, hj]
   have := h.cells (g := g) rfl j _ hj'
   have e : (⟨g, 0, none⟩ : Addr).add j = ⟨g, 0 + j, none⟩ := by unfold Addr.add; split <;> simp_all
   rwa [e] at this
theorem zF4 {w : World} {g off : Nat} {l : List Int} (h : Lies w g off l) (j : Nat) (u : Value) (hj : (zAj l)[j]? = some u) : w.cell? ((⟨g, off, none⟩ : Addr).add j) = some u := by
 have e : (⟨g, off, none⟩ : Addr).add j = ⟨g, off + j, none⟩ := by unfold Addr.add; split <;> simp_all
 rw [e]
 simp only [zAj, List.getElem?_map, Option.map_eq_some_iff] at hj
 obtain ⟨x, hx, rfl⟩ := hj
 exact h j x hx
theorem zG6 (l : List Int) : ∀ u ∈ zAj l, u.oneCell' = true := by
 intro u hu
 simp only [zAj, List.mem_map] at hu
 obtain ⟨x, _, rfl⟩ := hu
 rfl
theorem zHb (w : World) (ty : TypeId) (B : Nat) (v vb : Value) (n : Nat) (xs : List Value) (lb : List Int) (hown : w.ownsRow B 5 1 v n xs) (hv : View w vb lb) (hlen : n + lb.length ≤ 140737488355328) (hB : B ≤ w.heap.size) :
 ∃ v' w', (Builtin.append_ #[35, 35] ty #[v, vb]).run Tryz.prog w = .ok v' w' ∧ w'.ownsRow B 5 1 v' (n + lb.length) (xs ++ zAj lb) ∧ Step v w v' w' := by
 obtain ⟨i0, hi, hz0, hz1, hz2⟩ := info_parts Tryz.info5
 obtain ⟨ao, cap, rfl, hc, hm, hy, hl⟩ := hv
 rcases hl with rfl | ⟨g, off, rfl, hl⟩
 · refine ⟨v, w, ?_, by simpa [zAj] using hown, Step.refl _ _⟩
   rcases hown.2 with ⟨rfl, rfl⟩ | ⟨g, cap, cur, rfl, hbg, hg, hnc, hcm, hcs, htake⟩
   · cases ao <;> simp [Builtin.append_, run_underlying Tryz.underlying35, sizeOf, typeInfo, hi, Builtin.lenOf, Builtin.firstCells, loadCells, loadCellsFrom]
   · cases ao <;> simp [Builtin.append_, run_underlying Tryz.underlying35, sizeOf, typeInfo, hi, Builtin.lenOf, Builtin.firstCells, loadCells, loadCellsFrom, hnc, storeCells]
 · obtain ⟨v', w', hr, ho, hg, _, hat⟩ := run_append_own_at (P := Tryz.prog) w B 35 ty 5 i0 (.int .u8 0) 1 1 Tryz.underlying35 hi hz0 hz1 hz2 rfl (by decide) v n xs hown ⟨g, off, none⟩ lb.length cap (zAj lb) (by simp [zAj]) (fun j u hj => zF4 hl j u hj) (zG6 lb) (by unfold maxLen; omega) (by omega) hB
   exact ⟨v', w', hr, ho, Step.of_at hg hat⟩
theorem zFg {w : World} {ops : Array Oper} {rest : List Oper} {o : Oper} {a : Act} {Q : Exit → Act → World → Prop} (hgd : o.guard = none) (s x : Operand)
 (ho : o.op = .call { callee := .builtin .append, args := #[s, x], argTypes := #[35, 35] })
 (B : Nat) (v vb : Value) (n : Nat) (xs : List Value) (lb : List Int) (hs : a.eval s = v) (hown : w.ownsRow B 5 1 v n xs) (hx : a.eval x = vb) (hv : View w vb lb)
 (hlen : n + lb.length ≤ 140737488355328) (hB : B ≤ w.heap.size)
 (h : ∀ v' w', w'.ownsRow B 5 1 v' (n + lb.length) (xs ++ zAj lb) → Step v w v' w' → wpList Tryz.prog ops Q rest (a.put o.dst v') w') :
 wpList Tryz.prog ops Q (o :: rest) a w := by
 refine wpList_plain hgd fun K hK => ?_
 obtain ⟨v', w', hr, h2, h3⟩ := zHb w o.type B v vb n xs lb hown hv hlen hB
 unfold Oper.wp execOp
 simp only [ho, resolve, invoke, builtin, Sem.run_bind, Sem.run_pure, Result.andThen_ok, List.map_toArray, List.map_cons, List.map_nil, hs, hx, hr]
 exact hK _ _ (h v' w' h2 h3)
/-! Instructions. -/
def irow (i : IN) : List Value := [.int .i64 i.pl, .int .i64 i.op, .int .i64 i.a, .int .i64 i.b]
def zCf (l : List IN) : List Value := l.flatMap irow
theorem zFo (a b : List IN) : zCf (a ++ b) = zCf a ++ zCf b := by simp [zCf]
theorem zIc (l : List IN) : (zCf l).length = l.length * 4 := by
 induction l with
 | nil => rfl
 | cons x l ih => simp only [zCf, List.flatMap_cons, List.length_append, List.length_cons] at *; rw [ih]; simp [irow]; omega
theorem zMu (l : List IN) : ∀ u ∈ zCf l, u.oneCell' = true := by
 intro u hu
 simp only [zCf, List.mem_flatMap] at hu
 obtain ⟨x, _, hx⟩ := hu
 simp [irow] at hx
 rcases hx with rfl | rfl | rfl | rfl <;> rfl
def IAt (w : World) (g o : Nat) (i : IN) : Prop :=
 w.cell? ⟨g, o, none⟩ = some (.int .i64 i.pl) ∧ w.cell? ⟨g, o + 1, none⟩ = some (.int .i64 i.op) ∧ w.cell? ⟨g, o + 2, none⟩ = some (.int .i64 i.a) ∧ w.cell? ⟨g, o + 3, none⟩ = some (.int .i64 i.b)
def zMj (w : World) (g off : Nat) (l : List IN) : Prop := ∀ j x, l[j]? = some x → IAt w g (off + j * 4) x
def zEb (w : World) (v : Value) (l : List IN) : Prop :=
 ∃ ao cap, v = .slice ao l.length cap ∧ l.length ≤ cap ∧ cap ≤ maxLen ∧ (l = [] ∨ ∃ g off, ao = some ⟨g, off, none⟩ ∧ zMj w g off l)
theorem IAt.below {w w' : World} {g o : Nat} {i : IN} (h : IAt w g o i) (hb : Below w.heap.size w w') : IAt w' g o i :=
 ⟨cell_later hb h.1, cell_later hb h.2.1, cell_later hb h.2.2.1, cell_later hb h.2.2.2⟩
theorem zEb.below {w wr : World} {v : Value} {l : List IN} (h : zEb w v l) (hb : Below w.heap.size w wr) : zEb wr v l := by
 obtain ⟨ao, cap, rfl, hc, hm, hl⟩ := h
 refine ⟨ao, cap, rfl, hc, hm, ?_⟩
 rcases hl with h | ⟨g, off, e, hl⟩
 · exact .inl h
 · exact .inr ⟨g, off, e, fun j x hj => (hl j x hj).below hb⟩
theorem zEb.empty (w : World) : zEb w (.slice none 0 0) [] := ⟨none, 0, rfl, Nat.le_refl _, by unfold maxLen; omega, .inl rfl⟩
theorem zI5 (l : List IN) (j : Nat) (x : IN) (i : Nat) (h : l[j]? = some x) (hi : i < 4) : (zCf l)[j * 4 + i]? = (irow x)[i]? := by
 induction l generalizing j with
 | nil => simp at h
 | cons y l ih =>
   unfold zCf
   rw [List.flatMap_cons]
   have hy : (irow y).length = 4 := rfl
   cases j with
   | zero =>
     simp at h; subst h
     rw [Nat.zero_mul, Nat.zero_add, List.getElem?_append_left (by omega)]
   | succ j =>
     simp at h
     rw [List.getElem?_append_right (by omega), hy, show (j + 1) * 4 + i - 4 = j * 4 + i by omega]
     exact ih j h
theorem zMj.cells {w : World} {g off : Nat} {l : List IN} (h : zMj w g off l) (j : Nat) (u : Value) (hj : (zCf l)[j]? = some u) : w.cell? ((⟨g, off, none⟩ : Addr).add j) = some u := by
 have e : (⟨g, off, none⟩ : Addr).add j = ⟨g, off + j, none⟩ := by unfold Addr.add; split <;> simp_all
 rw [e]
 have hlt := (List.getElem?_eq_some_iff.1 hj).1
 rw [zIc] at hlt
 obtain ⟨x, hx⟩ : ∃ x, l[j / 4]? = some x := ⟨l[j / 4]'(by omega), List.getElem?_eq_getElem (by omega)⟩
 have h4 : j % 4 < 4 := Nat.mod_lt _ (by decide)
 have hg := zI5 l (j / 4) x (j % 4) hx h4
 rw [show j / 4 * 4 + j % 4 = j by omega, hj] at hg
 obtain ⟨h0, h1, h2, h3⟩ := h (j / 4) x hx
 have ej : j = j / 4 * 4 + j % 4 := by omega
 generalize j % 4 = r at *
 match r, h4 with
 | 0, _ => simp [irow] at hg; subst hg; rw [ej]; exact h0
 | 1, _ => simp [irow] at hg; subst hg; rw [ej, ← Nat.add_assoc]; exact h1
 | 2, _ => simp [irow] at hg; subst hg; rw [ej, ← Nat.add_assoc]; exact h2
 | 3, _ => simp [irow] at hg; subst hg; rw [ej, ← Nat.add_assoc]; exact h3
theorem zMj.of_block {w : World} {g n : Nat} {cur : Array Value} {l : List IN} (hg : w.heap[g]? = some (.cells cur 179 (0, 0))) (hn : l.length = n) (ht : cur.toList.take (n * 4) = zCf l) : zMj w g 0 l := by
 intro j x hj
 have hlt := (List.getElem?_eq_some_iff.1 hj).1
 have hc : ∀ i, i < 4 → cur[0 + j * 4 + i]? = (irow x)[i]? := by
  intro i hi
  rw [← zI5 l j x i hj hi, ← ht, List.getElem?_take, if_pos (by omega), Nat.zero_add, Array.getElem?_toList]
 exact ⟨zA1 hg _ (hc 0 (by decide)), zA1 hg _ (hc 1 (by decide)), zA1 hg _ (hc 2 (by decide)), zA1 hg _ (hc 3 (by decide))⟩
theorem zEb.of_own {w : World} {B : Nat} {v : Value} {l : List IN} (h : w.ownsRow B 179 4 v l.length (zCf l)) : zEb w v l := by
 rcases h.2 with ⟨rfl, h0⟩ | ⟨g, cap, cur, rfl, _, hg, h1, h2, h3, h4⟩
 · have : l = [] := List.length_eq_zero_iff.1 h0
   subst this
   exact zEb.empty w
 · exact ⟨some ⟨g, 0, none⟩, cap, rfl, h1, h2, .inr ⟨g, 0, rfl, zMj.of_block hg rfl h4⟩⟩
theorem zEb.row {w : World} {ao : Option Addr} {n cap : Nat} {l : List IN} (h : zEb w (.slice ao n cap) l) {j : Nat} {x : IN} (hj : l[j]? = some x) : ∃ g off, ao = some ⟨g, off, none⟩ ∧ IAt w g (off + j * 4) x := by
 obtain ⟨ao', cap', e, hc, hm, hl⟩ := h
 cases e
 rcases hl with rfl | ⟨g, off, rfl, hl⟩
 · simp at hj
 · exact ⟨g, off, rfl, hl j x hj⟩
theorem zLn (w : World) (i : IN) : IAt (w.alloc (.cells #[.int .i64 i.pl, .int .i64 i.op, .int .i64 i.a, .int .i64 i.b] 179)) w.heap.size 0 i := by
 have h := heap_alloc_new w (.cells #[.int .i64 i.pl, .int .i64 i.op, .int .i64 i.a, .int .i64 i.b] 179)
 exact ⟨zA1 h 0 rfl, zA1 h 1 rfl, zA1 h 2 rfl, zA1 h 3 rfl⟩
theorem zKo (w : World) (ty : TypeId) (B : Nat) (v vb : Value) (n : Nat) (xs : List Value) (lb : List IN) (hown : w.ownsRow B 179 4 v n xs) (hv : zEb w vb lb) (hlen : (n + lb.length) * 32 ≤ 140737488355328) (hB : B ≤ w.heap.size) :
 ∃ v' w', (Builtin.append_ #[171, 171] ty #[v, vb]).run Tryz.prog w = .ok v' w' ∧ w'.ownsRow B 179 4 v' (n + lb.length) (xs ++ zCf lb) ∧ Step v w v' w' := by
 obtain ⟨i0, hi, hz0, hz1, hz2⟩ := info_parts Tryz.info179
 obtain ⟨ao, cap, rfl, hc, hm, hl⟩ := hv
 rcases hl with rfl | ⟨g, off, rfl, hl⟩
 · refine ⟨v, w, ?_, by simpa [zCf] using hown, Step.refl _ _⟩
   rcases hown.2 with ⟨rfl, rfl⟩ | ⟨g, cap, cur, rfl, hbg, hg, hnc, hcm, hcs, htake⟩
   · cases ao <;> simp [Builtin.append_, run_underlying Tryz.underlying171, sizeOf, typeInfo, hi, Builtin.lenOf, Builtin.firstCells, loadCells, loadCellsFrom]
   · cases ao <;> simp [Builtin.append_, run_underlying Tryz.underlying171, sizeOf, typeInfo, hi, Builtin.lenOf, Builtin.firstCells, loadCells, loadCellsFrom, hnc, storeCells]
 · obtain ⟨v', w', hr, ho, hg, _, hat⟩ := run_append_own_at (P := Tryz.prog) w B 171 ty 179 i0 zeroI 4 32 Tryz.underlying171 hi hz0 hz1 hz2 rfl (by decide) v n xs hown ⟨g, off, none⟩ lb.length cap (zCf lb) (zIc lb) hl.cells (zMu lb) (by unfold maxLen; omega) (by omega) hB
   exact ⟨v', w', hr, ho, Step.of_at hg hat⟩
theorem zEu {w : World} {ops : Array Oper} {rest : List Oper} {o : Oper} {a : Act} {Q : Exit → Act → World → Prop} (hgd : o.guard = none) (s x : Operand)
 (ho : o.op = .call { callee := .builtin .append, args := #[s, x], argTypes := #[171, 171] })
 (B : Nat) (v vb : Value) (n : Nat) (xs : List Value) (lb : List IN) (hs : a.eval s = v) (hown : w.ownsRow B 179 4 v n xs) (hx : a.eval x = vb) (hv : zEb w vb lb)
 (hlen : (n + lb.length) * 32 ≤ 140737488355328) (hB : B ≤ w.heap.size)
 (h : ∀ v' w', w'.ownsRow B 179 4 v' (n + lb.length) (xs ++ zCf lb) → Step v w v' w' → wpList Tryz.prog ops Q rest (a.put o.dst v') w') :
 wpList Tryz.prog ops Q (o :: rest) a w := by
 refine wpList_plain hgd fun K hK => ?_
 obtain ⟨v', w', hr, h2, h3⟩ := zKo w o.type B v vb n xs lb hown hv hlen hB
 unfold Oper.wp execOp
 simp only [ho, resolve, invoke, builtin, Sem.run_bind, Sem.run_pure, Result.andThen_ok, List.map_toArray, List.map_cons, List.map_nil, hs, hx, hr]
 exact hK _ _ (h v' w' h2 h3)
def zCg : List (Int × ByteArray) := [(0, ⟨#[110, 111, 112]⟩), (1, ⟨#[110, 117, 108, 108]⟩), (2, ⟨#[99, 111, 110, 115, 116, 109, 49]⟩), (3, ⟨#[99, 111, 110, 115, 116, 48]⟩), (4, ⟨#[99, 111, 110, 115, 116, 49]⟩), (5, ⟨#[99, 111, 110, 115, 116, 50]⟩), (6, ⟨#[99, 111, 110, 115, 116, 51]⟩), (7, ⟨#[99, 111, 110, 115, 116, 52]⟩), (8, ⟨#[99, 111, 110, 115, 116, 53]⟩), (16, ⟨#[112, 117, 115, 104, 49]⟩), (17, ⟨#[112, 117, 115, 104, 50]⟩), (18, ⟨#[108, 100, 99]⟩), (21, ⟨#[105, 108, 111, 97, 100]⟩), (25, ⟨#[97, 108, 111, 97, 100]⟩), (46, ⟨#[105, 97, 108, 111, 97, 100]⟩), (50, ⟨#[97, 97, 108, 111, 97, 100]⟩), (54, ⟨#[105, 115, 116, 111, 114, 101]⟩), (58, ⟨#[97, 115, 116, 111, 114, 101]⟩), (79, ⟨#[105, 97, 115, 116, 111, 114, 101]⟩), (83, ⟨#[97, 97, 115, 116, 111, 114, 101]⟩), (87, ⟨#[112, 111, 112]⟩), (89, ⟨#[100, 117, 112]⟩), (95, ⟨#[115, 119, 97, 112]⟩), (96, ⟨#[97, 100, 100]⟩), (100, ⟨#[115, 117, 98]⟩), (104, ⟨#[109, 117, 108]⟩), (108, ⟨#[100, 105, 118]⟩), (112, ⟨#[114, 101, 109]⟩), (116, ⟨#[110, 101, 103]⟩), (120, ⟨#[115, 104, 108]⟩), (122, ⟨#[115, 104, 114]⟩), (124, ⟨#[117, 115, 104, 114]⟩), (126, ⟨#[97, 110, 100]⟩), (128, ⟨#[111, 114]⟩), (130, ⟨#[120, 111, 114]⟩), (132, ⟨#[105, 110, 99]⟩), (153, ⟨#[105, 102, 101, 113]⟩), (154, ⟨#[105, 102, 110, 101]⟩), (155, ⟨#[105, 102, 108, 116]⟩), (156, ⟨#[105, 102, 103, 101]⟩), (157, ⟨#[105, 102, 103, 116]⟩), (158, ⟨#[105, 102, 108, 101]⟩), (159, ⟨#[99, 109, 112, 101, 113]⟩), (160, ⟨#[99, 109, 112, 110, 101]⟩), (161, ⟨#[99, 109, 112, 108, 116]⟩), (162, ⟨#[99, 109, 112, 103, 101]⟩), (163, ⟨#[99, 109, 112, 103, 116]⟩), (164, ⟨#[99, 109, 112, 108, 101]⟩), (165, ⟨#[114, 101, 102, 101, 113]⟩), (166, ⟨#[114, 101, 102, 110, 101]⟩), (167, ⟨#[103, 111, 116, 111]⟩), (172, ⟨#[105, 114, 101, 116, 117, 114, 110]⟩), (176, ⟨#[97, 114, 101, 116, 117, 114, 110]⟩), (177, ⟨#[114, 101, 116, 117, 114, 110]⟩), (178, ⟨#[103, 101, 116, 115, 116, 97, 116, 105, 99]⟩), (179, ⟨#[112, 117, 116, 115, 116, 97, 116, 105, 99]⟩), (180, ⟨#[103, 101, 116, 102, 105, 101, 108, 100]⟩), (181, ⟨#[112, 117, 116, 102, 105, 101, 108, 100]⟩), (182, ⟨#[118, 105, 114, 116, 117, 97, 108]⟩), (184, ⟨#[115, 116, 97, 116, 105, 99]⟩), (187, ⟨#[110, 101, 119]⟩), (188, ⟨#[110, 101, 119, 105, 110, 116, 115]⟩), (189, ⟨#[110, 101, 119, 114, 101, 102, 115]⟩), (190, ⟨#[108, 101, 110, 103, 116, 104]⟩), (191, ⟨#[116, 104, 114, 111, 119]⟩), (192, ⟨#[99, 97, 115, 116]⟩), (193, ⟨#[105, 115, 97]⟩), (194, ⟨#[101, 110, 116, 101, 114]⟩), (195, ⟨#[101, 120, 105, 116]⟩), (198, ⟨#[105, 102, 110, 117, 108, 108]⟩), (199, ⟨#[105, 102, 115, 111, 109, 101]⟩)]
def zFx (op : Int) : ByteArray := match zCg.find? (fun p => p.1 == op) with | some p => p.2 | none => ⟨#[]⟩
theorem zNy {op : Int} (hn : ∀ q ∈ zCg, q.1 ≠ op) : zFx op = ⟨#[]⟩ := by
 unfold zFx
 rw [List.find?_eq_none.2 (fun q hq => by simpa using hn q hq)]
theorem zQg (op : Int) : kd op = 3 ↔ op = 16 := by
 unfold kd
 constructor
 · intro h
   repeat' split at h
   all_goals first | assumption | omega
 · rintro rfl; decide
theorem zRk (op : Int) : kd op = 5 ↔ op = 17 := by
 unfold kd
 constructor
 · intro h
   repeat' split at h
   all_goals first | assumption | omega
 · rintro rfl; decide
end Go.Proofs.YtpehimfnkmepnaaGreat
