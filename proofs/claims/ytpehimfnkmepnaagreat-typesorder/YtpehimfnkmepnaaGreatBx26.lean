import Derived.Test.YtpehimfnkmepnaaGreatBx25
import Derived.Great.Walk
import Derived.Deep.Cut
import Derived.Deep.MidRow
set_option maxRecDepth 8000
set_option maxHeartbeats 40000000
namespace Go.Proofs.YtpehimfnkmepnaaGreat
open Go.RowKit
theorem zA0 {p : Prop} (h : p) : Hid p := h
theorem zC3 {k : IntKind} {a b : Int} (h : a = b) : Ending.returned (.int k a) = .returned (.int k b) := by rw [h]
theorem Tryz.info5 : (Tryz.prog.info? 5).map (fun i => (i.zero, i.size, i.bytes)) = some (some (.int .u8 0), 1, 1) := by kernel_rfl
def zeroI : Value := .agg #[.int .i64 0, .int .i64 0, .int .i64 0, .int .i64 0]
theorem Tryz.info179 : (Tryz.prog.info? 179).map (fun i => (i.zero, i.size, i.bytes)) = some (some zeroI, 4, 32) := by kernel_rfl
def zSw (H : Nat) (v v' : Value) : Prop := v'.ownBlock = v.ownBlock ∨ ∃ g, v'.ownBlock = some g ∧ H ≤ g
structure Step (v : Value) (w : World) (v' : Value) (w' : World) : Prop where
 grown : w.grownBy w' v.ownBlock
 moved : zSw w.heap.size v v'
theorem Step.refl (v : Value) (w : World) : Step v w v w := ⟨⟨rfl, rfl, rfl, Nat.le_refl _, fun _ _ _ => rfl⟩, .inl rfl⟩
theorem Step.trans {v v1 v2 : Value} {w w1 w2 : World} (h : Step v w v1 w1) (k : Step v1 w1 v2 w2) : Step v w v2 w2 := by
 refine ⟨⟨k.grown.os.trans h.grown.os, k.grown.tape.trans h.grown.tape, k.grown.output.trans h.grown.output, Nat.le_trans h.grown.size k.grown.size, ?_⟩, ?_⟩
 · intro i hi hne
   have h1 := h.grown.block i hi hne
   have hlt : i < w1.heap.size := Nat.lt_of_lt_of_le hi h.grown.size
   rw [k.grown.block i hlt ?_, h1]
   rcases h.moved with e | ⟨g, e, hg⟩
   · rw [e]; exact hne
   · rw [e]; intro e2; cases e2; omega
 · rcases k.moved with e | ⟨g, e, hg⟩
   · rcases h.moved with e1 | ⟨g1, e1, hg1⟩
     · exact .inl (e.trans e1)
     · exact .inr ⟨g1, e.trans e1, hg1⟩
   · exact .inr ⟨g, e, Nat.le_trans h.grown.size hg⟩
theorem Step.of_below {v : Value} {w w' : World} (h : Below w.heap.size w w') : Step v w v w' :=
 ⟨⟨h.os, h.tape, h.output, h.size, fun k hk _ => h.block k hk⟩, .inl rfl⟩
theorem Step.of_at {v v' : Value} {w w' : World} (hg : w.grownBy w' v.ownBlock) (ha : v'.ownBlock = v.ownBlock ∨ v'.ownBlock = some w.heap.size) : Step v w v' w' :=
 ⟨hg, ha.imp id fun e => ⟨_, e, Nat.le_refl _⟩⟩
theorem Step.below {v v' : Value} {w w' : World} (h : Step v w v' w') {B : Nat} (hB : B ≤ w.heap.size) (hv : ∀ k, v.ownBlock = some k → B ≤ k) : Below B w w' :=
 (Below.refl _ _).grown h.grown hB hv
theorem zA2 (w : World) (o : Obj) : Below w.heap.size w (w.alloc o) := (Below.refl _ _).alloc (Nat.le_refl _) o
theorem zAe {B : Nat} {w W : World} (h : Below B w W) (q : Nat) : Below B w (W.drewN q) := ⟨h.os, h.tape, h.output, h.size, h.block⟩
theorem zA1 {w : World} {b : Nat} {cs : Array Value} {T : TypeId} (h : w.heap[b]? = some (.cells cs T (0, 0))) (j : Nat) {v : Value} (hv : cs[j]? = some v) : w.cell? ⟨b, j, none⟩ = some v := by
 rw [cell_of_row w b j _ T (0, 0) h]; exact hv
theorem zAb {w : World} {b : Nat} {cs : Array Value} {T : TypeId} (hb : w.heap[b]? = some (.cells cs T (0, 0))) (j : Nat) : w.frozen? ⟨b, j, none⟩ = false := by
 simp [World.frozen?, hb]
theorem zBg {w : World} {g j : Nat} {cur : Array Value} {T : TypeId} {u : Value} (h : w.heap[g]? = some (.cells cur T (0, 0))) : (w.setCell ⟨g, j, none⟩ u).heap[g]? = some (.cells (cur.setIfInBounds j u) T (0, 0)) := by
 simp only [World.setCell, Array.getElem?_modify, if_pos, h, Option.map_some]
 try simp
theorem zBn {w : World} {k k' : Nat} {cs cs' : Array Value} {T T' : TypeId} {f f' : Nat × Nat} (h : w.heap[k]? = some (.cells cs T f)) (h' : w.heap[k']? = some (.cells cs' T' f')) (hT : T ≠ T') : k ≠ k' := by
 rintro rfl
 rw [h] at h'
 cases h'
 exact hT rfl
/-! Rows of one's own. -/
theorem zC0 {w w' : World} {B e s n : Nat} {v : Value} {xs : List Value} (h : w.ownsRow B e s v n xs) (hb : Below w.heap.size w w') : w'.ownsRow B e s v n xs := by
 refine ⟨h.1, ?_⟩
 rcases h.2 with x | ⟨g, cap, cur, rfl, hB, hg2, r⟩
 · exact .inl x
 · exact .inr ⟨g, cap, cur, rfl, hB, (hb.block g (Array.getElem?_eq_some_iff.1 hg2).1).trans hg2, r⟩
theorem zIp {w : World} {B B' n s : Nat} {T : TypeId} {v : Value} {xs : List Value} (h : w.ownsRow B T s v n xs) (hB : B' ≤ B) : w.ownsRow B' T s v n xs := by
 refine ⟨h.1, ?_⟩
 rcases h.2 with x | ⟨g, cap, cur, e, hb, r⟩
 · exact .inl x
 · exact .inr ⟨g, cap, cur, e, by omega, r⟩
theorem zA4 {w : World} {B e s n : Nat} {v : Value} {xs : List Value} (h : w.ownsRow B e s v n xs) : ∃ ao cap, v = .slice ao n cap := by
 rcases h.2 with ⟨rfl, rfl⟩ | ⟨g, cap, cur, rfl, _⟩
 · exact ⟨_, _, rfl⟩
 · exact ⟨_, _, rfl⟩
/-! Bytes. -/
def zAh (l : List Int) : List Value := l.map (Value.int .u8)
theorem zFb (a b : List Int) : zAh (a ++ b) = zAh a ++ zAh b := by simp [zAh]
def Lies (w : World) (g off : Nat) (l : List Int) : Prop := ∀ j x, l[j]? = some x → w.cell? ⟨g, off + j, none⟩ = some (.int .u8 x)
def View (w : World) (v : Value) (l : List Int) : Prop :=
 ∃ ao cap, v = .slice ao l.length cap ∧ l.length ≤ cap ∧ cap ≤ maxLen ∧ zAq l ∧ (l = [] ∨ ∃ g off, ao = some ⟨g, off, none⟩ ∧ Lies w g off l)
theorem zAq.append {a b : List Int} (ha : zAq a) (hb : zAq b) : zAq (a ++ b) := fun x hx => by
 rcases List.mem_append.1 hx with h | h
 · exact ha x h
 · exact hb x h
theorem zAq.nil : zAq [] := fun x hx => by simp at hx
theorem View.empty (w : World) : View w (.slice none 0 0) [] := ⟨none, 0, rfl, Nat.le_refl _, by unfold maxLen; omega, zAq.nil, .inl rfl⟩
theorem View.below {w wr : World} {v : Value} {l : List Int} (h : View w v l) (hb : Below w.heap.size w wr) : View wr v l := by
 obtain ⟨ao, cap, rfl, hc, hm, hy, hl⟩ := h
 refine ⟨ao, cap, rfl, hc, hm, hy, ?_⟩
 rcases hl with h | ⟨g, off, e, hl⟩
 · exact .inl h
 · exact .inr ⟨g, off, e, fun j x hj => cell_later hb (hl j x hj)⟩
theorem View.of_own {w : World} {B : Nat} {v : Value} {l : List Int} (h : w.ownsRow B 5 1 v l.length (zAh l)) (hb : zAq l) : View w v l := by
 rcases h.2 with ⟨rfl, h0⟩ | ⟨g, cap, cur, rfl, _, hg, h1, h2, h3, h4⟩
 · have : l = [] := List.length_eq_zero_iff.1 h0
   subst this
   exact ⟨none, 0, rfl, Nat.le_refl _, by unfold maxLen; omega, hb, .inl rfl⟩
 · refine ⟨some ⟨g, 0, none⟩, cap, rfl, h1, h2, hb, .inr ⟨g, 0, rfl, fun j x hj => ?_⟩⟩
   have hj' : (zAh l)[j]? = some (.int .u8 x) := by simp [zAh, hj]
   have := h.cells (g := g) rfl j _ hj'
   have e : (⟨g, 0, none⟩ : Addr).add j = ⟨g, 0 + j, none⟩ := by unfold Addr.add; split <;> simp_all
   rwa [e] at this
theorem zF7 {w : World} {g off : Nat} {l : List Int} (h : Lies w g off l) (j : Nat) (u : Value) (hj : (zAh l)[j]? = some u) : w.cell? ((⟨g, off, none⟩ : Addr).add j) = some u := by
 have e : (⟨g, off, none⟩ : Addr).add j = ⟨g, off + j, none⟩ := by unfold Addr.add; split <;> simp_all
 rw [e]
 simp only [zAh, List.getElem?_map, Option.map_eq_some_iff] at hj
 obtain ⟨x, hx, rfl⟩ := hj
 exact h j x hx
theorem zFy (l : List Int) : ∀ u ∈ zAh l, u.oneCell' = true := by
 intro u hu
 simp only [zAh, List.mem_map] at hu
 obtain ⟨x, _, rfl⟩ := hu
 rfl
theorem zE8 (w : World) (ty : TypeId) (B : Nat) (v vb : Value) (n : Nat) (xs : List Value) (lb : List Int) (hown : w.ownsRow B 5 1 v n xs) (hv : View w vb lb) (hlen : n + lb.length ≤ 140737488355328) (hB : B ≤ w.heap.size) :
 ∃ v' w', (Builtin.append_ #[35, 35] ty #[v, vb]).run Tryz.prog w = .ok v' w' ∧ w'.ownsRow B 5 1 v' (n + lb.length) (xs ++ zAh lb) ∧ Step v w v' w' := by
 obtain ⟨i0, hi, hz0, hz1, hz2⟩ := info_parts Tryz.info5
 obtain ⟨ao, cap, rfl, hc, hm, hy, hl⟩ := hv
 rcases hl with rfl | ⟨g, off, rfl, hl⟩
 · refine ⟨v, w, ?_, by simpa [zAh] using hown, Step.refl _ _⟩
   rcases hown.2 with ⟨rfl, rfl⟩ | ⟨g, cap, cur, rfl, hbg, hg, hnc, hcm, hcs, htake⟩
   · cases ao <;> simp [Builtin.append_, run_underlying Tryz.underlying35, sizeOf, typeInfo, hi, Builtin.lenOf, Builtin.firstCells, loadCells, loadCellsFrom]
   · cases ao <;> simp [Builtin.append_, run_underlying Tryz.underlying35, sizeOf, typeInfo, hi, Builtin.lenOf, Builtin.firstCells, loadCells, loadCellsFrom, hnc, storeCells]
 · obtain ⟨v', w', hr, ho, hg, _, hat⟩ := run_append_own_at (P := Tryz.prog) w B 35 ty 5 i0 (.int .u8 0) 1 1 Tryz.underlying35 hi hz0 hz1 hz2 rfl (by decide) v n xs hown ⟨g, off, none⟩ lb.length cap (zAh lb) (by simp [zAh]) (fun j u hj => zF7 hl j u hj) (zFy lb) (by unfold maxLen; omega) (by omega) hB
   exact ⟨v', w', hr, ho, Step.of_at hg hat⟩
theorem zEg {w : World} {ops : Array Oper} {rest : List Oper} {o : Oper} {a : Act} {Q : Exit → Act → World → Prop} (hgd : o.guard = none) (s x : Operand)
 (ho : o.op = .call { callee := .builtin .append, args := #[s, x], argTypes := #[35, 35] })
 (B : Nat) (v vb : Value) (n : Nat) (xs : List Value) (lb : List Int) (hs : a.eval s = v) (hown : w.ownsRow B 5 1 v n xs) (hx : a.eval x = vb) (hv : View w vb lb)
 (hlen : n + lb.length ≤ 140737488355328) (hB : B ≤ w.heap.size)
 (h : ∀ v' w', w'.ownsRow B 5 1 v' (n + lb.length) (xs ++ zAh lb) → Step v w v' w' → wpList Tryz.prog ops Q rest (a.put o.dst v') w') :
 wpList Tryz.prog ops Q (o :: rest) a w := by
 refine wpList_plain hgd fun K hK => ?_
 obtain ⟨v', w', hr, h2, h3⟩ := zE8 w o.type B v vb n xs lb hown hv hlen hB
 unfold Oper.wp execOp
 simp only [ho, resolve, invoke, builtin, Sem.run_bind, Sem.run_pure, Result.andThen_ok, List.map_toArray, List.map_cons, List.map_nil, hs, hx, hr]
 exact hK _ _ (h v' w' h2 h3)
/-! Instructions. -/
def irow (i : IN) : List Value := [.int .i64 i.pl, .int .i64 i.op, .int .i64 i.a, .int .i64 i.b]
def zD0 (l : List IN) : List Value := l.flatMap irow
theorem zH4 (a b : List IN) : zD0 (a ++ b) = zD0 a ++ zD0 b := by simp [zD0]
theorem zK6 (l : List IN) : (zD0 l).length = l.length * 4 := by
 induction l with
 | nil => rfl
 | cons x l ih => simp only [zD0, List.flatMap_cons, List.length_append, List.length_cons] at *; rw [ih]; simp [irow]; omega
theorem zPa (l : List IN) : ∀ u ∈ zD0 l, u.oneCell' = true := by
 intro u hu
 simp only [zD0, List.mem_flatMap] at hu
 obtain ⟨x, _, hx⟩ := hu
 simp [irow] at hx
 rcases hx with rfl | rfl | rfl | rfl <;> rfl
def IAt (w : World) (g o : Nat) (i : IN) : Prop :=
 w.cell? ⟨g, o, none⟩ = some (.int .i64 i.pl) ∧ w.cell? ⟨g, o + 1, none⟩ = some (.int .i64 i.op) ∧ w.cell? ⟨g, o + 2, none⟩ = some (.int .i64 i.a) ∧ w.cell? ⟨g, o + 3, none⟩ = some (.int .i64 i.b)
def zPz (w : World) (g off : Nat) (l : List IN) : Prop := ∀ j x, l[j]? = some x → IAt w g (off + j * 4) x
def zFh (w : World) (v : Value) (l : List IN) : Prop :=
 ∃ ao cap, v = .slice ao l.length cap ∧ l.length ≤ cap ∧ cap ≤ maxLen ∧ (l = [] ∨ ∃ g off, ao = some ⟨g, off, none⟩ ∧ zPz w g off l)
theorem IAt.below {w w' : World} {g o : Nat} {i : IN} (h : IAt w g o i) (hb : Below w.heap.size w w') : IAt w' g o i :=
 ⟨cell_later hb h.1, cell_later hb h.2.1, cell_later hb h.2.2.1, cell_later hb h.2.2.2⟩
theorem zFh.below {w wr : World} {v : Value} {l : List IN} (h : zFh w v l) (hb : Below w.heap.size w wr) : zFh wr v l := by
 obtain ⟨ao, cap, rfl, hc, hm, hl⟩ := h
 refine ⟨ao, cap, rfl, hc, hm, ?_⟩
 rcases hl with h | ⟨g, off, e, hl⟩
 · exact .inl h
 · exact .inr ⟨g, off, e, fun j x hj => (hl j x hj).below hb⟩
theorem zFh.empty (w : World) : zFh w (.slice none 0 0) [] := ⟨none, 0, rfl, Nat.le_refl _, by unfold maxLen; omega, .inl rfl⟩
theorem zKa (l : List IN) (j : Nat) (x : IN) (i : Nat) (h : l[j]? = some x) (hi : i < 4) : (zD0 l)[j * 4 + i]? = (irow x)[i]? := by
 induction l generalizing j with
 | nil => simp at h
 | cons y l ih =>
   unfold zD0
   rw [List.flatMap_cons]
   have hy : (irow y).length = 4 := rfl
   cases j with
   | zero =>
     simp at h; subst h
     rw [Nat.zero_mul, Nat.zero_add, List.getElem?_append_left (by omega)]
   | succ j =>
     simp at h
     rw [List.getElem?_append_right (by omega), hy, show (j + 1) * 4 + i - 4 = j * 4 + i by omega]
     exact ih j h
theorem zPz.cells {w : World} {g off : Nat} {l : List IN} (h : zPz w g off l) (j : Nat) (u : Value) (hj : (zD0 l)[j]? = some u) : w.cell? ((⟨g, off, none⟩ : Addr).add j) = some u := by
 have e : (⟨g, off, none⟩ : Addr).add j = ⟨g, off + j, none⟩ := by unfold Addr.add; split <;> simp_all
 rw [e]
 have hlt := (List.getElem?_eq_some_iff.1 hj).1
 rw [zK6] at hlt
 obtain ⟨x, hx⟩ : ∃ x, l[j / 4]? = some x := ⟨l[j / 4]'(by omega), List.getElem?_eq_getElem (by omega)⟩
 have h4 : j % 4 < 4 := Nat.mod_lt _ (by decide)
 have hg := zKa l (j / 4) x (j % 4) hx h4
 rw [show j / 4 * 4 + j % 4 = j by omega, hj] at hg
 obtain ⟨h0, h1, h2, h3⟩ := h (j / 4) x hx
 have ej : j = j / 4 * 4 + j % 4 := by omega
 generalize j % 4 = r at *
 match r, h4 with
 | 0, _ => simp [irow] at hg; subst hg; rw [ej]; exact h0
 | 1, _ => simp [irow] at hg; subst hg; rw [ej, ← Nat.add_assoc]; exact h1
 | 2, _ => simp [irow] at hg; subst hg; rw [ej, ← Nat.add_assoc]; exact h2
 | 3, _ => simp [irow] at hg; subst hg; rw [ej, ← Nat.add_assoc]; exact h3
theorem zPz.of_block {w : World} {g n : Nat} {cur : Array Value} {l : List IN} (hg : w.heap[g]? = some (.cells cur 179 (0, 0))) (hn : l.length = n) (ht : cur.toList.take (n * 4) = zD0 l) : zPz w g 0 l := by
 intro j x hj
 have hlt := (List.getElem?_eq_some_iff.1 hj).1
 have hc : ∀ i, i < 4 → cur[0 + j * 4 + i]? = (irow x)[i]? := by
  intro i hi
  rw [← zKa l j x i hj hi, ← ht, List.getElem?_take, if_pos (by omega), Nat.zero_add, Array.getElem?_toList]
 exact ⟨zA1 hg _ (hc 0 (by decide)), zA1 hg _ (hc 1 (by decide)), zA1 hg _ (hc 2 (by decide)), zA1 hg _ (hc 3 (by decide))⟩
theorem zFh.of_own {w : World} {B : Nat} {v : Value} {l : List IN} (h : w.ownsRow B 179 4 v l.length (zD0 l)) : zFh w v l := by
 rcases h.2 with ⟨rfl, h0⟩ | ⟨g, cap, cur, rfl, _, hg, h1, h2, h3, h4⟩
 · have : l = [] := List.length_eq_zero_iff.1 h0
   subst this
   exact zFh.empty w
 · exact ⟨some ⟨g, 0, none⟩, cap, rfl, h1, h2, .inr ⟨g, 0, rfl, zPz.of_block hg rfl h4⟩⟩
theorem zFh.row {w : World} {ao : Option Addr} {n cap : Nat} {l : List IN} (h : zFh w (.slice ao n cap) l) {j : Nat} {x : IN} (hj : l[j]? = some x) : ∃ g off, ao = some ⟨g, off, none⟩ ∧ IAt w g (off + j * 4) x := by
 obtain ⟨ao', cap', e, hc, hm, hl⟩ := h
 cases e
 rcases hl with rfl | ⟨g, off, rfl, hl⟩
 · simp at hj
 · exact ⟨g, off, rfl, hl j x hj⟩
theorem zLr (w : World) (i : IN) : IAt (w.alloc (.cells #[.int .i64 i.pl, .int .i64 i.op, .int .i64 i.a, .int .i64 i.b] 179)) w.heap.size 0 i := by
 have h := heap_alloc_new w (.cells #[.int .i64 i.pl, .int .i64 i.op, .int .i64 i.a, .int .i64 i.b] 179)
 exact ⟨zA1 h 0 rfl, zA1 h 1 rfl, zA1 h 2 rfl, zA1 h 3 rfl⟩
theorem zNd (w : World) (ty : TypeId) (B : Nat) (v vb : Value) (n : Nat) (xs : List Value) (lb : List IN) (hown : w.ownsRow B 179 4 v n xs) (hv : zFh w vb lb) (hlen : (n + lb.length) * 32 ≤ 140737488355328) (hB : B ≤ w.heap.size) :
 ∃ v' w', (Builtin.append_ #[171, 171] ty #[v, vb]).run Tryz.prog w = .ok v' w' ∧ w'.ownsRow B 179 4 v' (n + lb.length) (xs ++ zD0 lb) ∧ Step v w v' w' := by
 obtain ⟨i0, hi, hz0, hz1, hz2⟩ := info_parts Tryz.info179
 obtain ⟨ao, cap, rfl, hc, hm, hl⟩ := hv
 rcases hl with rfl | ⟨g, off, rfl, hl⟩
 · refine ⟨v, w, ?_, by simpa [zD0] using hown, Step.refl _ _⟩
   rcases hown.2 with ⟨rfl, rfl⟩ | ⟨g, cap, cur, rfl, hbg, hg, hnc, hcm, hcs, htake⟩
   · cases ao <;> simp [Builtin.append_, run_underlying Tryz.underlying171, sizeOf, typeInfo, hi, Builtin.lenOf, Builtin.firstCells, loadCells, loadCellsFrom]
   · cases ao <;> simp [Builtin.append_, run_underlying Tryz.underlying171, sizeOf, typeInfo, hi, Builtin.lenOf, Builtin.firstCells, loadCells, loadCellsFrom, hnc, storeCells]
 · obtain ⟨v', w', hr, ho, hg, _, hat⟩ := run_append_own_at (P := Tryz.prog) w B 171 ty 179 i0 zeroI 4 32 Tryz.underlying171 hi hz0 hz1 hz2 rfl (by decide) v n xs hown ⟨g, off, none⟩ lb.length cap (zD0 lb) (zK6 lb) hl.cells (zPa lb) (by unfold maxLen; omega) (by omega) hB
   exact ⟨v', w', hr, ho, Step.of_at hg hat⟩
theorem zG8 {w : World} {ops : Array Oper} {rest : List Oper} {o : Oper} {a : Act} {Q : Exit → Act → World → Prop} (hgd : o.guard = none) (s x : Operand)
 (ho : o.op = .call { callee := .builtin .append, args := #[s, x], argTypes := #[171, 171] })
 (B : Nat) (v vb : Value) (n : Nat) (xs : List Value) (lb : List IN) (hs : a.eval s = v) (hown : w.ownsRow B 179 4 v n xs) (hx : a.eval x = vb) (hv : zFh w vb lb)
 (hlen : (n + lb.length) * 32 ≤ 140737488355328) (hB : B ≤ w.heap.size)
 (h : ∀ v' w', w'.ownsRow B 179 4 v' (n + lb.length) (xs ++ zD0 lb) → Step v w v' w' → wpList Tryz.prog ops Q rest (a.put o.dst v') w') :
 wpList Tryz.prog ops Q (o :: rest) a w := by
 refine wpList_plain hgd fun K hK => ?_
 obtain ⟨v', w', hr, h2, h3⟩ := zNd w o.type B v vb n xs lb hown hv hlen hB
 unfold Oper.wp execOp
 simp only [ho, resolve, invoke, builtin, Sem.run_bind, Sem.run_pure, Result.andThen_ok, List.map_toArray, List.map_cons, List.map_nil, hs, hx, hr]
 exact hK _ _ (h v' w' h2 h3)
def zCz : List (Int × ByteArray) := [(0, ⟨#[110, 111, 112]⟩), (1, ⟨#[110, 117, 108, 108]⟩), (2, ⟨#[99, 111, 110, 115, 116, 109, 49]⟩), (3, ⟨#[99, 111, 110, 115, 116, 48]⟩), (4, ⟨#[99, 111, 110, 115, 116, 49]⟩), (5, ⟨#[99, 111, 110, 115, 116, 50]⟩), (6, ⟨#[99, 111, 110, 115, 116, 51]⟩), (7, ⟨#[99, 111, 110, 115, 116, 52]⟩), (8, ⟨#[99, 111, 110, 115, 116, 53]⟩), (16, ⟨#[112, 117, 115, 104, 49]⟩), (17, ⟨#[112, 117, 115, 104, 50]⟩), (18, ⟨#[108, 100, 99]⟩), (21, ⟨#[105, 108, 111, 97, 100]⟩), (25, ⟨#[97, 108, 111, 97, 100]⟩), (46, ⟨#[105, 97, 108, 111, 97, 100]⟩), (50, ⟨#[97, 97, 108, 111, 97, 100]⟩), (54, ⟨#[105, 115, 116, 111, 114, 101]⟩), (58, ⟨#[97, 115, 116, 111, 114, 101]⟩), (79, ⟨#[105, 97, 115, 116, 111, 114, 101]⟩), (83, ⟨#[97, 97, 115, 116, 111, 114, 101]⟩), (87, ⟨#[112, 111, 112]⟩), (89, ⟨#[100, 117, 112]⟩), (95, ⟨#[115, 119, 97, 112]⟩), (96, ⟨#[97, 100, 100]⟩), (100, ⟨#[115, 117, 98]⟩), (104, ⟨#[109, 117, 108]⟩), (108, ⟨#[100, 105, 118]⟩), (112, ⟨#[114, 101, 109]⟩), (116, ⟨#[110, 101, 103]⟩), (120, ⟨#[115, 104, 108]⟩), (122, ⟨#[115, 104, 114]⟩), (124, ⟨#[117, 115, 104, 114]⟩), (126, ⟨#[97, 110, 100]⟩), (128, ⟨#[111, 114]⟩), (130, ⟨#[120, 111, 114]⟩), (132, ⟨#[105, 110, 99]⟩), (153, ⟨#[105, 102, 101, 113]⟩), (154, ⟨#[105, 102, 110, 101]⟩), (155, ⟨#[105, 102, 108, 116]⟩), (156, ⟨#[105, 102, 103, 101]⟩), (157, ⟨#[105, 102, 103, 116]⟩), (158, ⟨#[105, 102, 108, 101]⟩), (159, ⟨#[99, 109, 112, 101, 113]⟩), (160, ⟨#[99, 109, 112, 110, 101]⟩), (161, ⟨#[99, 109, 112, 108, 116]⟩), (162, ⟨#[99, 109, 112, 103, 101]⟩), (163, ⟨#[99, 109, 112, 103, 116]⟩), (164, ⟨#[99, 109, 112, 108, 101]⟩), (165, ⟨#[114, 101, 102, 101, 113]⟩), (166, ⟨#[114, 101, 102, 110, 101]⟩), (167, ⟨#[103, 111, 116, 111]⟩), (172, ⟨#[105, 114, 101, 116, 117, 114, 110]⟩), (176, ⟨#[97, 114, 101, 116, 117, 114, 110]⟩), (177, ⟨#[114, 101, 116, 117, 114, 110]⟩), (178, ⟨#[103, 101, 116, 115, 116, 97, 116, 105, 99]⟩), (179, ⟨#[112, 117, 116, 115, 116, 97, 116, 105, 99]⟩), (180, ⟨#[103, 101, 116, 102, 105, 101, 108, 100]⟩), (181, ⟨#[112, 117, 116, 102, 105, 101, 108, 100]⟩), (182, ⟨#[118, 105, 114, 116, 117, 97, 108]⟩), (184, ⟨#[115, 116, 97, 116, 105, 99]⟩), (187, ⟨#[110, 101, 119]⟩), (188, ⟨#[110, 101, 119, 105, 110, 116, 115]⟩), (189, ⟨#[110, 101, 119, 114, 101, 102, 115]⟩), (190, ⟨#[108, 101, 110, 103, 116, 104]⟩), (191, ⟨#[116, 104, 114, 111, 119]⟩), (192, ⟨#[99, 97, 115, 116]⟩), (193, ⟨#[105, 115, 97]⟩), (194, ⟨#[101, 110, 116, 101, 114]⟩), (195, ⟨#[101, 120, 105, 116]⟩), (198, ⟨#[105, 102, 110, 117, 108, 108]⟩), (199, ⟨#[105, 102, 115, 111, 109, 101]⟩)]
def zHe (op : Int) : ByteArray := match zCz.find? (fun p => p.1 == op) with | some p => p.2 | none => ⟨#[]⟩
theorem zQl {op : Int} (hn : ∀ q ∈ zCz, q.1 ≠ op) : zHe op = ⟨#[]⟩ := by
 unfold zHe
 rw [List.find?_eq_none.2 (fun q hq => by simpa using hn q hq)]
theorem zE4 {W : World} {b o : Nat} {u : Value} (h : W.cell? ⟨b, o, none⟩ = some u) : b < W.heap.size := by
 apply Nat.lt_of_not_le
 intro hle
 have hn : W.heap[b]? = none := Array.getElem?_eq_none (by omega)
 simp [World.cell?, hn] at h
theorem zTf (op : Int) : kd op = 3 ↔ op = 16 := by
 unfold kd
 constructor
 · intro h
   repeat' split at h
   all_goals first | assumption | omega
 · rintro rfl; decide
theorem zVv (op : Int) : kd op = 5 ↔ op = 17 := by
 unfold kd
 constructor
 · intro h
   repeat' split at h
   all_goals first | assumption | omega
 · rintro rfl; decide
theorem zFl (op : Int) (w : World) : Calls Tryz.prog 166 #[.int .i64 op] w fun e w' => e = .returned (.bool (decide (kd op = 6))) ∧ w' = w := by
 have hk := zMj op
 by_cases h1 : 153 ≤ op
 · by_cases h2 : op ≤ 167
   · rw [decide_eq_true (hk.2 (by omega))]
     clear hk
     go_enter Tryz.func166, Tryz.ntmps166
     go_wp2
     go_ret
     exact ⟨rfl, rfl⟩
   · by_cases h3 : op = 198
     · subst h3
       rw [decide_eq_true (hk.2 (by omega))]
       clear hk
       go_enter Tryz.func166, Tryz.ntmps166
       go_wp2
       go_ret
       exact ⟨rfl, rfl⟩
     · by_cases h4 : op = 199
       · subst h4
         rw [decide_eq_true (hk.2 (by omega))]
         clear hk
         go_enter Tryz.func166, Tryz.ntmps166
         go_wp2
         go_ret
         exact ⟨rfl, rfl⟩
       · rw [decide_eq_false (fun h => by have := hk.1 h; omega)]
         clear hk
         have h3' : (op == 198) = false := by simpa using h3
         have h4' : (op == 199) = false := by simpa using h4
         go_enter Tryz.func166, Tryz.ntmps166
         go_wp2
         go_ret
         exact ⟨rfl, rfl⟩
 · rw [decide_eq_false (fun h => by have := hk.1 h; omega)]
   clear hk
   have h3' : (op == 198) = false := by simp; omega
   have h4' : (op == 199) = false := by simp; omega
   go_enter Tryz.func166, Tryz.ntmps166
   go_wp2
   go_ret
   exact ⟨rfl, rfl⟩
theorem zBx (w : World) (o : Obj) : Below w.heap.size w (w.alloc o) := (Below.refl _ _).alloc (Nat.le_refl _) o
theorem zUq {α : Type} (row : α → List Value) (k : Nat) (hk : ∀ x, (row x).length = k) : ∀ (l : List α) (j : Nat) (x : α) (i : Nat), l[j]? = some x → i < k → (l.flatMap row)[j * k + i]? = (row x)[i]? := by
 intro l
 induction l with
 | nil => intro j x i h; simp at h
 | cons y l ih =>
   intro j x i h hi
   rw [List.flatMap_cons]
   cases j with
   | zero =>
     simp at h; subst h
     rw [Nat.zero_mul, Nat.zero_add, List.getElem?_append_left (by rw [hk]; exact hi)]
   | succ j =>
     simp at h
     rw [List.getElem?_append_right (by rw [hk, Nat.succ_mul]; omega), hk, show (j + 1) * k + i - k = j * k + i by rw [Nat.succ_mul]; omega]
     exact ih j x i h hi
theorem zAl {w : World} {b : Nat} {cs : Array Value} {T : TypeId} (h : w.heap[b]? = some (.cells cs T (0, 0))) (j : Nat) {v : Value} (hv : cs[j]? = some v) : w.cell? ⟨b, j, none⟩ = some v := by
 rw [cell_of_row w b j _ T (0, 0) h]; exact hv
def in5 (n lo hi : Int) : Bool := decide (lo ≤ n) && decide (n ≤ hi)
theorem rin (n lo hi : Int) (w : World) : Calls Tryz.prog 197 #[.int .i64 n, .int .i64 lo, .int .i64 hi] w fun e w' => e = .returned (.bool (in5 n lo hi)) ∧ w' = w := by
 unfold in5
 by_cases h1 : lo ≤ n
 · by_cases h2 : n ≤ hi <;>
   · go_enter Tryz.func197, Tryz.ntmps197
     go_wp2
     go_ret
     exact ⟨by simp [h1, h2], rfl⟩
 · go_enter Tryz.func197, Tryz.ntmps197
   go_wp2
   go_ret
   exact ⟨by rw [decide_eq_false (show ¬ lo ≤ n by omega)]; rfl, rfl⟩
def sg5 (op : Int) : Bool := decide (kd op = 3) || (decide (kd op = 5) || decide (kd op = 6))
theorem zJd (op : Int) (w : World) : Calls Tryz.prog 198 #[.int .i64 op] w fun e w' => e = .returned (.bool (sg5 op)) ∧ w' = w := by
 have gB := zA0 (zFl op w)
 have h3 := zTf op
 have h5 := zVv op
 unfold sg5
 by_cases e1 : op = 16
 · rw [decide_eq_true (h3.2 e1)]
   subst e1
   clear gB h3 h5
   go_enter Tryz.func198, Tryz.ntmps198
   go_wp2
   go_ret
   exact ⟨rfl, rfl⟩
 · rw [decide_eq_false (fun h => e1 (h3.1 h))]
   have e1' : (op == 16) = false := by simpa using e1
   by_cases e2 : op = 17
   · rw [decide_eq_true (h5.2 e2)]
     subst e2
     clear gB h3 h5
     go_enter Tryz.func198, Tryz.ntmps198
     go_wp2
     go_ret
     exact ⟨rfl, rfl⟩
   · rw [decide_eq_false (fun h => e2 (h5.1 h))]
     have e2' : (op == 17) = false := by simpa using e2
     clear h3 h5
     generalize decide (kd op = 6) = q at *
     go_enter Tryz.func198, Tryz.ntmps198
     go_wp2_with fail
     refine gB.out.mono ?_
     rintro e w' ⟨rfl, hww⟩; cases hww
     go_wp2
     go_ret
     exact ⟨by cases q <;> rfl, rfl⟩
def nrow (p : Int × ByteArray) : List Value := [.int .i64 p.1, .string p.2]
theorem zP4 (p : Int × ByteArray) : (nrow p).length = 2 := rfl
theorem zRa : zCz.length = 71 := by rfl
theorem zHq {op : Int} {j : Nat} {p : Int × ByteArray} (hp : zCz[j]? = some p) (h : p.1 = op) (hn : ∀ q ∈ zCz.take j, q.1 ≠ op) : zHe op = p.2 := by
 unfold zHe
 have e : zCz.find? (fun p => p.1 == op) = some p := by
  rw [← List.take_append_drop j zCz, List.find?_append]
  have h1 : (zCz.take j).find? (fun p => p.1 == op) = none := List.find?_eq_none.2 (fun q hq => by simpa using hn q hq)
  obtain ⟨hj, rfl⟩ := List.getElem?_eq_some_iff.1 hp
  rw [h1, List.drop_eq_getElem_cons hj, List.find?_cons_of_pos (by simpa using h)]
  rfl
 rw [e]
def tab5 : Obj := .cells (zCz.flatMap nrow).toArray 219
theorem zT2 {w : World} {g : Nat} (hg : w.heap[g]? = some tab5) {j : Nat} {p : Int × ByteArray} (hp : zCz[j]? = some p) : w.cell? ⟨g, j * 2, none⟩ = some (.int .i64 p.1) ∧ w.cell? ⟨g, j * 2 + 1, none⟩ = some (.string p.2) := by
 have h0 := zUq nrow 2 zP4 zCz j p 0 hp (by decide)
 have h1 := zUq nrow 2 zP4 zCz j p 1 hp (by decide)
 unfold tab5 at hg
 exact ⟨zAl hg (j * 2 + 0) (by simpa [nrow] using h0), zAl hg (j * 2 + 1) (by simpa [nrow] using h1)⟩
def zOm : Array (Nat × Value) := #[(0, .agg #[.int .i64 0, .string ⟨#[110, 111, 112]⟩]), (1, .agg #[.int .i64 1, .string ⟨#[110, 117, 108, 108]⟩]), (2, .agg #[.int .i64 2, .string ⟨#[99, 111, 110, 115, 116, 109, 49]⟩]), (3, .agg #[.int .i64 3, .string ⟨#[99, 111, 110, 115, 116, 48]⟩]), (4, .agg #[.int .i64 4, .string ⟨#[99, 111, 110, 115, 116, 49]⟩]), (5, .agg #[.int .i64 5, .string ⟨#[99, 111, 110, 115, 116, 50]⟩]), (6, .agg #[.int .i64 6, .string ⟨#[99, 111, 110, 115, 116, 51]⟩]), (7, .agg #[.int .i64 7, .string ⟨#[99, 111, 110, 115, 116, 52]⟩]), (8, .agg #[.int .i64 8, .string ⟨#[99, 111, 110, 115, 116, 53]⟩]), (9, .agg #[.int .i64 16, .string ⟨#[112, 117, 115, 104, 49]⟩]), (10, .agg #[.int .i64 17, .string ⟨#[112, 117, 115, 104, 50]⟩]), (11, .agg #[.int .i64 18, .string ⟨#[108, 100, 99]⟩]), (12, .agg #[.int .i64 21, .string ⟨#[105, 108, 111, 97, 100]⟩]), (13, .agg #[.int .i64 25, .string ⟨#[97, 108, 111, 97, 100]⟩]), (14, .agg #[.int .i64 46, .string ⟨#[105, 97, 108, 111, 97, 100]⟩]), (15, .agg #[.int .i64 50, .string ⟨#[97, 97, 108, 111, 97, 100]⟩]), (16, .agg #[.int .i64 54, .string ⟨#[105, 115, 116, 111, 114, 101]⟩]), (17, .agg #[.int .i64 58, .string ⟨#[97, 115, 116, 111, 114, 101]⟩]), (18, .agg #[.int .i64 79, .string ⟨#[105, 97, 115, 116, 111, 114, 101]⟩]), (19, .agg #[.int .i64 83, .string ⟨#[97, 97, 115, 116, 111, 114, 101]⟩]), (20, .agg #[.int .i64 87, .string ⟨#[112, 111, 112]⟩]), (21, .agg #[.int .i64 89, .string ⟨#[100, 117, 112]⟩]), (22, .agg #[.int .i64 95, .string ⟨#[115, 119, 97, 112]⟩]), (23, .agg #[.int .i64 96, .string ⟨#[97, 100, 100]⟩]), (24, .agg #[.int .i64 100, .string ⟨#[115, 117, 98]⟩]), (25, .agg #[.int .i64 104, .string ⟨#[109, 117, 108]⟩]), (26, .agg #[.int .i64 108, .string ⟨#[100, 105, 118]⟩]), (27, .agg #[.int .i64 112, .string ⟨#[114, 101, 109]⟩]), (28, .agg #[.int .i64 116, .string ⟨#[110, 101, 103]⟩]), (29, .agg #[.int .i64 120, .string ⟨#[115, 104, 108]⟩]), (30, .agg #[.int .i64 122, .string ⟨#[115, 104, 114]⟩]), (31, .agg #[.int .i64 124, .string ⟨#[117, 115, 104, 114]⟩]), (32, .agg #[.int .i64 126, .string ⟨#[97, 110, 100]⟩]), (33, .agg #[.int .i64 128, .string ⟨#[111, 114]⟩]), (34, .agg #[.int .i64 130, .string ⟨#[120, 111, 114]⟩]), (35, .agg #[.int .i64 132, .string ⟨#[105, 110, 99]⟩]), (36, .agg #[.int .i64 153, .string ⟨#[105, 102, 101, 113]⟩]), (37, .agg #[.int .i64 154, .string ⟨#[105, 102, 110, 101]⟩]), (38, .agg #[.int .i64 155, .string ⟨#[105, 102, 108, 116]⟩]), (39, .agg #[.int .i64 156, .string ⟨#[105, 102, 103, 101]⟩]), (40, .agg #[.int .i64 157, .string ⟨#[105, 102, 103, 116]⟩]), (41, .agg #[.int .i64 158, .string ⟨#[105, 102, 108, 101]⟩]), (42, .agg #[.int .i64 159, .string ⟨#[99, 109, 112, 101, 113]⟩]), (43, .agg #[.int .i64 160, .string ⟨#[99, 109, 112, 110, 101]⟩]), (44, .agg #[.int .i64 161, .string ⟨#[99, 109, 112, 108, 116]⟩]), (45, .agg #[.int .i64 162, .string ⟨#[99, 109, 112, 103, 101]⟩]), (46, .agg #[.int .i64 163, .string ⟨#[99, 109, 112, 103, 116]⟩]), (47, .agg #[.int .i64 164, .string ⟨#[99, 109, 112, 108, 101]⟩]), (48, .agg #[.int .i64 165, .string ⟨#[114, 101, 102, 101, 113]⟩]), (49, .agg #[.int .i64 166, .string ⟨#[114, 101, 102, 110, 101]⟩]), (50, .agg #[.int .i64 167, .string ⟨#[103, 111, 116, 111]⟩]), (51, .agg #[.int .i64 172, .string ⟨#[105, 114, 101, 116, 117, 114, 110]⟩]), (52, .agg #[.int .i64 176, .string ⟨#[97, 114, 101, 116, 117, 114, 110]⟩]), (53, .agg #[.int .i64 177, .string ⟨#[114, 101, 116, 117, 114, 110]⟩]), (54, .agg #[.int .i64 178, .string ⟨#[103, 101, 116, 115, 116, 97, 116, 105, 99]⟩]), (55, .agg #[.int .i64 179, .string ⟨#[112, 117, 116, 115, 116, 97, 116, 105, 99]⟩]), (56, .agg #[.int .i64 180, .string ⟨#[103, 101, 116, 102, 105, 101, 108, 100]⟩]), (57, .agg #[.int .i64 181, .string ⟨#[112, 117, 116, 102, 105, 101, 108, 100]⟩]), (58, .agg #[.int .i64 182, .string ⟨#[118, 105, 114, 116, 117, 97, 108]⟩]), (59, .agg #[.int .i64 184, .string ⟨#[115, 116, 97, 116, 105, 99]⟩]), (60, .agg #[.int .i64 187, .string ⟨#[110, 101, 119]⟩]), (61, .agg #[.int .i64 188, .string ⟨#[110, 101, 119, 105, 110, 116, 115]⟩]), (62, .agg #[.int .i64 189, .string ⟨#[110, 101, 119, 114, 101, 102, 115]⟩]), (63, .agg #[.int .i64 190, .string ⟨#[108, 101, 110, 103, 116, 104]⟩]), (64, .agg #[.int .i64 191, .string ⟨#[116, 104, 114, 111, 119]⟩]), (65, .agg #[.int .i64 192, .string ⟨#[99, 97, 115, 116]⟩]), (66, .agg #[.int .i64 193, .string ⟨#[105, 115, 97]⟩]), (67, .agg #[.int .i64 194, .string ⟨#[101, 110, 116, 101, 114]⟩]), (68, .agg #[.int .i64 195, .string ⟨#[101, 120, 105, 116]⟩]), (69, .agg #[.int .i64 198, .string ⟨#[105, 102, 110, 117, 108, 108]⟩]), (70, .agg #[.int .i64 199, .string ⟨#[105, 102, 115, 111, 109, 101]⟩])]
theorem zTm (w : World) : (Instr.buildSlice 220 71 zOm).run Tryz.prog w = .ok (.slice (some ⟨w.heap.size, 0, none⟩) 71 71) (w.alloc tab5) := by
 have hu : Tryz.prog.underlying 220 = some (.slice 219) := by kernel_rfl
 obtain ⟨i0, hi, hz0, hz1, hz2⟩ := info_parts (P := Tryz.prog) (e := 219) (z := .agg #[.int .i64 0, .string ⟨#[]⟩]) (size := 2) (bytes := 24) (by kernel_rfl)
 have hf : Instr.fill (fun i => some (i * 2, 2)) (Array.map (fun x => ([Value.int .i64 0, .string ⟨#[]⟩] : List Value)[x % 2]?.getD default) (Array.range 142)) zOm.toList = some (zCz.flatMap nrow).toArray := by kernel_rfl
 generalize zOm = ps at *
 unfold tab5
 generalize (zCz.flatMap nrow).toArray = res at *
 simp [Instr.buildSlice, run_underlying hu, sizeOf, typeInfo, zeroValue, hi, hz0, hz1, Value.cells]
 rw [hf]
 simp [newRow]
end Go.Proofs.YtpehimfnkmepnaaGreat
