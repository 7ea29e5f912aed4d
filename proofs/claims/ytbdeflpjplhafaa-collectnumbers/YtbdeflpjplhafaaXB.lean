/- A pairing of package collect in memory: push, pop, put. -/
import Derived.Test.YtbdeflpjplhafaaXA
import Derived.Deep.RegionHeld3
import Derived.Laws.Rows
namespace Go.Proofs.Ytbdeflpjplhafaa.J
open Go.RowKit Go.MapKept Go.ChangeMaps
set_option linter.unusedVariables false

theorem Try.infoPr : (Try.prog.info? 82).map (fun i => (i.zero, i.size, i.bytes)) = some (some (.agg #[.int .i64 0, .int .i64 0]), 2, 16) := by kernel_rfl
def pC (l : List (Int × Int)) : List Value := l.flatMap fun p => [.int .i64 p.1, .int .i64 p.2]
theorem pC_app (a b : List (Int × Int)) : pC (a ++ b) = pC a ++ pC b := by simp [pC]
theorem pC_len (l : List (Int × Int)) : (pC l).length = l.length * 2 := by
  induction l with
  | nil => rfl
  | cons p l ih => simp [pC] at ih ⊢; omega
/-- append(own row of structs, one literal struct). -/
theorem wpList_sapp {k sb T ST : Nat} {z : Value} (hI : (Try.prog.info? T).map (fun i => (i.zero, i.size, i.bytes)) = some (some z, k, sb)) (hzc : z.cells.size = k) (hk0 : 0 < k) (hsb : sb ≤ 1000) (hU : Try.prog.underlying ST = some (.slice T))
    {w : World} {ops : Array Oper} {rest : List Oper} {o : Oper} {a : Act} {Q : Exit → Act → World → Prop} (hgd : o.guard = none) (s x : Operand)
    (ho : o.op = .call { callee := .builtin .append, args := #[s, x], argTypes := #[ST, ST] })
    (row : List Value) (hrl : row.length = k) (h1 : ∀ u ∈ row, u.oneCell' = true)
    (B : Nat) (v : Value) (n : Nat) (xs : List Value) (hown : w.ownsRow B T k v n xs) (hs : a.eval s = v) {bb : Nat} (hx : a.eval x = .slice (some ⟨bb, 0, none⟩) 1 1) (hbb : bb = w.heap.size)
    (hlen : n ≤ 1000000) (hB : B ≤ w.heap.size)
    (h : ∀ ao' cap' w', w'.ownsRow B T k (.slice ao' (n + 1) cap') (n + 1) (xs ++ row) → Step v (w.alloc (.cells row.toArray T)) (.slice ao' (n + 1) cap') w' → wpList Try.prog ops Q rest (a.put o.dst (.slice ao' (n + 1) cap')) w') :
    wpList Try.prog ops Q (o :: rest) a (w.alloc (.cells row.toArray T)) := by
  subst hbb
  obtain ⟨i0, hi, hz0, hz1, hz2⟩ := info_parts hI
  refine wpList_plain hgd fun K hK => ?_
  have hown' : (w.alloc (.cells row.toArray T)).ownsRow B T k v n xs := own_below hown (balloc w _)
  have hmul : (n + 1) * sb ≤ 1000001 * 1000 := Nat.mul_le_mul (by omega) hsb
  obtain ⟨v', w', hr, h2, h3, _, h4⟩ := run_append_own_at (P := Try.prog) (w.alloc (.cells row.toArray T)) B ST o.type T i0 z k sb hU hi hz0 hz1 hz2 hzc hk0 v n xs hown' ⟨w.heap.size, 0, none⟩ 1 1 row (by omega)
    (fun j u hj => by
      have e : (⟨w.heap.size, 0, none⟩ : Addr).add j = ⟨w.heap.size, j, none⟩ := by unfold Addr.add; split <;> simp_all
      rw [e]
      have := (Blk.new w row.toArray T).cell j
      rw [this]
      simpa using hj) h1 (by unfold maxLen; omega) (by omega) (by simp; omega)
  unfold Oper.wp execOp
  simp only [ho, resolve, invoke, builtin, Sem.run_bind, Sem.run_pure, Result.andThen_ok, List.map_toArray, List.map_cons, List.map_nil, hs, hx, hr]
  obtain ⟨ao', cap', rfl⟩ := own_slice h2
  exact hK _ _ (h ao' cap' w' h2 ⟨h3, h4.imp id fun e => ⟨_, e, Nat.le_refl _⟩⟩)

theorem own_cellK {w : World} {B e s n : Nat} {ao : Option Addr} {cap : Nat} {xs : List Value} (h : w.ownsRow B e s (.slice ao n cap) n xs) {j : Nat} {x : Value} (hx : xs[j]? = some x) : ∃ g, ao = some ⟨g, 0, none⟩ ∧ B ≤ g ∧ g < w.heap.size ∧ w.cell? ⟨g, j, none⟩ = some x ∧ w.frozen? ⟨g, j, none⟩ = false := by
  have hj : j < xs.length := (List.getElem?_eq_some_iff.1 hx).1
  rcases h.2 with ⟨_, h0⟩ | ⟨g, cap', cur, e1, hB, hg, h1, h2, h3, h4⟩
  · rw [h.1, h0] at hj; simp at hj
  · cases e1
    refine ⟨g, rfl, hB, (Array.getElem?_eq_some_iff.1 hg).1, ?_, by simp [World.frozen?, hg]⟩
    rw [cell_of_row w g j _ e (0, 0) hg]
    rw [← h4, List.getElem?_take, Array.getElem?_toList] at hx
    split at hx
    · exact hx
    · cases hx
theorem own_trimK {w : World} {B e s n k cap : Nat} {ao : Option Addr} {xs : List Value} (h : w.ownsRow B e s (.slice ao n cap) n xs) (hk : k ≤ n) : w.ownsRow B e s (.slice ao k cap) k (xs.take (k * s)) := by
  have hx := h.1
  have hm : k * s ≤ n * s := Nat.mul_le_mul_right s hk
  refine ⟨by rw [List.length_take]; omega, ?_⟩
  rcases h.2 with ⟨h1, h0⟩ | ⟨g, cap', cur, e1, hB, hg, h1, h2, h3, h4⟩
  · cases h1
    have : k = 0 := by omega
    subst this
    exact .inl ⟨rfl, rfl⟩
  · cases e1
    refine .inr ⟨g, _, cur, rfl, hB, hg, by omega, h2, h3, ?_⟩
    rw [← h4, List.take_take, Nat.min_eq_left hm]
/-- A map of numbers whose entries bear their own stamps. -/
def IMapS (w : World) (b : Nat) (l : List (Int × Int)) : Prop :=
  ∃ es clock, w.heap[b]? = some (.map es clock) ∧ es.toList.map (fun e => (e.key, e.val)) = l.map (fun p => (Value.int .i64 p.1, Value.int .i64 p.2)) ∧ ∀ e ∈ es.toList, e.born < clock
theorem IMapS.map {w : World} {b : Nat} {l : List (Int × Int)} (h : IMapS w b l) : IMap w b l := by
  obtain ⟨es, clock, h1, h2, _⟩ := h
  exact ⟨es, clock, h1, h2⟩
theorem IMapS.lt {w : World} {b : Nat} {l : List (Int × Int)} (h : IMapS w b l) : b < w.heap.size := h.map.lt
theorem IMapS.kept {w w' : World} {b : Nat} {l : List (Int × Int)} (h : IMapS w b l) (hb : w'.heap[b]? = w.heap[b]?) : IMapS w' b l := by
  obtain ⟨es, clock, h1, h2, h3⟩ := h
  exact ⟨es, clock, hb.trans h1, h2, h3⟩
theorem setBlock_at {w : World} {b : Nat} {o o' : Obj} (h : w.heap[b]? = some o) : (setBlock w b o').heap[b]? = some o' := by
  have := (Array.getElem?_eq_some_iff.1 h).1
  simp [setBlock, this]
theorem findIdx_last {α : Type} (p : α → Bool) (l : List α) (x : α) (h : ∀ y ∈ l, p y = false) (hx : p x = true) : (l ++ [x]).findIdx? p = some l.length := by
  induction l with
  | nil => simp [List.findIdx?_cons, hx]
  | cons y l ih => simp [List.findIdx?_cons, h y List.mem_cons_self, ih fun z hz => h z (List.mem_cons_of_mem _ hz)]
theorem IMapS.entry {P : Program} {w : World} {b : Nat} {l : List (Int × Int)} {t k e : TypeId} (h : IMapS w b l) (ht : P.underlying t = some (.map k e)) (hk : P.underlying k = some (.int .i64))
    (hz : ∀ w, (zeroValue e).run P w = .ok (.int .i64 0) w) (s v : Int) (hs : ilook l s = none) : ∃ (es1 es2 : Array MapEntry) (clk : Nat) (st : Int), (Instr.mapEntry t (.map (some b)) (.int .i64 s)).run P w = .ok (.tuple #[.int .i64 0, .int .i64 st]) (setBlock w b (.map es1 clk)) ∧
      (∀ w2, w2.heap[b]? = some (.map es1 clk) → (Instr.entryStore t (.map (some b)) (.int .i64 st) (.int .i64 v)).run P w2 = .ok () (setBlock w2 b (.map es2 clk)) ∧ IMapS (setBlock w2 b (.map es2 clk)) b (l ++ [(s, v)])) := by
  obtain ⟨es, clock, hb, he, hst⟩ := h
  obtain ⟨f1, f2⟩ := findNow_int s es.toList l 0 he
  refine ⟨es.push ⟨.int .i64 s, .int .i64 0, clock⟩, es.push ⟨.int .i64 s, .int .i64 v, clock⟩, clock + 1, (clock : Int), ?_, fun w2 hw2 => ⟨?_, ?_⟩⟩
  · simp [Instr.mapEntry, run_underlying ht, MapKept.run_getObj_map hb, check_int hk _ 9999, run_underlying hk, Instr.findKey, f1 hs, MapKept.run_setObj_map _ hb, Result.andThen, setBlock, hz, goInt]
  · have hf : (es.push ⟨.int .i64 s, .int .i64 0, clock⟩).findIdx? (fun e => (e.born : Int) == (clock : Int)) = some es.size := by
      have : ∀ (a : Array MapEntry) (q : MapEntry → Bool), a.findIdx? q = a.toList.findIdx? q := fun a q => by cases a; simp
      rw [this, Array.toList_push, ← Array.length_toList]
      exact findIdx_last _ _ _ (fun y hy => by have := hst y hy; simp; omega) (by simp)
    have hm : (es.push ⟨.int .i64 s, .int .i64 0, clock⟩).modify es.size (fun e => { e with val := .int .i64 v }) = es.push ⟨.int .i64 s, .int .i64 v, clock⟩ := by
      apply Array.ext (by simp)
      intro i h1 h2
      simp only [Array.size_modify, Array.size_push] at h1
      rw [Array.getElem_modify]
      by_cases e : es.size = i
      · subst e; simp
      · rw [if_neg e, Array.getElem_push_lt (by omega), Array.getElem_push_lt (by omega)]
    simp [Instr.entryStore, MapKept.run_getObj_map hw2, asInt, asIntOf, Result.andThen, hf, hm, MapKept.run_setObj_map _ hw2, setBlock]
  · refine ⟨_, _, setBlock_at hw2, by simp [he], fun e' he' => ?_⟩
    simp only [Array.toList_push, List.mem_append, List.mem_singleton] at he'
    rcases he' with h1 | rfl
    · have := hst e' h1; omega
    · exact Nat.lt_succ_self _
/-- A pairing in memory. -/
structure PV (B : Nat) (W : World) (pb m1 m2 ha hb : Nat) (M : List (Int × Int)) (lv : Value) (left : List (Int × Int)) : Prop where
  lo : B ≤ pb
  lo1 : B ≤ m1
  lo2 : B ≤ m2
  ne : m1 ≠ m2
  box : Blk W pb #[.pointer (some ⟨ha, 0, none⟩), .pointer (some ⟨hb, 0, none⟩), .map (some m1), .map (some m2), lv] 78
  i1 : IMapS W m1 M
  i2 : IMapS W m2 (swp M)
  own : W.ownsRow B 82 2 lv left.length (pC left)
variable {B pb m1 m2 ha hb : Nat} {W W' : World} {M : List (Int × Int)} {lv : Value} {left : List (Int × Int)}
theorem imap_blk {w : World} {b : Nat} {l : List (Int × Int)} {cs : Array Value} {T : TypeId} {g : Nat} (h : IMap w b l) (k : Blk w g cs T) : b ≠ g := fun e => by
  obtain ⟨es, cl, hm, _⟩ := h
  unfold Blk at k
  rw [← e, hm] at k
  cases k
theorem PV.c0 (h : PV B W pb m1 m2 ha hb M lv left) : W.cell? ⟨pb, 0, none⟩ = some (.pointer (some ⟨ha, 0, none⟩)) := h.box.cell 0
theorem PV.c1 (h : PV B W pb m1 m2 ha hb M lv left) : W.cell? ⟨pb, 1, none⟩ = some (.pointer (some ⟨hb, 0, none⟩)) := h.box.cell 1
theorem PV.c2 (h : PV B W pb m1 m2 ha hb M lv left) : W.cell? ⟨pb, 2, none⟩ = some (.map (some m1)) := h.box.cell 2
theorem PV.c3 (h : PV B W pb m1 m2 ha hb M lv left) : W.cell? ⟨pb, 3, none⟩ = some (.map (some m2)) := h.box.cell 3
theorem PV.c4 (h : PV B W pb m1 m2 ha hb M lv left) : W.cell? ⟨pb, 4, none⟩ = some lv := h.box.cell 4
theorem PV.fz (h : PV B W pb m1 m2 ha hb M lv left) (i : Nat) : W.frozen? ⟨pb, i, none⟩ = false := h.box.frozen i
theorem PV.size (h : PV B W pb m1 m2 ha hb M lv left) : B ≤ W.heap.size := by have := h.lo; have := h.box.lt; omega
theorem PV.below (h : PV B W pb m1 m2 ha hb M lv left) (hb' : Below W.heap.size W W') : PV B W' pb m1 m2 ha hb M lv left :=
  ⟨h.lo, h.lo1, h.lo2, h.ne, h.box.kept (hb'.block _ h.box.lt), h.i1.kept (hb'.block _ h.i1.lt), h.i2.kept (hb'.block _ h.i2.lt), own_below h.own hb'⟩
/-- Another list waits. -/
theorem PV.lefts {lv' : Value} {left' : List (Int × Int)} (h : PV B W pb m1 m2 ha hb M lv left) (hb' : Below W.heap.size W W' ∨ ∃ w1, Below W.heap.size W w1 ∧ w1.grownBy W' lv.ownBlock) (ho : W'.ownsRow B 82 2 lv' left'.length (pC left')) : PV B (W'.setCell ⟨pb, 4, none⟩ lv') pb m1 m2 ha hb M lv' left' := by
  have hk : W'.heap[pb]? = W.heap[pb]? ∧ W'.heap[m1]? = W.heap[m1]? ∧ W'.heap[m2]? = W.heap[m2]? := by
    rcases hb' with hb' | ⟨w1, h1, h2⟩
    · exact ⟨hb'.block _ h.box.lt, hb'.block _ h.i1.lt, hb'.block _ h.i2.lt⟩
    · exact ⟨(h2.block _ (Nat.lt_of_lt_of_le h.box.lt h1.size) (fun e => own_not h.own h.box (by decide) e.symm)).trans (h1.block _ h.box.lt), (h2.block _ (Nat.lt_of_lt_of_le h.i1.lt h1.size) (fun e => own_notI h.own h.i1.map e.symm)).trans (h1.block _ h.i1.lt), (h2.block _ (Nat.lt_of_lt_of_le h.i2.lt h1.size) (fun e => own_notI h.own h.i2.map e.symm)).trans (h1.block _ h.i2.lt)⟩
  have hbx := h.box.kept hk.1
  refine ⟨h.lo, h.lo1, h.lo2, h.ne, ?_, (h.i1.kept hk.2.1).kept (heap_setCell_other W' ⟨pb, 4, none⟩ m1 _ (imap_blk h.i1.map h.box)), (h.i2.kept hk.2.2).kept (heap_setCell_other W' ⟨pb, 4, none⟩ m2 _ (imap_blk h.i2.map h.box)), own_kept ho (fun g eg => heap_setCell_other W' ⟨pb, 4, none⟩ g _ (fun e => own_not ho hbx (by decide) (by rw [eg]; exact congrArg some e)))⟩
  have := hbx.set 4 lv'
  simpa using this
theorem PV.c4g (h : PV B W pb m1 m2 ha hb M lv left) {w1 : World} (h1 : Below W.heap.size W w1) (h2 : w1.grownBy W' lv.ownBlock) : W'.cell? ⟨pb, 4, none⟩ = some lv ∧ W'.frozen? ⟨pb, 4, none⟩ = false := by
  have hbx := h.box.kept ((h2.block _ (Nat.lt_of_lt_of_le h.box.lt h1.size) (fun e => own_not h.own h.box (by decide) e.symm)).trans (h1.block _ h.box.lt))
  exact ⟨hbx.cell 4, hbx.frozen 4⟩
/-- Whose blocks stand. -/
def PFr (W w' : World) (pb m1 m2 : Nat) (lv lv' : Value) : Prop := ∀ b, b < W.heap.size → b ≠ pb → b ≠ m1 → b ≠ m2 → lv.ownBlock ≠ some b → w'.heap[b]? = W.heap[b]? ∧ lv'.ownBlock ≠ some b
set_option maxRecDepth 8000 in
theorem ppush_any (h : PV B W pb m1 m2 ha hb M lv left) (x y : Int) (hl : left.length ≤ 100000) : Calls Try.prog 62 #[.pointer (some ⟨pb, 4, none⟩), .agg #[.int .i64 x, .int .i64 y]] W fun e w' => (∃ u, e = .returned u) ∧ ∃ lv', PV B w' pb m1 m2 ha hb M lv' (left ++ [(x, y)]) ∧ Below B W w' ∧ PFr W w' pb m1 m2 lv lv' := by
  have hbx := balloc W (.cells #[.int .i64 x, .int .i64 y] 82)
  have X0 := Blk.new W #[.int .i64 x, .int .i64 y] 82
  have M1 := h.below hbx
  have hz := M1.size
  have hz0 := h.size
  obtain ⟨ao, cap, rfl⟩ := own_slice h.own
  have hlo := h.lo
  have HB1 := hidIt (hbx.mono hz0)
  have hbx2 := hbx
  clear h hbx
  go_enter Try.func62, Try.ntmps62
  go_wp2_with fail
  generalize W.alloc (.cells #[.int .i64 x, .int .i64 y] 82) = W1 at *
  have hbX := balloc W1 (.cells #[.int .i64 x, .int .i64 y] 82)
  have MX := M1.below hbX
  have hbd : Below W1.heap.size W1 (W1.alloc (.cells #[.int .i64 x, .int .i64 y] 82)).drew := ⟨hbX.os, by have := (below_drewN hbX 1).tape; exact this, hbX.output, hbX.size, hbX.block⟩
  have MD := M1.below hbd
  have x4 := M1.c4
  have xx := MX.c4
  have b0 : W1.cell? ⟨W.heap.size, 0, none⟩ = some (.int .i64 x) := X0.cell 0
  have b1 : W1.cell? ⟨W.heap.size, 1, none⟩ = some (.int .i64 y) := X0.cell 1
  have xn := Blk.new W1 #[.int .i64 x, .int .i64 y] 82
  obtain ⟨X, hX⟩ : ∃ X, X = (W1.alloc (.cells #[.int .i64 x, .int .i64 y] 82)).drew := ⟨_, rfl⟩
  rw [← hX] at MD hbd
  have hsz : X.heap.size = W1.heap.size + 1 := by rw [hX]; show (W1.alloc _).heap.size = _; simp
  have xc : ∀ j : Nat, X.cell? ⟨W1.heap.size, j, none⟩ = (#[Value.int .i64 x, .int .i64 y])[j]? := fun j => by rw [hX]; exact xn.cell j
  obtain ⟨i0, hi, hi0, hi1, hi2⟩ := info_parts Try.infoPr
  obtain ⟨v1, w1, hr, h2, hg, _, hat⟩ := run_append_own_at (P := Try.prog) X B 76 76 82 i0 _ 2 16 Try.underlying76 hi hi0 hi1 hi2 rfl (by decide) (.slice ao left.length cap) left.length (pC left) MD.own ⟨W1.heap.size, 0, none⟩ 1 1 [.int .i64 x, .int .i64 y] rfl (fun j u hj => by
    have e : (⟨W1.heap.size, 0, none⟩ : Addr).add j = ⟨W1.heap.size, j, none⟩ := by unfold Addr.add; split <;> simp_all
    rw [e, xc j]
    simpa using hj) (by simp [Value.oneCell']) (by unfold maxLen; omega) (by omega) (by omega)
  obtain ⟨ao1, cap1, rfl⟩ := own_slice h2
  obtain ⟨y1, z1⟩ := MD.c4g (Below.refl _ _) hg
  have FIN : Hid (PV B (w1.setCell ⟨pb, 4, none⟩ (.slice ao1 (left.length + 1) cap1)) pb m1 m2 ha hb M (.slice ao1 (left.length + 1) cap1) (left ++ [(x, y)])) := hidIt (MD.lefts (lv' := .slice ao1 (left.length + 1) cap1) (left' := left ++ [(x, y)]) (.inr ⟨_, Below.refl _ _, hg⟩) (by rw [pC_app, List.length_append]; exact h2))
  have BB : Hid (Below B W (w1.setCell ⟨pb, 4, none⟩ (.slice ao1 (left.length + 1) cap1))) := hidIt (((HB1.out.trans (hbd.mono hz)).trans ((⟨hg, hat.imp id fun e => ⟨_, e, Nat.le_refl _⟩⟩ : Step (.slice ao left.length cap) X (.slice ao1 (left.length + 1) cap1) w1).below (by omega) (fun k hk => (MD.own.lt k hk).1))).setCell (p := ⟨pb, 4, none⟩) hlo _)
  have FR : Hid (PFr W (w1.setCell ⟨pb, 4, none⟩ (.slice ao1 (left.length + 1) cap1)) pb m1 m2 (.slice ao left.length cap) (.slice ao1 (left.length + 1) cap1)) := hidIt (fun b b1 b2 b3 b4 b5 => by
    have hzz := hbx2.size
    refine ⟨(heap_setCell_other w1 ⟨pb, 4, none⟩ b _ b2).trans ((hg.block b (by omega) (fun e => b5 e.symm)).trans ((hbd.block b (by omega)).trans (hbx2.block b b1))), fun e => ?_⟩
    rcases hat with h | h
    · exact b5 (h ▸ e)
    · rw [h] at e; cases e; omega)
  have HR := hidIt hr
  clear hr h2 hg hat MX M1 hbd hbX X0 hi hi0 hi1 hi2 HB1 MD xc xn hbx2
  subst hX
  go_region_law (refine op_append rfl rfl rfl rfl HR.out ?_)
  all_goals go_wp2_with fail
  all_goals go_end0
  all_goals exact ⟨⟨_, rfl⟩, _, FIN.out, BB.out, FR.out⟩
/-- A cell of somebody else is set. -/
theorem PV.other (h : PV B W pb m1 m2 ha hb M lv left) {b i : Nat} (v : Value) (h0 : b ≠ pb) (h1 : b ≠ m1) (h2 : b ≠ m2) (h3 : lv.ownBlock ≠ some b) : PV B (W.setCell ⟨b, i, none⟩ v) pb m1 m2 ha hb M lv left :=
  have k : ∀ g, g ≠ b → (W.setCell ⟨b, i, none⟩ v).heap[g]? = W.heap[g]? := fun g e => heap_setCell_other W ⟨b, i, none⟩ g v e
  ⟨h.lo, h.lo1, h.lo2, h.ne, h.box.kept (k _ (Ne.symm h0)), h.i1.kept (k _ (Ne.symm h1)), h.i2.kept (k _ (Ne.symm h2)), own_kept h.own (fun g eg => k g (fun e => h3 (by rw [eg, e])))⟩
set_option maxRecDepth 8000 in
theorem ppop_any {x y : Int} (h : PV B W pb m1 m2 ha hb M lv (left ++ [(x, y)])) (hl : left.length ≤ 100000) : Calls Try.prog 39 #[.pointer (some ⟨pb, 4, none⟩)] W fun e w' => e = .returned (.agg #[.int .i64 x, .int .i64 y]) ∧ ∃ lv', PV B w' pb m1 m2 ha hb M lv' left ∧ Below B W w' := by
  have hz := h.size
  have hlo := h.lo
  have hgW : ∀ k, lv.ownBlock = some k → k < W.heap.size := fun k e => (h.own.lt k e).2
  have hbx := balloc W (.cells #[.int .i64 0, .int .i64 0] 82)
  have Z0 := Blk.new W #[.int .i64 0, .int .i64 0] 82
  have M1 := h.below hbx
  clear h
  have x4 := M1.c4
  have f4 := M1.fz 4
  have hz1 := M1.size
  have HB1 := hidIt (hbx.mono hz)
  generalize hW1 : W.alloc (.cells #[.int .i64 0, .int .i64 0] 82) = W1 at *
  obtain ⟨ao, cap, rfl⟩ := own_slice M1.own
  have ho := M1.own
  have hn : (left ++ [(x, y)]).length = left.length + 1 := by simp
  rw [hn] at x4
  obtain ⟨hc, hm⟩ := own_cap ho
  unfold maxLen at hm
  have hp : pC (left ++ [(x, y)]) = pC left ++ [.int .i64 x, .int .i64 y] := by rw [pC_app]; rfl
  have hi0 : (pC (left ++ [(x, y)]))[left.length * 2 + 0]? = some (.int .i64 x) := by rw [hp, List.getElem?_append_right (by rw [pC_len]; omega), pC_len]; simp
  have hi1 : (pC (left ++ [(x, y)]))[left.length * 2 + 1]? = some (.int .i64 y) := by rw [hp, List.getElem?_append_right (by rw [pC_len]; omega), pC_len]; simp
  rw [hn] at ho hc
  obtain ⟨g, rfl, -, hg, c0, -⟩ := own_cellK ho hi0
  obtain ⟨g', eg, -, -, c1, -⟩ := own_cellK ho hi1
  cases eg
  have ht := own_trimK ho (Nat.le_succ left.length)
  rw [hp, List.take_left' (by rw [pC_len])] at ht
  rw [Nat.add_zero] at c0
  have r0 : W1.cell? ⟨W.heap.size, 0, none⟩ = some (.int .i64 0) := Z0.cell 0
  have r1 : W1.cell? ⟨W.heap.size, 1, none⟩ = some (.int .i64 0) := Z0.cell 1
  have k0 := Z0.frozen 0
  have k1 := Z0.frozen 1
  have hpw : pb ≠ W.heap.size := fun e => by
    have h1 := M1.box
    unfold Blk at h1 Z0
    rw [e, Z0] at h1
    simp at h1
  have hw1 : W.heap.size < W1.heap.size := Z0.lt
  have hbb := balloc W1 (.cells #[.int .i64 x, .int .i64 y] 82)
  have M2 := M1.below hbb
  have N0 := Blk.new W1 #[.int .i64 x, .int .i64 y] 82
  have Z2 := Z0.kept (hbb.block _ Z0.lt)
  have hs2 := hbb.size
  have hpw2 : pb ≠ W1.heap.size := fun e => by have := M1.box.lt; omega
  have ht2 := own_below ht hbb
  generalize hW2 : W1.alloc (.cells #[.int .i64 x, .int .i64 y] 82) = W2 at *
  have x4b : W2.cell? ⟨pb, 4, none⟩ = some (.slice (some ⟨g, 0, none⟩) (left.length + 1) cap) := by
    have := M2.c4
    rwa [hn] at this
  have f4b := M2.fz 4
  have M3 := M2.lefts (lv' := .slice (some ⟨g, 0, none⟩) left.length cap) (.inl (Below.refl _ _)) ht2
  have N3 := N0.kept (heap_setCell_other W2 ⟨pb, 4, none⟩ W1.heap.size (.slice (some ⟨g, 0, none⟩) left.length cap) (Ne.symm hpw2))
  have Z3 := Z2.kept (heap_setCell_other W2 ⟨pb, 4, none⟩ W.heap.size (.slice (some ⟨g, 0, none⟩) left.length cap) (Ne.symm hpw))
  have e0 : W2.cell? ⟨W1.heap.size, 0, none⟩ = some (.int .i64 x) := N0.cell 0
  have e1 : W2.cell? ⟨W1.heap.size, 1, none⟩ = some (.int .i64 y) := N0.cell 1
  have q0 : W2.cell? ⟨W.heap.size, 0, none⟩ = some (.int .i64 0) := Z2.cell 0
  have q1 : W2.cell? ⟨W.heap.size, 1, none⟩ = some (.int .i64 0) := Z2.cell 1
  have p0 := Z2.frozen 0
  have p1 := Z2.frozen 1
  have hgw := hgW g rfl
  have n1 : W.heap.size ≠ m1 := fun e => imap_blk M2.i1.map Z2 e.symm
  have n2 : W.heap.size ≠ m2 := fun e => imap_blk M2.i2.map Z2 e.symm
  have n3 : (Value.slice (some ⟨g, 0, none⟩) left.length cap).ownBlock ≠ some W.heap.size := fun e => by simp [Value.ownBlock] at e; omega
  have FIN := hidIt ((M3.other (i := 0) (.int .i64 x) (Ne.symm hpw) n1 n2 n3).other (i := 1) (.int .i64 y) (Ne.symm hpw) n1 n2 n3)
  have BB := hidIt ((((HB1.out.trans (hbb.mono hz1)).setCell (p := ⟨pb, 4, none⟩) hlo (.slice (some ⟨g, 0, none⟩) left.length cap)).setCell (p := ⟨W.heap.size, 0, none⟩) hz (.int .i64 x)).setCell (p := ⟨W.heap.size, 1, none⟩) hz (.int .i64 y))
  have ZF : Hid (Blk (((W2.setCell ⟨pb, 4, none⟩ (.slice (some ⟨g, 0, none⟩) left.length cap)).setCell ⟨W.heap.size, 0, none⟩ (.int .i64 x)).setCell ⟨W.heap.size, 1, none⟩ (.int .i64 y)) W.heap.size #[.int .i64 x, .int .i64 y] 82) := hidIt (by
    have := (Z3.set 0 (.int .i64 x)).set 1 (.int .i64 y)
    simpa using this)
  clear hbx hi0 hi1 ho hp hn M1 M2 M3 N3 Z3 Z2 N0 Z0 hbb ht ht2 n1 n2 n3 hgW
  generalize hn : left.length = n at *
  go_enter Try.func39, Try.ntmps39
  go_wp2_with fail
  have ZR := ZF.out
  unfold Blk at ZR
  refine bodyPost_ret (results_cell_row rfl _ _ W.heap.size 82 _ (0, 0) _ rfl ZR Try.underlying82 rfl (by kernel_rfl)) rfl ?_
  exact ⟨rfl, _, FIN.out, BB.out⟩
/-- What put leaves. -/
def PtQ (B : Nat) (W : World) (pb m1 m2 ha hb : Nat) (lv : Value) (M left : List (Int × Int)) (w' : World) : Prop := ∃ lv', PV B w' pb m1 m2 ha hb M lv' left ∧ Below B W w' ∧ PFr W w' pb m1 m2 lv lv'
theorem PV.putS (h : PV B W pb m1 m2 ha hb M lv left) {es1 es2 es3 es4 : Array MapEntry} {c1 c2 c3 c4 : Nat} {M' : List (Int × Int)}
    (hi1 : IMapS (setBlock (setBlock W m1 (.map es1 c1)) m1 (.map es2 c2)) m1 M') (hi2 : IMapS (setBlock (setBlock (setBlock (setBlock W m1 (.map es1 c1)) m1 (.map es2 c2)) m2 (.map es3 c3)) m2 (.map es4 c4)) m2 (swp M')) :
    PV B (setBlock (setBlock (setBlock (setBlock W m1 (.map es1 c1)) m1 (.map es2 c2)) m2 (.map es3 c3)) m2 (.map es4 c4)) pb m1 m2 ha hb M' lv left ∧ Below B W (setBlock (setBlock (setBlock (setBlock W m1 (.map es1 c1)) m1 (.map es2 c2)) m2 (.map es3 c3)) m2 (.map es4 c4)) := by
  have k : ∀ g, g ≠ m1 → g ≠ m2 → (setBlock (setBlock (setBlock (setBlock W m1 (.map es1 c1)) m1 (.map es2 c2)) m2 (.map es3 c3)) m2 (.map es4 c4)).heap[g]? = W.heap[g]? := fun g a b =>
    (setBlock_other _ _ _ _ b).trans ((setBlock_other _ _ _ _ b).trans ((setBlock_other _ _ _ _ a).trans (setBlock_other _ _ _ _ a)))
  exact ⟨⟨h.lo, h.lo1, h.lo2, h.ne, h.box.kept (k _ (Ne.symm (imap_blk h.i1.map h.box)) (Ne.symm (imap_blk h.i2.map h.box))), hi1.kept ((setBlock_other _ _ _ _ h.ne).trans (setBlock_other _ _ _ _ h.ne)), hi2, own_kept h.own (fun g eg => k g (fun e => own_notI h.own h.i1.map (by rw [eg, e])) (fun e => own_notI h.own h.i2.map (by rw [eg, e])))⟩,
    below_setBlock (below_setBlock (below_setBlock (below_setBlock (Below.refl _ _) h.lo1 _) h.lo1 _) h.lo2 _) h.lo2 _⟩
set_option maxRecDepth 8000 in
set_option maxHeartbeats 4000000 in
theorem pput_any (h : PV B W pb m1 m2 ha hb M lv left) (x y : Int) (hl : left.length ≤ 100000) : Calls Try.prog 37 #[.pointer (some ⟨pb, 0, none⟩), .int .i64 x, .int .i64 y] W fun e w' => e = .returned (.bool (putB M x y)) ∧ PtQ B W pb m1 m2 ha hb lv (M ++ putN M x y) (left ++ putN M x y) w' := by
  have x2 := h.c2
  have x3 := h.c3
  have l1 := h.i1.map.look2 Try.underlying74 Try.underlying3 (zero_int _) x
  have l2 := h.i2.map.look2 Try.underlying74 Try.underlying3 (zero_int _) y
  have hz := h.size
  by_cases hc : ((ilook M x).isSome || (ilook (swp M) y).isSome) = true
  · have e1 : putB M x y = ((ilook M x).getD 0 == y && (ilook (swp M) y).getD 0 == x) := by unfold putB; rw [if_pos hc]
    have e2 : putN M x y = [] := by unfold putN; rw [if_pos hc]
    rw [e1, e2, List.append_nil, List.append_nil]
    have FIN : Hid (PtQ B W pb m1 m2 ha hb lv M left W) := hidIt ⟨lv, h, Below.refl _ _, fun b _ _ _ _ h5 => ⟨rfl, h5⟩⟩
    clear h e1 e2
    generalize (ilook M x).getD 0 = a at *
    generalize (ilook (swp M) y).getD 0 = b at *
    generalize (ilook M x).isSome = c1 at *
    generalize (ilook (swp M) y).isSome = c2 at *
    generalize PtQ B W pb m1 m2 ha hb lv M left = Q at *
    go_enter Try.func37, Try.ntmps37
    cases c1 with
    | true =>
      by_cases hay : a = y
      · subst hay
        go_wp2_with fail
        go_ret
        exact ⟨by simp, FIN.out⟩
      · go_wp2_with fail
        go_ret
        exact ⟨by simp [hay], FIN.out⟩
    | false =>
      obtain rfl : c2 = true := by simpa using hc
      by_cases hay : a = y
      · subst hay
        go_wp2_with fail
        go_ret
        exact ⟨by simp, FIN.out⟩
      · go_wp2_with fail
        go_ret
        exact ⟨by simp [hay], FIN.out⟩
  · have e1 : putB M x y = true := by unfold putB; rw [if_neg hc]
    have e2 : putN M x y = [(x, y)] := by unfold putN; rw [if_neg hc]
    rw [e1, e2]
    simp only [Bool.or_eq_true, not_or, Bool.not_eq_true] at hc
    obtain ⟨c1, c2⟩ := hc
    rw [c1] at l1
    rw [c2] at l2
    have n1 : ilook M x = none := by simpa using c1
    have n2 : ilook (swp M) y = none := by simpa using c2
    rw [n1] at l1
    rw [n2] at l2
    simp only [Option.getD_none] at l1 l2
    have hd : Below W.heap.size W W.drew := below_drewN (Below.refl _ W) 1
    have hD := h.below hd
    have i1D := hD.i1
    have i2D := hD.i2
    obtain ⟨es1, es2, k1, st1, r1, s1⟩ := i1D.entry Try.underlying74 Try.underlying3 (fun _ => zero_int _) x y n1
    have b1 : (setBlock W.drew m1 (.map es1 k1)).heap[m1]? = some (.map es1 k1) := setBlock_at (i1D.choose_spec.choose_spec.1)
    obtain ⟨s1r, s1i⟩ := s1 _ b1
    have i2K := i2D.kept ((setBlock_other (setBlock W.drew m1 (.map es1 k1)) m1 m2 (.map es2 k1) (Ne.symm h.ne)).trans (setBlock_other W.drew m1 m2 (.map es1 k1) (Ne.symm h.ne)))
    obtain ⟨es3, es4, k2, st2, r2, s2⟩ := i2K.entry Try.underlying74 Try.underlying3 (fun _ => zero_int _) y x n2
    have b2 := setBlock_at (o' := .map es3 k2) (i2K.choose_spec.choose_spec.1)
    obtain ⟨s2r, s2i⟩ := s2 _ b2
    rw [show swp M ++ [(y, x)] = swp (M ++ [(x, y)]) by rw [swp_app]; rfl] at s2i
    obtain ⟨P4, B4⟩ := hD.putS s1i s2i
    have F4 : Hid (∀ b, b < W.heap.size → b ≠ m1 → b ≠ m2 → (setBlock (setBlock (setBlock (setBlock W.drew m1 (.map es1 k1)) m1 (.map es2 k1)) m2 (.map es3 k2)) m2 (.map es4 k2)).heap[b]? = W.heap[b]?) := hidIt (fun b _ h1 h2 => (setBlock_other _ _ _ _ h2).trans ((setBlock_other _ _ _ _ h2).trans ((setBlock_other _ _ _ _ h1).trans (setBlock_other _ _ _ _ h1))))
    have cell : ∀ (V : World) (b i : Nat) (o : Obj), b ≠ pb → (setBlock V b o).cell? ⟨pb, i, none⟩ = V.cell? ⟨pb, i, none⟩ := fun V b i o e => World.cell?_of_block (setBlock_other V b pb o (Ne.symm e))
    have np1 : m1 ≠ pb := imap_blk h.i1.map h.box
    have np2 : m2 ≠ pb := imap_blk h.i2.map h.box
    have a2 : W.drew.cell? ⟨pb, 2, none⟩ = some (.map (some m1)) := hD.c2
    have a3 : W.drew.cell? ⟨pb, 3, none⟩ = some (.map (some m2)) := hD.c3
    clear h hD i1D i2D i2K s1 s2 s1i s2i b1 b2 n1 n2 c1 c2 e1 e2
    have d2 := (cell (W.drew) m1 2 (.map es1 k1) np1).trans a2
    have d3 := (cell (W.drew) m1 3 (.map es1 k1) np1).trans a3
    generalize setBlock W.drew m1 (.map es1 k1) = W1 at *
    have f2 := (cell W1 m1 2 (.map es2 k1) np1).trans d2
    have f3 := (cell W1 m1 3 (.map es2 k1) np1).trans d3
    generalize setBlock W1 m1 (.map es2 k1) = W2 at *
    have g2 := (cell W2 m2 2 (.map es3 k2) np2).trans f2
    have g3 := (cell W2 m2 3 (.map es3 k2) np2).trans f3
    generalize setBlock W2 m2 (.map es3 k2) = W3 at *
    have j2 := (cell W3 m2 2 (.map es4 k2) np2).trans g2
    have j3 := (cell W3 m2 3 (.map es4 k2) np2).trans g3
    generalize setBlock W3 m2 (.map es4 k2) = W4 at *
    have GP := hidIt (ppush_any P4 x y hl)
    have z4 := B4.size
    have HB4 := hidIt ((hd.mono hz).trans B4)
    clear P4 B4 cell
    go_enter Try.func37, Try.ntmps37
    go_wp2_with fail
    go_region_held3 (fun V => V.cell? ⟨pb, 2, none⟩ = some (.map (some m1)) ∧ V.cell? ⟨pb, 3, none⟩ = some (.map (some m2))) (first | exact ⟨a2, a3⟩ | exact ⟨d2, d3⟩ | exact ⟨f2, f3⟩ | exact ⟨g2, g3⟩ | exact ⟨j2, j3⟩) (fail)
    clear x2 x3 l1 l2 r1 r2 s1r s2r a2 a3 d2 d3 f2 f3 g2 g3 j2 j3
    go_wp2_with (go_at_call 62; refine GP.out.mono ?_; rintro e w5 ⟨⟨u, rfl⟩, lv5, hq, hb5, hf5⟩; have HQ : Hid (PtQ B W pb m1 m2 ha hb lv (M ++ [(x, y)]) (left ++ [(x, y)]) w5) := hidIt ⟨lv5, hq, HB4.out.trans hb5, fun b b1 b2 b3 b4 b5 => ⟨(hf5 b (Nat.lt_of_lt_of_le b1 z4) b2 b3 b4 b5).1.trans (F4.out b b1 b3 b4), (hf5 b (Nat.lt_of_lt_of_le b1 z4) b2 b3 b4 b5).2⟩⟩; clear hq hb5 hf5)
    go_ret
    exact ⟨rfl, HQ.out⟩
end Go.Proofs.Ytbdeflpjplhafaa.J
