/- A marking of package collect as it lies in memory: push, pop, reach, follow. -/
import Derived.Test.YtbdeflpjplhafaaVA
import Derived.Test.YtbdeflpjplhafaaJZ
import Derived.Deep.CutRange
import Derived.OwnWalk
namespace Go.Proofs.Ytbdeflpjplhafaa.J
open Go.RowKit Go.MapKept Go.ChangeMaps
set_option linter.unusedVariables false

structure MV (B : Nat) (W : World) (mb rb hb : Nat) (R : List Bool) (lv : Value) (left : List Int) (st : Int) : Prop where
  lo : B ≤ mb
  lot : B ≤ rb
  box : Blk W mb #[.pointer (some ⟨hb, 0, none⟩), .slice (some ⟨rb, 0, none⟩) R.length R.length, lv, .int .i64 st] 71
  row : Blk W rb (tcells R).toArray 4
  own : NOwn W B lv left
variable {B mb rb hb : Nat} {W W' : World} {R : List Bool} {lv : Value} {left : List Int} {st : Int}
theorem MV.c0 (h : MV B W mb rb hb R lv left st) : W.cell? ⟨mb, 0, none⟩ = some (.pointer (some ⟨hb, 0, none⟩)) := h.box.cell 0
theorem MV.c1 (h : MV B W mb rb hb R lv left st) : W.cell? ⟨mb, 1, none⟩ = some (.slice (some ⟨rb, 0, none⟩) R.length R.length) := h.box.cell 1
theorem MV.c2 (h : MV B W mb rb hb R lv left st) : W.cell? ⟨mb, 2, none⟩ = some lv := h.box.cell 2
theorem MV.c3 (h : MV B W mb rb hb R lv left st) : W.cell? ⟨mb, 3, none⟩ = some (.int .i64 st) := h.box.cell 3
theorem MV.fz (h : MV B W mb rb hb R lv left st) (i : Nat) : W.frozen? ⟨mb, i, none⟩ = false := h.box.frozen i
theorem MV.at_ (h : MV B W mb rb hb R lv left st) {j : Nat} {x : Bool} (hj : R[j]? = some x) : W.cell? ⟨rb, j, none⟩ = some (.bool x) ∧ W.frozen? ⟨rb, j, none⟩ = false := by
  refine ⟨?_, h.row.frozen j⟩
  rw [h.row.cell j]
  simpa using tcells_at hj
theorem MV.size (h : MV B W mb rb hb R lv left st) : B ≤ W.heap.size := by have := h.lo; have := h.box.lt; omega
theorem MV.ne (h : MV B W mb rb hb R lv left st) : mb ≠ rb := fun e => by
  have h1 := h.box
  have h2 := h.row
  unfold Blk at h1 h2
  rw [e, h2] at h1
  simp at h1
theorem MV.below (h : MV B W mb rb hb R lv left st) (hb' : Below W.heap.size W W') : MV B W' mb rb hb R lv left st :=
  ⟨h.lo, h.lot, h.box.kept (hb'.block _ h.box.lt), h.row.kept (hb'.block _ h.row.lt), own_below h.own hb'⟩
theorem MV.steps (h : MV B W mb rb hb R lv left st) (x : Int) : MV B (W.setCell ⟨mb, 3, none⟩ (.int .i64 x)) mb rb hb R lv left x := by
  refine ⟨h.lo, h.lot, ?_, h.row.kept (heap_setCell_other W ⟨mb, 3, none⟩ rb _ (Ne.symm h.ne)), own_kept h.own (fun g eg => heap_setCell_other W ⟨mb, 3, none⟩ g _ (fun e => own_not h.own h.box (by decide) (by rw [eg]; exact congrArg some e)))⟩
  have := h.box.set 3 (.int .i64 x)
  simpa using this
theorem MV.mark (h : MV B W mb rb hb R lv left st) (j : Nat) : MV B (W.setCell ⟨rb, j, none⟩ (.bool true)) mb rb hb (R.set j true) lv left st := by
  refine ⟨h.lo, h.lot, ?_, ?_, own_kept h.own (fun g eg => heap_setCell_other W ⟨rb, j, none⟩ g _ (fun e => own_not h.own h.row (by decide) (by rw [eg]; exact congrArg some e)))⟩
  · rw [List.length_set]
    exact h.box.kept (heap_setCell_other W ⟨rb, j, none⟩ mb _ h.ne)
  · have := h.row.set j (.bool true)
    rwa [show (tcells R).toArray.setIfInBounds j (.bool true) = (tcells (R.set j true)).toArray by simp [tcells, List.map_set]] at this
/-- Another list waits. -/
theorem MV.lefts {lv' : Value} {left' : List Int} (h : MV B W mb rb hb R lv left st) (hb' : Below W.heap.size W W' ∨ ∃ w1, Below W.heap.size W w1 ∧ w1.grownBy W' lv.ownBlock) (ho : NOwn W' B lv' left') : MV B (W'.setCell ⟨mb, 2, none⟩ lv') mb rb hb R lv' left' st := by
  have hk : W'.heap[mb]? = W.heap[mb]? ∧ W'.heap[rb]? = W.heap[rb]? := by
    rcases hb' with hb' | ⟨w1, h1, h2⟩
    · exact ⟨hb'.block _ h.box.lt, hb'.block _ h.row.lt⟩
    · exact ⟨(h2.block _ (Nat.lt_of_lt_of_le h.box.lt h1.size) (fun e => own_not h.own h.box (by decide) e.symm)).trans (h1.block _ h.box.lt), (h2.block _ (Nat.lt_of_lt_of_le h.row.lt h1.size) (fun e => own_not h.own h.row (by decide) e.symm)).trans (h1.block _ h.row.lt)⟩
  have hbx := h.box.kept hk.1
  refine ⟨h.lo, h.lot, ?_, (h.row.kept hk.2).kept (heap_setCell_other W' ⟨mb, 2, none⟩ rb _ (Ne.symm h.ne)), own_kept ho (fun g eg => heap_setCell_other W' ⟨mb, 2, none⟩ g _ (fun e => own_not ho hbx (by decide) (by rw [eg]; exact congrArg some e)))⟩
  have := hbx.set 2 lv'
  simpa using this

theorem MV.c2g (h : MV B W mb rb hb R lv left st) {w1 : World} (h1 : Below W.heap.size W w1) (h2 : w1.grownBy W' lv.ownBlock) : W'.cell? ⟨mb, 2, none⟩ = some lv ∧ W'.frozen? ⟨mb, 2, none⟩ = false := by
  have hbx := h.box.kept ((h2.block _ (Nat.lt_of_lt_of_le h.box.lt h1.size) (fun e => own_not h.own h.box (by decide) e.symm)).trans (h1.block _ h.box.lt))
  exact ⟨hbx.cell 2, hbx.frozen 2⟩
theorem wpList_gstack {w : World} {ops : Array Oper} {rest : List Oper} {o : Oper} {a : Act} {Q : Exit → Act → World → Prop} (hgd : o.guard = none) (s x : Operand)
    (ho : o.op = .call { callee := .builtin .append, args := #[s, x], argTypes := #[69, 69] })
    (B : Nat) (v : Value) (l : List Int) (y : Int) (hown : NOwn w B v l) (hs : a.eval s = v) (hx : a.eval x = .slice (some ⟨w.heap.size, 0, none⟩) 1 1)
    (hlen : l.length ≤ 10000000000000) (hB : B ≤ w.heap.size)
    (h : ∀ ao' cap' w', NOwn w' B (.slice ao' (l.length + 1) cap') (l ++ [y]) → Step v (w.alloc (.cells #[.int .i64 y] 3)) (.slice ao' (l.length + 1) cap') w' → wpList Try.prog ops Q rest (a.put o.dst (.slice ao' (l.length + 1) cap')) w') :
    wpList Try.prog ops Q (o :: rest) a (w.alloc (.cells #[.int .i64 y] 3)) := by
  obtain ⟨i0, hi, hz0, hz1, hz2⟩ := info_parts Try.infoN
  refine wpList_plain hgd fun K hK => ?_
  have hown' : (w.alloc (.cells #[.int .i64 y] 3)).ownsRow B 3 1 v l.length (icells l) := own_below hown (balloc w _)
  obtain ⟨v', w', hr, h2, h3, _, h4⟩ := run_append_own_at (P := Try.prog) (w.alloc (.cells #[.int .i64 y] 3)) B 69 o.type 3 i0 (.int .i64 0) 1 8 Try.underlying69 hi hz0 hz1 hz2 rfl (by decide) v l.length (icells l) hown' ⟨w.heap.size, 0, none⟩ 1 1 [.int .i64 y] rfl
    (fun j u hj => by
      have e : (⟨w.heap.size, 0, none⟩ : Addr).add j = ⟨w.heap.size, j, none⟩ := by unfold Addr.add; split <;> simp_all
      rw [e]
      have := (Blk.new w #[.int .i64 y] 3).cell j
      rw [this]
      simpa using hj) (icells_one [y]) (by unfold maxLen; omega) (by omega) (by simp; omega)
  unfold Oper.wp execOp
  simp only [ho, resolve, invoke, builtin, Sem.run_bind, Sem.run_pure, Result.andThen_ok, List.map_toArray, List.map_cons, List.map_nil, hs, hx, hr]
  obtain ⟨ao', cap', rfl⟩ := own_slice h2
  refine hK _ _ (h ao' cap' w' ?_ ⟨h3, h4.imp id fun e => ⟨_, e, Nat.le_refl _⟩⟩)
  show w'.ownsRow B 3 1 _ (l ++ [y]).length (icells (l ++ [y]))
  rw [show icells (l ++ [y]) = icells l ++ [.int .i64 y] by simp [icells], List.length_append]
  exact h2
set_option maxRecDepth 8000 in
theorem gpush_any (h : MV B W mb rb hb R lv left st) (x : Int) (hl : left.length ≤ 100000) : Calls Try.prog 66 #[.pointer (some ⟨mb, 2, none⟩), .int .i64 x] W fun e w' => (∃ u, e = .returned u) ∧ ∃ lv', MV B w' mb rb hb R lv' (left ++ [x]) st ∧ Below B W w' := by
  have M := hidIt h
  have x2 := h.c2
  have f2 := h.fz 2
  have hz := h.size
  obtain ⟨ao, cap, rfl⟩ := own_slice h.own
  have HO := hidIt h.own
  have hlo := h.lo
  clear h
  go_enter Try.func66, Try.ntmps66
  go_wp2_with (at_builtin; refine wpList_gstack rfl _ _ rfl B _ _ _ HO.out rfl rfl (by omega) hz ?_; intro ao3 cap3 w2 ho2 st2; have MM := hidIt (M.out.lefts (.inr ⟨_, balloc W (.cells #[.int .i64 x] 3), st2.grown⟩) ho2); have BB := hidIt ((((balloc W (.cells #[.int .i64 x] 3)).mono hz).trans (st2.below (Nat.le_trans hz (balloc _ _).size) (fun k hk => (HO.out.lt k hk).1))).setCell (p := ⟨mb, 2, none⟩) hlo (.slice ao3 (left.length + 1) cap3)); obtain ⟨y2, y3⟩ := M.out.c2g (balloc W (.cells #[.int .i64 x] 3)) st2.grown; clear ho2 st2)
  go_end0
  exact ⟨⟨_, rfl⟩, _, MM.out, BB.out⟩
set_option maxRecDepth 8000 in
theorem gpop_any {x : Int} (h : MV B W mb rb hb R lv (left ++ [x]) st) (hl : left.length ≤ 100000) : Calls Try.prog 53 #[.pointer (some ⟨mb, 2, none⟩)] W fun e w' => e = .returned (.int .i64 x) ∧ ∃ lv', MV B w' mb rb hb R lv' left st ∧ Below B W w' := by
  have x2 := h.c2
  have f2 := h.fz 2
  have hz := h.size
  have hlo := h.lo
  obtain ⟨ao, cap, rfl⟩ := own_slice h.own
  have ho := h.own
  have hn : (left ++ [x]).length = left.length + 1 := by simp
  rw [hn] at x2
  obtain ⟨hc, hm⟩ := own_cap ho
  unfold maxLen at hm
  have hi : (icells (left ++ [x]))[left.length]? = some (.int .i64 x) := icells_at (by simp)
  unfold NOwn at ho
  rw [hn] at ho hc
  obtain ⟨g, rfl, -, -, c1, -⟩ := own_cell ho hi
  have ht := own_trim ho (Nat.le_succ left.length)
  rw [show (icells (left ++ [x])).take left.length = icells left by simp [icells, List.map_append]] at ht
  have FIN := hidIt (h.lefts (lv' := .slice (some ⟨g, 0, none⟩) left.length cap) (.inl (Below.refl _ _)) ht)
  have BB := hidIt ((Below.refl B W).setCell (p := ⟨mb, 2, none⟩) hlo (.slice (some ⟨g, 0, none⟩) left.length cap))
  clear h ho ht hi hn
  generalize left.length = n at *
  go_enter Try.func53, Try.ntmps53
  go_wp2
  go_ret
  exact ⟨rfl, _, FIN.out, BB.out⟩
end Go.Proofs.Ytbdeflpjplhafaa.J
namespace Go.Proofs.Ytbdeflpjplhafaa.J
open Go.RowKit Go.MapKept Go.ChangeMaps
set_option linter.unusedVariables false

variable {n0 B mb rb hb : Nat} {w W W' : World} {H : HB} {most : Nat} {l : List Ob} {ss : List (List Bool)} {R : List Bool} {lv : Value} {left : List Int} {st : Int}
def RcQ (B : Nat) (W : World) (mb rb hb : Nat) (R : List Bool) (left : List Int) (st : Int) (w' : World) : Prop := ∃ lv', MV B w' mb rb hb R lv' left st ∧ Below B W w'
set_option maxRecDepth 8000 in
theorem greach_any (h : MV B W mb rb hb R lv left st) (x : Int) (hx : x = 0 ∨ (1 ≤ x ∧ x.toNat < R.length)) (hl : left.length ≤ 100000) (hR : R.length ≤ 100000) :
    Calls Try.prog 51 #[.pointer (some ⟨mb, 0, none⟩), .int .i64 x] W fun e w' => (∃ u, e = .returned u) ∧ RcQ B W mb rb hb (reachR R x) (reachL R left x) st w' := by
  have x1 := h.c1
  have x2 := h.c2
  by_cases h0 : x = 0
  · have e1 : reachR R x = R := by unfold reachR; rw [if_pos (.inl h0)]
    have e2 : reachL R left x = left := by unfold reachL; rw [if_pos (.inl h0)]
    have FIN : Hid (RcQ B W mb rb hb (reachR R x) (reachL R left x) st W) := hidIt ⟨lv, by rw [e1, e2]; exact h, Below.refl _ _⟩
    generalize RcQ B W mb rb hb (reachR R x) (reachL R left x) st = Q at *
    clear e1 e2 h hx
    subst h0
    generalize R.length = T at *
    go_enter Try.func51, Try.ntmps51
    go_wp2
    go_end0
    exact ⟨⟨_, rfl⟩, FIN.out⟩
  · obtain ⟨h1, h2⟩ := hx.resolve_left h0
    obtain ⟨k, rfl⟩ : ∃ k : Nat, x = (k : Int) := ⟨x.toNat, by omega⟩
    simp only [Int.toNat_natCast] at h2
    obtain ⟨b, hb'⟩ : ∃ b, R[k]? = some b := ⟨R[k], List.getElem?_eq_getElem h2⟩
    obtain ⟨z1, z2⟩ := h.at_ hb'
    have hk' : (k : Int) < (R.length : Int) := by omega
    have hmk : mkB R (k : Int) = b := by simp [mkB, hb', h1]
    cases b with
    | true =>
      have e1 : reachR R (k : Int) = R := by unfold reachR; rw [if_pos (.inr hmk)]
      have e2 : reachL R left (k : Int) = left := by unfold reachL; rw [if_pos (.inr hmk)]
      have FIN : Hid (RcQ B W mb rb hb (reachR R (k : Int)) (reachL R left (k : Int)) st W) := hidIt ⟨lv, by rw [e1, e2]; exact h, Below.refl _ _⟩
      generalize RcQ B W mb rb hb (reachR R (k : Int)) (reachL R left (k : Int)) st = Q at *
      clear e1 e2 h hx hmk hb'
      generalize R.length = T at *
      go_enter Try.func51, Try.ntmps51
      go_wp2
      go_end0
      exact ⟨⟨_, rfl⟩, FIN.out⟩
    | false =>
      have hno : ¬ ((k : Int) = 0 ∨ mkB R (k : Int) = true) := by rw [hmk]; simp; omega
      have e1 : reachR R (k : Int) = R.set k true := by unfold reachR; rw [if_neg hno]; rfl
      have e2 : reachL R left (k : Int) = left ++ [(k : Int)] := by unfold reachL; rw [if_neg hno]
      have M1 := h.mark k
      have GP := hidIt (gpush_any M1 (k : Int) hl)
      have y1 := M1.c1
      have hlot := h.lot
      rw [List.length_set] at y1
      have FIN : Hid (∀ w', (∃ lv', MV B w' mb rb hb (R.set k true) lv' (left ++ [(k : Int)]) st ∧ Below B (W.setCell ⟨rb, k, none⟩ (.bool true)) w') → RcQ B W mb rb hb (reachR R (k : Int)) (reachL R left (k : Int)) st w') := hidIt (fun w' ⟨lv', a, b⟩ => ⟨lv', by rw [e1, e2]; exact a, ((Below.refl B W).setCell (p := ⟨rb, k, none⟩) hlot (.bool true)).trans b⟩)
      generalize RcQ B W mb rb hb (reachR R (k : Int)) (reachL R left (k : Int)) st = Q at *
      have x2' := M1.c2
      clear e1 e2 h hx hno hmk hb' M1
      generalize R.length = T at *
      go_enter Try.func51, Try.ntmps51
      go_wp2_with (go_at_call 66; refine GP.out.mono ?_; rintro e w' ⟨⟨u, rfl⟩, hq⟩; have F2 := hidIt (FIN.out w' hq); clear hq)
      go_end0
      exact ⟨⟨_, rfl⟩, F2.out⟩
end Go.Proofs.Ytbdeflpjplhafaa.J
namespace Go.Proofs.Ytbdeflpjplhafaa.J
open Go.RowKit Go.MapKept Go.ChangeMaps
set_option linter.unusedVariables false

variable {n0 B mb qb hb : Nat} {w W W' : World} {H : HB} {most : Nat} {l : List Ob} {ss : List (List Bool)} {R : List Bool} {lv : Value} {left roots : List Int} {k st : Nat}
/-- A marking that goes on. -/
def GmW (w : World) (mb qb hb : Nat) (ss : List (List Bool)) (l : List Ob) (roots : List Int) (k : Nat) (cx : Int) (rem s0 : Nat) (wr : World) : Prop :=
  ∃ (R : List Bool) (left : List Int) (lv : Value) (st : Nat), MV w.heap.size wr mb qb hb R lv left (st : Int) ∧ Gm ss l roots R left k cx rem st ∧ s0 ≤ st ∧ Below w.heap.size w wr
def FlW (w : World) (mb qb hb : Nat) (ss : List (List Bool)) (l : List Ob) (roots : List Int) (k : Nat) (x : Int) (len s0 n : Nat) (wr : World) : Prop :=
  ∃ (R : List Bool) (left : List Int) (lv : Value) (st : Nat), MV w.heap.size wr mb qb hb R lv left (st : Int) ∧ Gm ss l roots R left k x (len - n) st ∧ CloN ss l R x n ∧ s0 < st ∧ Below w.heap.size w wr
set_option maxRecDepth 8000 in
set_option maxHeartbeats 2000000 in
theorem gfollow_any (h : HeapV n0 w H most l ss) (hr : RefsOk ss l) (hbl : Below w.heap.size w W) {x : Int} (m : MV w.heap.size W mb qb H.hb R lv left (st : Int)) (g : Gm ss l roots R (left ++ [x]) k 0 0 st) (hk : k ≤ 1000000000000000) :
    Calls Try.prog 52 #[.pointer (some ⟨mb, 0, none⟩), .int .i64 x] W fun e w' => (∃ u, e = .returned u) ∧ GmW w mb qb H.hb ss l roots k 0 0 (st + 1) w' := by
  obtain ⟨hmx, o, ho⟩ := g.top
  have hm2 : usedN l ≤ 16384 := Nat.le_trans h.few h.most
  have hrx := g.rc x hmx
  have g1 := g.pop ho
  have hfw := g1.few
  have hln : o.f.length ≤ 16384 := by have := objZ_in ho; omega
  have HO := hidIt ho
  have HR := hidIt hr
  have HRX := hidIt hrx
  have GL : Hid (∀ wr, Below w.heap.size w wr → Calls Try.prog 35 #[.pointer (some ⟨H.hb, 0, none⟩), .int .i64 x] wr fun e w' => e = .returned (.int .i64 (o.f.length : Int)) ∧ w' = wr) := hidIt (fun wr hb => by
    have := Len_any (h.below hb) x
    unfold lenZ at this
    rw [ho] at this
    exact this)
  have GR : Hid (∀ wr, Below w.heap.size w wr → ∀ n : Nat, n < o.f.length → Calls Try.prog 49 #[.pointer (some ⟨H.hb, 0, none⟩), .int .i64 x, .int .i64 (n : Int)] wr fun e w' => e = .returned (.bool (rb ss o.sh n)) ∧ w' = wr) := hidIt (fun wr hb n hn => by
    have := IsRef_any (h.below hb) x (n : Int)
    rw [refZ_rb ho hn] at this
    exact this)
  have GG : Hid (∀ wr, Below w.heap.size w wr → ∀ (n : Nat) y, o.f[n]? = some y → Calls Try.prog 67 #[.pointer (some ⟨H.hb, 0, none⟩), .int .i64 x, .int .i64 (n : Int)] wr fun e w' => e = .returned (.tuple #[.int .i64 y, .int .i64 0]) ∧ Below wr.heap.size wr w') := hidIt (fun wr hb n y hy => by
    have hn := (List.getElem?_eq_some_iff.1 hy).1
    have := get_yes (h.below hb) x (n : Int) (hasZ_of ho (by omega) (by omega))
    unfold getZ at this
    rw [ho] at this
    simp only [Int.toNat_natCast, hy, Option.getD_some] at this
    exact this)
  have HB := hidIt hbl
  have x0 := m.c0
  have x3 := m.c3
  have f3 := m.fz 3
  have M1 := hidIt (m.steps ((st : Int) + 1))
  have BB := hidIt (hbl.setCell (p := ⟨mb, 3, none⟩) m.lo (.int .i64 ((st : Int) + 1)))
  have y0 := M1.out.c0
  have G1 := hidIt g1
  clear g g1 m h hr hbl hrx hmx ho
  have hst : st ≤ 1000000000100000 := by omega
  have GL2 := hidIt (GL.out _ BB.out)
  have Y0 : Hid (∀ wr, FlW w mb qb H.hb ss l roots k x o.f.length st 0 wr → True) := hidIt (fun _ _ => trivial)
  have ST : Hid (FlW w mb qb H.hb ss l roots k x o.f.length st 0 (W.setCell ⟨mb, 3, none⟩ (.int .i64 ((st : Int) + 1)))) := hidIt ⟨R, left, lv, st + 1, by rw [show ((st + 1 : Nat) : Int) = (st : Int) + 1 by omega]; exact M1.out, by rw [Nat.sub_zero]; exact G1.out, CloN.zero x, by omega, BB.out⟩
  clear Y0 M1 G1 BB
  go_enter Try.func52, Try.ntmps52
  go_wp2_with (go_at_call 35; refine GL2.out.mono ?_; rintro e w' ⟨rfl, hww⟩; cases hww)
  go_loopw [20] (fun jv wr => ∃ n : Nat, n ≤ o.f.length ∧ jv = .int .i64 (n : Int) ∧ FlW w mb qb H.hb ss l roots k x o.f.length st n wr) (fun jv _ => o.f.length - (intOf jv).toNat)
  case atStart => exact ⟨0, Nat.zero_le _, rfl, ST.out⟩
  case round =>
    clear ST y0 GL2 x0 x3 f3 HB
    obtain ⟨n, hn, rfl, R1, left1, lv1, st1, m, g, cl, hlt1, hb⟩ := hrel
    have x0 := m.c0
    have x3 := m.c3
    have f3 := m.fz 3
    have hfw := g.few
    by_cases hnl : n < o.f.length
    · have hnl' : (n : Int) < (o.f.length : Int) := by omega
      obtain ⟨y, hy⟩ : ∃ y, o.f[n]? = some y := ⟨o.f[n], List.getElem?_eq_getElem hnl⟩
      have M1 := hidIt (m.steps ((st1 : Int) + 1))
      have BB := hidIt (hb.setCell (p := ⟨mb, 3, none⟩) m.lo (.int .i64 ((st1 : Int) + 1)))
      have y0 := M1.out.c0
      rw [show o.f.length - n = (o.f.length - (n + 1)) + 1 by omega] at g
      have g2 := g.num
      have hlen := g2.len
      have hfew := g2.few
      have GR2 := hidIt (GR.out _ BB.out n hnl)
      have GG2 := hidIt (GG.out _ BB.out n y hy)
      cases e1 : rb ss o.sh n with
      | false =>
        rw [e1] at GR2
        have NX : Hid (FlW w mb qb H.hb ss l roots k x o.f.length st (n + 1) (wr.setCell ⟨mb, 3, none⟩ (.int .i64 ((st1 : Int) + 1)))) := hidIt ⟨R1, left1, lv1, st1 + 1, by rw [show ((st1 + 1 : Nat) : Int) = (st1 : Int) + 1 by omega]; exact M1.out, g2, cl.step HO.out hy (fun h => by rw [e1] at h; cases h), by omega, BB.out⟩
        clear e1 g g2 cl m hb M1 BB GG2 GG GR hy
        go_wp2_with (first
          | (go_at_call 49; refine GR2.out.mono ?_; rintro e w' ⟨rfl, hww⟩; cases hww))
        exact ⟨⟨n + 1, by omega, by go_num, NX.out⟩, by simp [intOf]; omega⟩
      | true =>
        rw [e1] at GR2
        have hyo : y = 0 ∨ (objZ l y).isSome = true := HR.out _ o (objZ_at HO.out) n y hy e1
        have hy2 : y = 0 ∨ ((objZ l y).isSome = true ∧ Rch ss l roots y) := by
          by_cases e : y = 0
          · exact .inl e
          · exact .inr ⟨hyo.resolve_left e, .step HRX.out HO.out hy e1 e⟩
        have hyr : y = 0 ∨ (1 ≤ y ∧ y.toNat < R1.length) := hyo.imp id (fun h => by
          obtain ⟨o', ho'⟩ := Option.isSome_iff_exists.1 h
          have := objZ_in ho'
          omega)
        obtain ⟨g3, hm3⟩ := g2.reach hy2
        have GC : Hid (∀ wr', Below (wr.setCell ⟨mb, 3, none⟩ (.int .i64 ((st1 : Int) + 1))).heap.size (wr.setCell ⟨mb, 3, none⟩ (.int .i64 ((st1 : Int) + 1))) wr' → (Calls Try.prog 51 #[.pointer (some ⟨mb, 0, none⟩), .int .i64 y] wr' fun e w' => (∃ u, e = .returned u) ∧ FlW w mb qb H.hb ss l roots k x o.f.length st (n + 1) w') ∧ wr'.cell? ⟨mb, 0, none⟩ = some (.pointer (some ⟨H.hb, 0, none⟩))) := hidIt (fun wr' hb' => ⟨(greach_any (M1.out.below hb') y hyr (by omega) (by omega)).mono (fun e w' ⟨a, lv', b, c⟩ => ⟨a, _, _, lv', st1 + 1, by rw [show ((st1 + 1 : Nat) : Int) = (st1 : Int) + 1 by omega]; exact b, g3, (cl.mono (fun _ => reachR_mono)).step HO.out hy (fun _ => hm3), by omega, (BB.out.trans (hb'.mono BB.out.size)).trans c⟩), (M1.out.below hb').c0⟩)
        clear e1 g g2 g3 hm3 cl m hb M1 BB GG GR hy hyo hy2 hyr hlen
        go_wp2_with (first
          | (go_at_call 49; refine GR2.out.mono ?_; rintro e w' ⟨rfl, hww⟩; cases hww)
          | (go_at_call 67; refine GG2.out.mono ?_; rintro e w' ⟨rfl, hw3⟩; obtain ⟨gc, z0⟩ := GC.out _ hw3; have GC2 := hidIt gc; clear gc GC hw3)
          | (go_at_call 51; refine GC2.out.mono ?_; rintro e w' ⟨⟨u, rfl⟩, hq⟩; have HQ := hidIt hq; clear hq))
        exact ⟨⟨n + 1, by omega, by go_num, HQ.out⟩, by simp [intOf]; omega⟩
    · have hnl' : ¬ (n : Int) < (o.f.length : Int) := by omega
      obtain rfl : n = o.f.length := by omega
      rw [Nat.sub_self] at g
      have FIN : Hid (GmW w mb qb H.hb ss l roots k 0 0 (st + 1) wr) := hidIt ⟨R1, left1, lv1, st1, m, g.done (cl.all HO.out), by omega, hb⟩
      clear g cl m hb
      go_wp2_with fail
      go_end0
      exact ⟨⟨_, rfl⟩, FIN.out⟩
end Go.Proofs.Ytbdeflpjplhafaa.J

