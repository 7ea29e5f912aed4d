import Derived.Test.YthagaldpopnoeaaGreatDoorKnown
import Derived.Deep.RegionHeld3
import Derived.Deep.RegionLaw
import Derived.Deep.DrawnRows

/- Writer: numbers, texts and bytes are written behind one another. -/
namespace Go.Proofs.YthagaldpopnoeaaGreatDoor
open Go.RowKit

theorem eql_nil (w : World) (a : Option Addr) (l c : Nat) : (binOp .eql 22 (.slice a l c) (.slice none 0 0)).run Tryz.prog w = .ok (.bool a.isNone) w := by
  simp [binOp, run_equal_slice_nil w 22 5 a l c Tryz.underlying22]

theorem bcells_cell {w : World} {g off : Nat} {l : List Int} (h : Lies w g off l) (j : Nat) (u : Value) (hj : (bcells l)[j]? = some u) : w.cell? ((⟨g, off, none⟩ : Addr).add j) = some u := by
  have e : (⟨g, off, none⟩ : Addr).add j = ⟨g, off + j, none⟩ := by unfold Addr.add; split <;> simp_all
  rw [e]
  simp only [bcells, List.getElem?_map, Option.map_eq_some_iff] at hj
  obtain ⟨x, hx, rfl⟩ := hj
  exact h j x hx
theorem bcells_one (l : List Int) : ∀ u ∈ bcells l, u.oneCell' = true := by
  intro u hu
  simp only [bcells, List.mem_map] at hu
  obtain ⟨x, _, rfl⟩ := hu
  rfl
theorem bcells_len (l : List Int) : (bcells l).length = l.length := by simp [bcells]

set_option maxRecDepth 8000 in
set_option maxHeartbeats 800000 in
theorem clone_any (v : Value) (l : List Int) (w : World) (hv : View w v l) (hlen : l.length ≤ 140737488355328) :
    Calls Tryz.prog 64 #[v] w fun e w' => Below w.heap.size w w' ∧ ∃ v', e = .returned v' ∧ w'.ownsRow w.heap.size 5 1 v' l.length (bcells l) := by
  obtain ⟨i0, hi, hz0, hz1, hz2⟩ := info_parts Tryz.info5
  obtain ⟨ao, cap, rfl, hc, hm, hy, hl⟩ := hv
  cases ao with
  | none =>
    obtain rfl : l = [] := by
      rcases hl with h | ⟨g, off, h, _⟩
      · exact h
      · cases h
    have hq := eql_nil w none 0 cap
    go_enter Tryz.func64, Tryz.ntmps64
    go_wp2
    go_ret
    exact ⟨Below.refl _ _, _, rfl, World.ownsRow_nil _ _ _ _⟩
  | some a =>
    have hq := eql_nil w (some a) l.length cap
    have hown0 : (w.alloc (.cells #[] 5)).ownsRow w.heap.size 5 1 (.slice (some ⟨w.heap.size, 0, none⟩) 0 0) 0 [] := World.ownsRow_made w #[] 0 (Nat.le_refl _) (by unfold maxLen; omega) rfl
    have hcells : ∀ j u, (bcells l)[j]? = some u → (w.alloc (.cells #[] 5)).cell? (a.add j) = some u := by
      intro j u hj
      rcases hl with rfl | ⟨g, off, e, hl⟩
      · simp [bcells] at hj
      · cases e
        exact cell_later ((Below.refl _ w).alloc (Nat.le_refl _) _) (bcells_cell hl j u hj)
    go_enter Tryz.func64, Tryz.ntmps64
    go_wp2_with (at_builtin; refine wpList_append_own_at _ rfl _ _ 22 rfl w.heap.size 5 i0 (.int .u8 0) 1 1 Tryz.underlying22 hi hz0 hz1 hz2 rfl (by decide) _ _ _ rfl hown0 _ _ _ (bcells l) rfl (by simp [bcells]) hcells (bcells_one l) (by unfold maxLen; omega) (by omega) (by simp) ?_; intro v1 w1 ho1 hg1 _ hat1)
    go_wp2
    go_ret
    refine ⟨((Below.refl _ _).alloc (Nat.le_refl _) _).grown hg1 (by simp) (fun k h => (hown0.lt k h).1), _, rfl, ?_⟩
    simpa using ho1

/-- Every old block but pw and v's own row stands; the new row lies where v did or in new memory. -/
structure WStep (pw : Nat) (v : Value) (w : World) (v' : Value) (w' : World) : Prop where
  os : w'.os = w.os
  tape : w'.tape = w.tape
  output : w'.output = w.output
  size : w.heap.size ≤ w'.heap.size
  block : ∀ k, k < w.heap.size → k ≠ pw → some k ≠ v.ownBlock → w'.heap[k]? = w.heap[k]?
  moved : Moved w.heap.size v v'

theorem WStep.refl (pw : Nat) (v : Value) (w : World) : WStep pw v w v w := ⟨rfl, rfl, rfl, Nat.le_refl _, fun _ _ _ _ => rfl, .inl rfl⟩
theorem WStep.trans {pw : Nat} {v v1 v2 : Value} {w w1 w2 : World} (h : WStep pw v w v1 w1) (k : WStep pw v1 w1 v2 w2) : WStep pw v w v2 w2 := by
  refine ⟨k.os.trans h.os, k.tape.trans h.tape, k.output.trans h.output, Nat.le_trans h.size k.size, ?_, ?_⟩
  · intro i hi hp hne
    have h1 := h.block i hi hp hne
    rw [k.block i (Nat.lt_of_lt_of_le hi h.size) hp ?_, h1]
    rcases h.moved with e | ⟨g, e, hg⟩
    · rw [e]; exact hne
    · rw [e]; intro e2; cases e2; omega
  · rcases k.moved with e | ⟨g, e, hg⟩
    · rcases h.moved with e1 | ⟨g1, e1, hg1⟩
      · exact .inl (e.trans e1)
      · exact .inr ⟨g1, e.trans e1, hg1⟩
    · exact .inr ⟨g, e, Nat.le_trans h.size hg⟩
/-- What makes new memory alone, seen as a step of the writer's. -/
theorem WStep.of_below {pw : Nat} {v : Value} {w w' : World} (h : Below w.heap.size w w') : WStep pw v w v w' :=
  ⟨h.os, h.tape, h.output, h.size, fun k hk _ _ => h.block k hk, .inl rfl⟩

/-- A writer at block pw that has written l; its row is v. -/
structure IsW (B pw : Nat) (w : World) (v : Value) (l : List Int) : Prop where
  at_ : w.heap[pw]? = some (.cells #[v] 137 (0, 0))
  own : w.ownsRow B 5 1 v l.length (bcells l)

theorem IsW.ne {B pw : Nat} {w : World} {v : Value} {l : List Int} (h : IsW B pw w v l) : some pw ≠ v.ownBlock := by
  intro e1
  rcases h.own.2 with ⟨rfl, _⟩ | ⟨g, cap, cur, rfl, _, hg, _⟩
  · simp [Value.ownBlock] at e1
  · simp [Value.ownBlock] at e1
    subst e1
    rw [h.at_] at hg
    simp at hg
theorem IsW.below {B pw : Nat} {w w' : World} {v : Value} {l : List Int} (h : IsW B pw w v l) (hb : Below w.heap.size w w') : IsW B pw w' v l := by
  have hlt : pw < w.heap.size := (Array.getElem?_eq_some_iff.1 h.at_).1
  refine ⟨(hb.block pw hlt).trans h.at_, h.own.1, ?_⟩
  rcases h.own.2 with h2 | ⟨g, cap, cur, e, hB, hg, r⟩
  · exact .inl h2
  · exact .inr ⟨g, cap, cur, e, hB, (hb.block g (Array.getElem?_eq_some_iff.1 hg).1).trans hg, r⟩
theorem IsW.cell {B pw : Nat} {w : World} {v : Value} {l : List Int} (h : IsW B pw w v l) : w.cell? ⟨pw, 0, none⟩ = some v := by
  rw [cell_of_row w pw 0 #[v] 137 (0, 0) h.at_]; rfl
theorem IsW.lt {B pw : Nat} {w : World} {v : Value} {l : List Int} (h : IsW B pw w v l) : pw < w.heap.size := (Array.getElem?_eq_some_iff.1 h.at_).1
theorem frozen_row {w : World} {b : Nat} {cs : Array Value} {T : TypeId} (hb : w.heap[b]? = some (.cells cs T (0, 0))) (j : Nat) : w.frozen? ⟨b, j, none⟩ = false := by
  simp [World.frozen?, hb]

/-- What the writer's row and its block are behind an append and the store. -/
theorem IsW.put {B pw : Nat} {w w1 : World} {v v1 : Value} {l l1 : List Int} (h : IsW B pw w v l) (hst : Step v w v1 w1) (ho : w1.ownsRow B 5 1 v1 l1.length (bcells l1)) :
    IsW B pw (w1.setCell ⟨pw, 0, none⟩ v1) v1 l1 ∧ WStep pw v w v1 (w1.setCell ⟨pw, 0, none⟩ v1) := by
  have hp1 : w1.heap[pw]? = some (.cells #[v] 137 (0, 0)) := (hst.grown.block pw h.lt h.ne).trans h.at_
  have hne1 : v1.ownBlock ≠ some pw := by
    intro e
    rcases ho.2 with ⟨rfl, _⟩ | ⟨g, cap, cur, rfl, _, hg, _⟩
    · simp [Value.ownBlock] at e
    · simp [Value.ownBlock] at e
      subst e
      rw [hp1] at hg; simp at hg
  refine ⟨⟨?_, ho.1, ?_⟩, hst.grown.os, hst.grown.tape, hst.grown.output, ?_, ?_, hst.moved⟩
  · simp only [World.setCell, Array.getElem?_modify, if_pos, hp1, Option.map_some]
    simp
  · rcases ho.2 with h2 | ⟨g, cap, cur, e, hB, hg, r⟩
    · exact .inl h2
    · refine .inr ⟨g, cap, cur, e, hB, ?_, r⟩
      rw [Below.heap_setCell _ _ _ _ (fun e2 => hne1 (by rw [e]; simp [Value.ownBlock, e2]))]; exact hg
  · have := hst.grown.size; simpa [World.setCell] using this
  · intro k hk hkp hkv
    rw [Below.heap_setCell _ _ _ _ hkp]; exact hst.grown.block k hk hkv

set_option maxRecDepth 8000 in
set_option maxHeartbeats 400000 in
theorem width_any (n : Int) (w : World) :
    Calls Tryz.prog 155 #[.int .i64 n] w fun e w' => e = .returned (.int .i64 (min (max n 1) 8)) ∧ w' = w := by
  go_enter Tryz.func155, Tryz.ntmps155
  go_wp2
  go_ret
  exact ⟨rfl, rfl⟩

end Go.Proofs.YthagaldpopnoeaaGreatDoor

/- Writer.Number writes the lowest bytes of a number, the highest first. -/
namespace Go.Proofs.YthagaldpopnoeaaGreatDoor
open Go.RowKit
attribute [local go_sem ↓] Go.wp_at_zero Go.wp_at_succ

/-- The lowest k bytes of n, the highest first. -/
def be (n : Int) : Nat → List Int
  | 0 => []
  | k + 1 => (n / 2 ^ (8 * k) % 256) :: be n k
theorem be_len (n : Int) : ∀ k, (be n k).length = k
  | 0 => rfl
  | k + 1 => by simp [be, be_len n k]

theorem wraps_small (n : Int) (h0 : 0 ≤ n) (h1 : n ≤ 9223372036854775807) : IntKind.i64.wrap n = n := by rw [IntKind.wrap_i64]; omega
theorem run_shr (w : World) (n : Int) (k : Nat) (hk : k ≤ 7) : (Op.shift .shr .i64 n .i64 (8 * (k : Int))).run Tryz.prog w = .ok (.int .i64 (n / 2 ^ (8 * k))) w := by
  have h1 : ¬ (8 * (k : Int) < 0) := by omega
  have h2 : min (8 * (k : Int)).toNat IntKind.i64.bits = 8 * k := by simp [IntKind.bits]; omega
  have h3 : (0 : Int) ≤ 2 ^ (8 * k) := Int.pow_nonneg (by decide)
  simp only [Op.shift, if_neg h1, h2, Sem.run_pure, Int.fdiv_eq_ediv_of_nonneg _ h3]

/-- Behind one byte that is appended and stored. -/
theorem put_one {B pw : Nat} {wr w1 : World} {v : Value} {l : List Int} {x : Int} {g cap n : Nat} (hI : IsW B pw wr v l) (hn : n = l.length + 1)
    (hown : w1.ownsRow B 5 1 (.slice (some ⟨g, 0, none⟩) (l.length + 1) cap) (l.length + 1) (bcells l ++ #[Value.int .u8 x].toList))
    (hgrow : (wr.alloc (.cells #[.int .u8 x] 5)).drew.grownBy w1 v.ownBlock) (hat : v.ownBlock = some g ∨ g = (wr.alloc (.cells #[.int .u8 x] 5)).drew.heap.size) :
    IsW B pw (w1.setCell ⟨pw, 0, none⟩ (.slice (some ⟨g, 0, none⟩) n cap)) (.slice (some ⟨g, 0, none⟩) n cap) (l ++ [x]) ∧ WStep pw v wr (.slice (some ⟨g, 0, none⟩) n cap) (w1.setCell ⟨pw, 0, none⟩ (.slice (some ⟨g, 0, none⟩) n cap)) := by
  subst hn
  refine hI.put (v1 := .slice (some ⟨g, 0, none⟩) (l.length + 1) cap) (Step.before_alloc (o := .cells #[.int .u8 x] 5) (Step.before_drew ⟨hgrow, ?_⟩)) ?_
  · rcases hat with h | h
    · exact .inl h.symm
    · exact .inr ⟨g, rfl, by rw [h]; exact Nat.le_refl _⟩
  · rw [List.length_append, bcells_append]; exact hown

set_option maxRecDepth 8000 in
set_option maxHeartbeats 2000000 in
theorem wnum_any (B pw : Nat) (v0 : Value) (l : List Int) (n bytes : Int) (w : World) (h : IsW B pw w v0 l) (hB : B ≤ w.heap.size) (hlen : l.length ≤ 1099511627776) :
    Calls Tryz.prog 130 #[.pointer (some ⟨pw, 0, none⟩), .int .i64 n, .int .i64 bytes] w fun e w' => e = .returned (.tuple #[]) ∧ ∃ v, IsW B pw w' v (l ++ be n (min (max bytes 1) 8).toNat) ∧ WStep pw v0 w v w' := by
  obtain ⟨i0, hi, hz0, hz1, hz2⟩ := info_parts Tryz.info5
  obtain ⟨wd, hwd⟩ : ∃ wd : Nat, min (max bytes 1) 8 = (wd : Int) := ⟨(min (max bytes 1) 8).toNat, by omega⟩
  have hw8 : wd ≤ 8 := by omega
  have hw1 : 1 ≤ wd := by omega
  rw [hwd, Int.toNat_natCast]
  have hwid : Calls Tryz.prog 155 #[.int .i64 bytes] w fun e w' => e = .returned (.int .i64 (wd : Int)) ∧ w' = w := by
    have := width_any bytes w
    rwa [hwd] at this
  clear hwd
  go_enter Tryz.func130, Tryz.ntmps130
  go_wp2_with (go_at_call 155; refine hwid.mono ?_; rintro e w' ⟨rfl, hww⟩; cases hww)
  clear hwid
  go_loopw [6] (fun i wr => ∃ (j : Nat) (acc : List Int) (v : Value), i = .int .i64 ((j : Int) - 1) ∧ IsW B pw wr v (l ++ acc) ∧ WStep pw v0 w v wr ∧ acc ++ be n j = be n wd ∧ j ≤ 8) (fun i _ => (intOf i + 1).toNat)
  case atStart => exact ⟨wd, [], v0, rfl, by simpa using h, WStep.refl _ _ _, rfl, hw8⟩
  case round =>
    obtain ⟨j, acc, v, rfl, hI, hst, hacc, hj8⟩ := hrel
    have HA := hidIt hacc
    clear hacc h
    match j, HA, hj8 with
    | 0, HA, hj8 =>
      go_wp2
      go_end0
      refine ⟨rfl, v, ?_, hst⟩
      have := HA.out
      simp only [be, List.append_nil] at this
      rw [← this]; exact hI
    | k + 1, HA, hj8 =>
      have hc := hI.cell
      have hk0 : (0 : Int) ≤ (k : Int) := by omega
      have hk8 : (k : Int) ≤ 7 := by omega
      rw [show (((k + 1 : Nat) : Int) - 1) = (k : Int) by omega]
      have hf := frozen_row hI.at_ 0
      have hplt := hI.lt
      have hpne := hI.ne
      have hc2 : ∀ o, (wr.alloc o).cell? ⟨pw, 0, none⟩ = some v := fun o => cell_later ((Below.refl _ wr).alloc (Nat.le_refl _) o) hc
      have hf2 : ∀ o, (wr.alloc o).frozen? ⟨pw, 0, none⟩ = false := fun o => (((Below.refl wr.heap.size wr).alloc (Nat.le_refl _) o).frozen (p := ⟨pw, 0, none⟩) hplt).trans hf
      have hsz := hst.size
      have hal : (l ++ acc).length ≤ l.length + 8 := by
        have := congrArg List.length HA.out
        rw [List.length_append, be_len, be_len] at this
        rw [List.length_append]; omega
      have hwk : IntKind.i64.wrap (8 * (k : Int)) = 8 * (k : Int) := wraps_small _ (by omega) (by omega)
      have hsh : ∀ wx, (Op.shift .shr .i64 n .i64 (8 * (k : Int))).run Tryz.prog wx = .ok (.int .i64 (n / 2 ^ (8 * k))) wx := fun wx => run_shr wx n k (by omega)
      go_wp2
      go_region_law ((refine step_append_lies _ (by rfl) _ _ _ (by rfl) B 5 i0 (.int .u8 0) 1 1 Tryz.underlying22 hi hz0 hz1 hz2 rfl (by omega) v _ _ (by rfl) (hI.own.alloc _) _ 1 1 _ (by rfl) rfl (World.news_of_block (heap_alloc_new _ _)) (by intro u hu; simp at hu; subst hu; rfl) (by omega) (by unfold maxLen; omega) (by omega) (by simp; omega) _ rfl ?_; intro g cap w1 hown1 hgrow hat hlt; have hc3 := (World.cell?_of_block (a := ⟨pw, 0, none⟩) (hgrow.block pw (Nat.lt_trans hplt (by simp)) hpne)).trans (hc2 _); have hf3 := (World.frozen?_of_block (a := ⟨pw, 0, none⟩) (hgrow.block pw (Nat.lt_trans hplt (by simp)) hpne)).trans (hf2 _)))
      all_goals
        have hx : IntKind.u8.wrap (n / 2 ^ (8 * (k : Int)).toNat) = n / 2 ^ (8 * k) % 256 := by
          rw [IntKind.wrap_u8, show (8 * (k : Int)).toNat = 8 * k by omega]
        rw [hx] at hown1 hgrow hat
        have HP := hidIt (put_one hI (n := l.length + acc.length + 1) (by rw [List.length_append]) hown1 hgrow hat)
        clear hown1 hgrow hat hc hf hc2 hf2 hc3 hf3 hpne hx
        go_wp2
        go_roundw
        case rel =>
          refine ⟨k, acc ++ [n / 2 ^ (8 * k) % 256], _, rfl, ?_, hst.trans HP.out.2, ?_, by omega⟩
          · rw [← List.append_assoc]; exact HP.out.1
          · rw [List.append_assoc]; exact HA.out
        case measure => simp [intOf]
end Go.Proofs.YthagaldpopnoeaaGreatDoor

/- Writer.Bytes, Writer.Text, Writer.Done, NewWriter. -/
namespace Go.Proofs.YthagaldpopnoeaaGreatDoor
open Go.RowKit

/-- append(v, b...) onto a row that is owned, of whatever bytes. -/
theorem run_append_view (w : World) (ty : TypeId) (B : Nat) (v vb : Value) (n : Nat) (xs : List Value) (lb : List Int) (hown : w.ownsRow B 5 1 v n xs) (hv : View w vb lb) (hlen : n + lb.length ≤ 140737488355328) (hB : B ≤ w.heap.size) :
    ∃ v' w', (Builtin.append_ #[22, 22] ty #[v, vb]).run Tryz.prog w = .ok v' w' ∧ w'.ownsRow B 5 1 v' (n + lb.length) (xs ++ bcells lb) ∧ Step v w v' w' := by
  obtain ⟨i0, hi, hz0, hz1, hz2⟩ := info_parts Tryz.info5
  obtain ⟨ao, cap, rfl, hc, hm, hy, hl⟩ := hv
  rcases hl with rfl | ⟨g, off, rfl, hl⟩
  · refine ⟨v, w, ?_, by simpa [bcells] using hown, Step.refl _ _⟩
    rcases hown.2 with ⟨rfl, rfl⟩ | ⟨g, cap, cur, rfl, hbg, hg, hnc, hcm, hcs, htake⟩
    · cases ao <;> simp [Builtin.append_, run_underlying Tryz.underlying22, sizeOf, typeInfo, hi, Builtin.lenOf, Builtin.firstCells, loadCells, loadCellsFrom]
    · cases ao <;> simp [Builtin.append_, run_underlying Tryz.underlying22, sizeOf, typeInfo, hi, Builtin.lenOf, Builtin.firstCells, loadCells, loadCellsFrom, hnc, storeCells]
  · obtain ⟨v', w', hr, ho, hg, _, hat⟩ := run_append_own_at (P := Tryz.prog) w B 22 ty 5 i0 (.int .u8 0) 1 1 Tryz.underlying22 hi hz0 hz1 hz2 rfl (by decide) v n xs hown ⟨g, off, none⟩ lb.length cap (bcells lb) (by simp [bcells]) (fun j u hj => bcells_cell hl j u hj) (bcells_one lb) (by unfold maxLen; omega) (by omega) hB
    exact ⟨v', w', hr, ho, Step.of_at hg hat⟩

theorem wpList_append_view {w : World} {ops : Array Oper} {rest : List Oper} {o : Oper} {a : Act} {Q : Exit → Act → World → Prop} (hgd : o.guard = none) (s x : Operand)
    (ho : o.op = .call { callee := .builtin .append, args := #[s, x], argTypes := #[22, 22] })
    (B : Nat) (v vb : Value) (n : Nat) (xs : List Value) (lb : List Int) (hs : a.eval s = v) (hown : w.ownsRow B 5 1 v n xs) (hx : a.eval x = vb) (hv : View w vb lb)
    (hlen : n + lb.length ≤ 140737488355328) (hB : B ≤ w.heap.size)
    (h : ∀ v' w', w'.ownsRow B 5 1 v' (n + lb.length) (xs ++ bcells lb) → Step v w v' w' → wpList Tryz.prog ops Q rest (a.put o.dst v') w') :
    wpList Tryz.prog ops Q (o :: rest) a w := by
  refine wpList_plain hgd fun K hK => ?_
  obtain ⟨v', w', hr, h2, h3⟩ := run_append_view w o.type B v vb n xs lb hown hv hlen hB
  unfold Oper.wp execOp
  simp only [ho, resolve, invoke, builtin, Sem.run_bind, Sem.run_pure, Result.andThen_ok, List.map_toArray, List.map_cons, List.map_nil, hs, hx, hr]
  exact hK _ _ (h v' w' h2 h3)

theorem own_slice {w : World} {B n : Nat} {v : Value} {xs : List Value} (h : w.ownsRow B 5 1 v n xs) : ∃ ao cap, v = .slice ao n cap := by
  rcases h.2 with ⟨rfl, rfl⟩ | ⟨g, cap, cur, rfl, _⟩
  · exact ⟨_, _, rfl⟩
  · exact ⟨_, _, rfl⟩
theorem own_wstep {pw Bb n : Nat} {v v' u : Value} {w w' : World} {xs : List Value} (h : WStep pw v w v' w') (ho : w.ownsRow Bb 5 1 u n xs) (hp : u.ownBlock ≠ some pw) (hv : u.ownBlock = none ∨ u.ownBlock ≠ v.ownBlock) : w'.ownsRow Bb 5 1 u n xs := by
  refine ⟨ho.1, ?_⟩
  rcases ho.2 with h2 | ⟨g, cap, cur, rfl, hB, hg, r⟩
  · exact .inl h2
  · refine .inr ⟨g, cap, cur, rfl, hB, ?_, r⟩
    rw [h.block g (Array.getElem?_eq_some_iff.1 hg).1 (fun e => hp (by simp [Value.ownBlock, e])) ?_]
    · exact hg
    · rcases hv with hv | hv
      · simp [Value.ownBlock] at hv
      · exact hv

theorem be_bytes (n : Int) : ∀ k, AllBytes (be n k)
  | 0 => fun x hx => by simp [be] at hx
  | k + 1 => fun x hx => by
    rcases List.mem_cons.1 hx with rfl | h
    · omega
    · exact be_bytes n k x h
theorem mcode_bytes (r : Int) (h0 : 0 ≤ r) (h1 : r ≤ 1114111) : AllBytes (mcode r) := by
  intro x hx
  unfold mcode at hx
  split at hx
  · simp at hx; omega
  · split at hx
    · simp at hx; omega
    · split at hx
      · simp at hx; omega
      · simp at hx; omega
theorem AllBytes.append {a b : List Int} (ha : AllBytes a) (hb : AllBytes b) : AllBytes (a ++ b) := fun x hx => by
  rcases List.mem_append.1 hx with h | h
  · exact ha x h
  · exact hb x h
theorem AllBytes.nil : AllBytes [] := fun x hx => by simp at hx
theorem encFrom_bytes (s : ByteArray) : ∀ f pos, AllBytes (encFrom s f pos)
  | 0, _ => AllBytes.nil
  | f + 1, pos => by
    unfold encFrom
    split
    · exact (mcode_bytes _ (by omega) (by have := decode_rune s pos; omega)).append (encFrom_bytes s f _)
    · exact AllBytes.nil
theorem encZ_bytes (s : ByteArray) : AllBytes (encZ s) := encFrom_bytes s _ _

theorem newW_any (w : World) : Calls Tryz.prog 41 #[] w fun e w' => e = .returned (.pointer (some ⟨w.heap.size, 0, none⟩)) ∧ w' = w.alloc (.cells #[.slice none 0 0] 137) := by
  go_enter Tryz.func41, Tryz.ntmps41
  go_wp2
  go_ret
  exact ⟨rfl, rfl⟩
theorem newW_is (w : World) (B : Nat) : IsW B w.heap.size (w.alloc (.cells #[.slice none 0 0] 137)) (.slice none 0 0) [] :=
  ⟨heap_alloc_new w _, World.ownsRow_nil _ _ _ _⟩

set_option maxRecDepth 8000 in
set_option maxHeartbeats 2000000 in
theorem wbytes_any (B pw : Nat) (v0 vb : Value) (l lb : List Int) (w : World) (h : IsW B pw w v0 l) (hv : View w vb lb) (hB : B ≤ w.heap.size) (hlen : l.length + lb.length ≤ 140737488355328) :
    Calls Tryz.prog 88 #[.pointer (some ⟨pw, 0, none⟩), vb] w fun e w' => e = .returned (.tuple #[]) ∧ ∃ v, IsW B pw w' v (l ++ lb) ∧ WStep pw v0 w v w' := by
  have hc := h.cell
  have hplt := h.lt
  have hpne := h.ne
  have hf := frozen_row h.at_ 0
  go_enter Tryz.func88, Tryz.ntmps88
  go_wp2_with (at_builtin; refine wpList_append_view rfl _ _ rfl B v0 vb _ _ lb rfl h.own rfl hv (by omega) hB ?_; intro v1 w1 ho1 hst1; obtain ⟨ao1, cap1, rfl⟩ := own_slice ho1; have hc1 := (World.cell?_of_block (a := ⟨pw, 0, none⟩) (hst1.grown.block pw hplt hpne)).trans hc; have hf1 := (World.frozen?_of_block (a := ⟨pw, 0, none⟩) (hst1.grown.block pw hplt hpne)).trans hf)
  go_end0
  have := h.put (l1 := l ++ lb) hst1 (by rw [List.length_append, bcells_append]; exact ho1)
  exact ⟨rfl, _, this.1, this.2⟩

set_option maxRecDepth 8000 in
set_option maxHeartbeats 2000000 in
theorem done_any (B pw : Nat) (v0 : Value) (l : List Int) (w : World) (h : IsW B pw w v0 l) (hb : AllBytes l) (hlen : l.length ≤ 140737488355328) :
    Calls Tryz.prog 43 #[.pointer (some ⟨pw, 0, none⟩)] w fun e w' => Below w.heap.size w w' ∧ ∃ v', e = .returned v' ∧ w'.ownsRow w.heap.size 5 1 v' l.length (bcells l) := by
  have hc := h.cell
  have hV := View.of_own h.own hb
  go_enter Tryz.func43, Tryz.ntmps43
  go_wp2_with (go_at_call 64; refine (clone_any _ l _ hV hlen).mono ?_; rintro e w1 ⟨b1, v1, rfl, o1⟩)
  go_ret
  exact ⟨b1, _, rfl, o1⟩
end Go.Proofs.YthagaldpopnoeaaGreatDoor

/- Writer.Text writes how many bytes a text has when it is encoded, and these; of one that may not be: 0 and nothing. -/
namespace Go.Proofs.YthagaldpopnoeaaGreatDoor
open Go.RowKit

/-- What Writer.Text writes. -/
def wtextZ (s : ByteArray) : List Int := if Lib.validD s.data.toList = true ∧ (encZ s).length ≤ 256 then be ((encZ s).length : Nat) 2 ++ encZ s else be 0 2

theorem wtextZ_len (s : ByteArray) : (wtextZ s).length ≤ 258 := by
  unfold wtextZ
  split
  · rw [List.length_append, be_len]; omega
  · rw [be_len]; omega
theorem wtextZ_bytes (s : ByteArray) : AllBytes (wtextZ s) := by
  unfold wtextZ
  split
  · exact (be_bytes _ _).append (encZ_bytes s)
  · exact be_bytes _ _

theorem View.empty (w : World) : View w (.slice none 0 0) [] := ⟨none, 0, rfl, Nat.le_refl _, by unfold maxLen; omega, AllBytes.nil, .inl rfl⟩

/-- Number of two bytes and then bytes: what both ways of Text end in. -/
theorem wnum2 (B pw : Nat) (v0 : Value) (l : List Int) (n : Int) (w : World) (h : IsW B pw w v0 l) (hB : B ≤ w.heap.size) (hlen : l.length ≤ 1099511627776) :
    Calls Tryz.prog 130 #[.pointer (some ⟨pw, 0, none⟩), .int .i64 n, .int .i64 2] w fun e w' => e = .returned (.tuple #[]) ∧ ∃ v, IsW B pw w' v (l ++ be n 2) ∧ WStep pw v0 w v w' := by
  have := wnum_any B pw v0 l n 2 w h hB hlen
  rwa [show (min (max (2 : Int) 1) 8).toNat = 2 by decide] at this

set_option maxRecDepth 8000 in
set_option maxHeartbeats 2000000 in
theorem wtext_any (B pw : Nat) (v0 : Value) (l : List Int) (s : ByteArray) (w : World) (h : IsW B pw w v0 l) (hB : B ≤ w.heap.size) (hlen : l.length ≤ 549755813888) (hT : Tabs w) (hs : s.size ≤ 17179869184) :
    Calls Tryz.prog 90 #[.pointer (some ⟨pw, 0, none⟩), .string s] w fun e w' => e = .returned (.tuple #[]) ∧ ∃ v, IsW B pw w' v (l ++ wtextZ s) ∧ WStep pw v0 w v w' := by
  cases hv : Lib.validD s.data.toList with
  | false =>
    have hz : wtextZ s = be 0 2 := by unfold wtextZ; rw [if_neg (by simp [hv])]
    rw [hz]
    have HE := hidIt (encode_no s w hT (by omega) hv)
    clear hv hz
    go_enter Tryz.func90, Tryz.ntmps90
    go_wp2_with fail
    refine HE.out.mono ?_
    rintro e w1 ⟨rfl, b1⟩
    have h1 := h.below b1
    have hs1 := b1.size
    go_wp2_with fail
    refine (wnum2 B pw v0 l 0 w1 h1 (by omega) (by omega)).mono ?_
    rintro e w2 ⟨rfl, v2, h2, st2⟩
    have hs2 := st2.size
    go_wp2_with fail
    refine (wbytes_any B pw v2 _ _ [] w2 h2 (View.empty w2) (by omega) (by rw [List.length_append, be_len]; simp; omega)).mono ?_
    rintro e w3 ⟨rfl, v3, h3, st3⟩
    go_wp2
    go_end0
    refine ⟨rfl, v3, by simpa using h3, (WStep.of_below b1).trans (st2.trans st3)⟩
  | true =>
    have HE := hidIt (encode_yes s w hT (by omega) hv)
    have hel := encFrom_len s s.size 0
    have hby := encZ_bytes s
    by_cases h256 : (encZ s).length ≤ 256
    · have hz : wtextZ s = be ((encZ s).length : Nat) 2 ++ encZ s := by unfold wtextZ; rw [if_pos ⟨hv, h256⟩]
      rw [hz]
      clear hv hz hel
      generalize encZ s = E at *
      generalize hE : E.length = n at *
      have hn : (n : Int) ≤ 256 := by omega
      go_enter Tryz.func90, Tryz.ntmps90
      go_wp2_with fail
      refine HE.out.mono ?_
      rintro e w1 ⟨b1, ve, rfl, oe⟩
      have h1 := h.below b1
      have hs1 := b1.size
      obtain ⟨aoe, cape, rfl⟩ := own_slice oe
      have hoe := oe.lt
      go_wp2_with fail
      refine (wnum2 B pw v0 l (n : Int) w1 h1 (by omega) (by omega)).mono ?_
      rintro e w2 ⟨rfl, v2, h2, st2⟩
      have hs2 := st2.size
      have hpl := h.lt
      have oe2 := own_wstep st2 oe (fun e => by have := hoe pw e; omega) (by
        cases hx : Value.ownBlock (.slice aoe n cape) with
        | none => exact .inl rfl
        | some k =>
          right
          intro e
          have a1 := hoe k hx
          have a2 := h.own.lt k e.symm
          omega)
      have hV := View.of_own (l := E) (by rw [hE]; exact oe2) hby
      go_wp2_with fail
      refine (wbytes_any B pw v2 _ _ E w2 h2 hV (by omega) (by rw [List.length_append, be_len]; omega)).mono ?_
      rintro e w3 ⟨rfl, v3, h3, st3⟩
      go_wp2
      go_end0
      refine ⟨rfl, v3, by simpa using h3, (WStep.of_below b1).trans (st2.trans st3)⟩
    · have hz : wtextZ s = be 0 2 := by unfold wtextZ; rw [if_neg (fun h => h256 h.2)]
      rw [hz]
      clear hv hz
      generalize encZ s = E at *
      generalize hE : E.length = n at *
      have hn : (256 : Int) < (n : Int) := by omega
      go_enter Tryz.func90, Tryz.ntmps90
      go_wp2_with fail
      refine HE.out.mono ?_
      rintro e w1 ⟨b1, ve, rfl, oe⟩
      have h1 := h.below b1
      have hs1 := b1.size
      obtain ⟨aoe, cape, rfl⟩ := own_slice oe
      go_wp2_with fail
      refine (wnum2 B pw v0 l 0 w1 h1 (by omega) (by omega)).mono ?_
      rintro e w2 ⟨rfl, v2, h2, st2⟩
      have hs2 := st2.size
      go_wp2_with fail
      refine (wbytes_any B pw v2 _ _ [] w2 h2 (View.empty w2) (by omega) (by rw [List.length_append, be_len]; simp; omega)).mono ?_
      rintro e w3 ⟨rfl, v3, h3, st3⟩
      go_wp2
      go_end0
      refine ⟨rfl, v3, by simpa using h3, (WStep.of_below b1).trans (st2.trans st3)⟩
end Go.Proofs.YthagaldpopnoeaaGreatDoor
