/- Texts MD MP W RO. -/
import Derived.Test.YtbmfkbgncjldjaaBv07
import Derived.Test.YtbmfkbgncjldjaaBv01
import Derived.Test.YtbmfkbgncjldjaaBv02
import Derived.Deep.RegionHeld3
import Derived.Deep.RegionWith
import Derived.BigQuiet
import Derived.Deep.QuietTactic
namespace Go.Proofs.Ytbmfkbgncjldjaa.M
open Go.RowKit

theorem lit_after {pr : Nat} {w w' : World} {o : Obj} (ho : OnlyB pr (w.alloc o) w') (hpr : pr < w.heap.size) : w'.heap[w.heap.size]? = some o :=
  (ho _ (by omega)).trans (heap_alloc_new w o)
theorem lit_int {w : World} {g x : Nat} {l : List Int} {T : TypeId} {k : IntKind} (h : w.heap[g]? = some (.cells (l.map (Value.int k)).toArray T (0, 0))) (hx : x < l.length) : ∃ v : Int, w.cell? ⟨g, x, none⟩ = some (.int k v) ∧ v ∈ l :=
  ⟨l[x], cell_row h x (by simp [hx]), List.getElem_mem hx⟩
theorem lit_str {w : World} {g x : Nat} {l : List ByteArray} {T : TypeId} (h : w.heap[g]? = some (.cells (l.map Value.string).toArray T (0, 0))) (hx : x < l.length) : ∃ v : ByteArray, w.cell? ⟨g, x, none⟩ = some (.string v) ∧ v ∈ l :=
  ⟨l[x], cell_row h x (by simp [hx]), List.getElem_mem hx⟩
def cInt (n : Int) : CD := ⟨3, n, ⟨#[]⟩, ⟨#[]⟩, ⟨#[]⟩⟩
def cFld (a b c : ByteArray) : CD := ⟨9, 0, a, b, c⟩
def cMet (a b c : ByteArray) : CD := ⟨10, 0, a, b, c⟩
def cCls (a : ByteArray) : CD := ⟨7, 0, a, ⟨#[]⟩, ⟨#[]⟩⟩
theorem cok3 {k n : Int} {a b c : ByteArray} (h0 : -2147483648 ≤ n) (h1 : n ≤ 2147483647) (z1 : a.size ≤ 1000000) (z2 : b.size ≤ 1000000) (z3 : c.size ≤ 1000000) : COk ⟨k, n, a, b, c⟩ :=
  ⟨⟨⟨by show a.size ≤ _; omega, by show b.size ≤ _; omega, by show c.size ≤ _; omega⟩, h0, h1⟩, ⟨by show a.size ≤ _; omega, by show b.size ≤ _; omega, by show c.size ≤ _; omega⟩⟩
theorem sz0 : (⟨#[]⟩ : ByteArray).size ≤ 1000000 := (show (0 : Nat) ≤ 1000000 by omega)
theorem take_int (B pr pm n d : Nat) (pl : Bool) (σ : SG) (K : Int) (w : World) (h : Mk B pr pm n d pl σ w) (h0 : 0 < K) (h1 : K ≤ 100000) :
    Calls Try.prog 69 #[.pointer (some ⟨pr, 0, none⟩), .int .i64 K] w fun e w' => (∃ x : Nat, (x : Int) < K ∧ e = .returned (.int .i64 (x : Int))) ∧ Mk B pr pm n d pl σ w' ∧ Kq B pr w w' ∧ OnlyB pr w w' := by
  obtain ⟨k, rfl⟩ := Int.eq_ofNat_of_zero_le (Int.le_of_lt h0)
  refine (take_any B pr pm n d pl σ k w h (by omega) (by omega)).mono fun e w' ⟨⟨x, hx, he⟩, h2⟩ => ⟨⟨x, by omega, he⟩, h2⟩
theorem Mk.pr_lt {B pr pm n d : Nat} {pl : Bool} {σ : SG} {w : World} (h : Mk B pr pm n d pl σ w) : pr < w.heap.size := by
  obtain ⟨s, hp, -⟩ := h
  have := hp.lt
  have := hp.hpr
  omega
theorem Mk.pm_lt {B pr pm n d : Nat} {pl : Bool} {σ : SG} {w : World} (h : Mk B pr pm n d pl σ w) : pm < w.heap.size := by
  obtain ⟨s, hp, -⟩ := h
  exact hp.lt.1
theorem Mk.read {B pr pm n d : Nat} {pl : Bool} {σ : SG} {w : World} (h : Mk B pr pm n d pl σ w) : w.cell? ⟨pm, 0, none⟩ = some (.pointer (some ⟨pr, 0, none⟩)) ∧ w.cell? ⟨pm, 3, none⟩ = some (.int .i64 (σ.labels : Int)) ∧ w.cell? ⟨pm, 4, none⟩ = some (.bool pl) ∧ w.cell? ⟨pm, 5, none⟩ = some (.int .i64 σ.left) ∧ w.cell? ⟨pm, 6, none⟩ = some (.int .i64 (d : Int)) ∧ σ.labels ≤ n ∧ σ.left ≤ 110 := by
  obtain ⟨s, hp, hb, rfl⟩ := h
  obtain ⟨c0, -, -, c3, c4, c5, c6⟩ := kcells hp.blk
  rw [hb.pln] at c4
  rw [hb.dep] at c6
  exact ⟨c0, c3, c4, c5, c6, hb.lb, hb.l1⟩
theorem Mk.read2 {B pr pm n d : Nat} {pl : Bool} {σ : SG} {w : World} (h : Mk B pr pm n d pl σ w) : w.cell? ⟨pm, 0, none⟩ = some (.pointer (some ⟨pr, 0, none⟩)) ∧ w.cell? ⟨pm, 3, none⟩ = some (.int .i64 (σ.labels : Int)) ∧ w.cell? ⟨pm, 4, none⟩ = some (.bool pl) ∧ w.cell? ⟨pm, 5, none⟩ = some (.int .i64 σ.left) ∧ w.cell? ⟨pm, 6, none⟩ = some (.int .i64 (d : Int)) ∧ σ.labels ≤ n ∧ σ.left ≤ 110 ∧ pr < w.heap.size ∧ pm < w.heap.size := by
  obtain ⟨c0, c3, c4, c5, c6, hL, hl⟩ := h.read
  exact ⟨c0, c3, c4, c5, c6, hL, hl, h.pr_lt, h.pm_lt⟩
theorem constI_any (B pr pm n d : Nat) (pl : Bool) (σ : SG) (N : Int) (w : World) (h : Mk B pr pm n d pl σ w) (hn : n ≤ 900000) (h0 : -2147483648 ≤ N) (h1 : N ≤ 2147483647) :
    Calls Try.prog 99 #[.pointer (some ⟨pm, 0, none⟩), .agg #[.int .i64 3, .int .i32 N, .string ⟨#[]⟩, .string ⟨#[]⟩, .string ⟨#[]⟩]] w fun e w' => e = .returned (.int .i64 (σ.ix (cInt N))) ∧ Mk B pr pm (n + 1) d pl (σ.add (cInt N)) w' ∧ Kq B pr w w' :=
  constant_any B pr pm n d pl σ (cInt N) w h hn (cok3 h0 h1 sz0 sz0 sz0)
set_option maxRecDepth 8000 in
set_option maxHeartbeats 1000000 in
theorem field_any (B pr pm n d : Nat) (pl : Bool) (σ : SG) (s1 s2 s3 : ByteArray) (w : World) (h : Mk B pr pm n d pl σ w) (hn : n ≤ 900000) (z1 : s1.size ≤ 1000000) (z2 : s2.size ≤ 1000000) (z3 : s3.size ≤ 1000000) :
    Calls Try.prog 101 #[.pointer (some ⟨pm, 0, none⟩), .string s1, .string s2, .string s3] w fun e w' => e = .returned (.int .i64 (σ.ix (cFld s1 s2 s3))) ∧ Mk B pr pm (n + 1) d pl (σ.add (cFld s1 s2 s3)) w' ∧ Kq B pr w w' := by
  have G2 : Hid (Calls Try.prog 99 #[.pointer (some ⟨pm, 0, none⟩), .agg #[.int .i64 9, .int .i32 0, .string s1, .string s2, .string s3]] w fun e w' => e = .returned (.int .i64 (σ.ix (cFld s1 s2 s3))) ∧ Mk B pr pm (n + 1) d pl (σ.add (cFld s1 s2 s3)) w' ∧ Kq B pr w w') := constant_any B pr pm n d pl σ (cFld s1 s2 s3) w h hn (cok3 (by decide) (by decide) z1 z2 z3)
  go_enter Try.func101, Try.ntmps101
  go_wp2_with fail
  refine G2.out.mono ?_
  rintro e w1 ⟨rfl, hm, hk⟩
  go_wp2
  go_ret
  exact ⟨rfl, hm, hk⟩
set_option maxRecDepth 8000 in
set_option maxHeartbeats 1000000 in
theorem method_any (B pr pm n d : Nat) (pl : Bool) (σ : SG) (s1 s2 s3 : ByteArray) (w : World) (h : Mk B pr pm n d pl σ w) (hn : n ≤ 900000) (z1 : s1.size ≤ 1000000) (z2 : s2.size ≤ 1000000) (z3 : s3.size ≤ 1000000) :
    Calls Try.prog 102 #[.pointer (some ⟨pm, 0, none⟩), .string s1, .string s2, .string s3] w fun e w' => e = .returned (.int .i64 (σ.ix (cMet s1 s2 s3))) ∧ Mk B pr pm (n + 1) d pl (σ.add (cMet s1 s2 s3)) w' ∧ Kq B pr w w' := by
  have G2 : Hid (Calls Try.prog 99 #[.pointer (some ⟨pm, 0, none⟩), .agg #[.int .i64 10, .int .i32 0, .string s1, .string s2, .string s3]] w fun e w' => e = .returned (.int .i64 (σ.ix (cMet s1 s2 s3))) ∧ Mk B pr pm (n + 1) d pl (σ.add (cMet s1 s2 s3)) w' ∧ Kq B pr w w') := constant_any B pr pm n d pl σ (cMet s1 s2 s3) w h hn (cok3 (by decide) (by decide) z1 z2 z3)
  go_enter Try.func102, Try.ntmps102
  go_wp2_with fail
  refine G2.out.mono ?_
  rintro e w1 ⟨rfl, hm, hk⟩
  go_wp2
  go_ret
  exact ⟨rfl, hm, hk⟩
set_option maxRecDepth 8000 in
set_option maxHeartbeats 1000000 in
theorem class_any (B pr pm n d : Nat) (pl : Bool) (σ : SG) (s1 : ByteArray) (w : World) (h : Mk B pr pm n d pl σ w) (hn : n ≤ 900000) (z1 : s1.size ≤ 1000000) :
    Calls Try.prog 103 #[.pointer (some ⟨pm, 0, none⟩), .string s1] w fun e w' => e = .returned (.int .i64 (σ.ix (cCls s1))) ∧ Mk B pr pm (n + 1) d pl (σ.add (cCls s1)) w' ∧ Kq B pr w w' := by
  have G2 : Hid (Calls Try.prog 99 #[.pointer (some ⟨pm, 0, none⟩), .agg #[.int .i64 7, .int .i32 0, .string s1, .string ⟨#[]⟩, .string ⟨#[]⟩]] w fun e w' => e = .returned (.int .i64 (σ.ix (cCls s1))) ∧ Mk B pr pm (n + 1) d pl (σ.add (cCls s1)) w' ∧ Kq B pr w w') := constant_any B pr pm n d pl σ (cCls s1) w h hn (cok3 (by decide) (by decide) z1 sz0 sz0)
  go_enter Try.func103, Try.ntmps103
  go_wp2_with fail
  refine G2.out.mono ?_
  rintro e w1 ⟨rfl, hm, hk⟩
  go_wp2
  go_ret
  exact ⟨rfl, hm, hk⟩
end Go.Proofs.Ytbmfkbgncjldjaa.M
namespace Go.Proofs.Ytbmfkbgncjldjaa.M
open Go.RowKit
def kinds : Bool → List Value
  | true => [.string ⟨#[73]⟩, .string ⟨#[73]⟩, .string ⟨#[73]⟩, .string ⟨#[73]⟩]
  | false => [.string ⟨#[73]⟩, .string ⟨#[73]⟩, .string ⟨#[73]⟩, .string ⟨#[73]⟩, .string ⟨#[76, 65, 59]⟩, .string ⟨#[76, 65, 59]⟩, .string ⟨#[91, 73]⟩, .string ⟨#[76, 84, 104, 114, 111, 119, 97, 98, 108, 101, 59]⟩, .string ⟨#[76, 84, 59]⟩, .string ⟨#[91, 76, 65, 59]⟩]
theorem Mk.noK {B pr pm n d : Nat} {pl : Bool} {σ : SG} {w : World} (h : Mk B pr pm n d pl σ w) : w.cell? ⟨pm, 9, none⟩ = some (.slice none 0 0) := by
  obtain ⟨s, HP, HB⟩ := h
  exact cell_row HP.blk 9 rfl
set_option maxRecDepth 8000 in
set_option maxHeartbeats 4000000 in
theorem types_any (B pr pm n d : Nat) (pl : Bool) (σ : SG) (w : World) (h : Mk B pr pm n d pl σ w) :
    Calls Try.prog 97 #[.pointer (some ⟨pm, 0, none⟩)] w fun e w' => e = .returned (.slice (some ⟨w.heap.size, 0, none⟩) (kinds pl).length (kinds pl).length) ∧ w' = w.alloc (.cells (kinds pl).toArray 9) := by
  obtain ⟨c0, c3, c4, c5, c6, hL, hleft⟩ := h.read
  have c9 := h.noK
  clear h
  cases pl
  all_goals
    go_enter Try.func97, Try.ntmps97
    go_wp2
    go_ret
    exact ⟨rfl, rfl⟩
theorem MkP.putS {B pr pm : Nat} {s : MS} {w w1 : World} {o : Obj} {v1 : Value} {u : Value} {T : TypeId} {x : LN} (h : MkP B pr pm s w) (hg : (w.alloc o).grownBy w1 s.vl.ownBlock) (ho : w1.ownsRow B 148 6 v1 (s.ls.length + 1) (lcells s.ls ++ lrow x)) (h1 : T ≠ 148) (h2 : T ≠ 128) : Same T w ((w1.setCell ⟨pm, 2, none⟩ v1).setCell ⟨pm, 5, none⟩ u) := by
  have hA := h.below (below_alloc w o)
  have hb := Same.of_grown hA.l hg (T := 128) (by decide) _ _ hA.blk
  have hp := (h.putL hg ho).2.1
  exact (((Same.of_below (below_alloc w o)).trans (Same.of_grown hA.l hg h1)).trans (Same.of_set hb h2)).trans (Same.of_set hp.blk h2)
set_option maxRecDepth 8000 in
set_option maxHeartbeats 2000000 in
theorem put_same (B pr pm n d : Nat) (pl : Bool) (σ : SG) (op a b : Int) (w : World) (h : Mk B pr pm n d pl σ w) (hn : n ≤ 900000) :
    Calls Try.prog 78 #[.pointer (some ⟨pm, 0, none⟩), .int .i64 op, .int .i64 a, .int .i64 b] w fun e w' => e = .returned (.tuple #[]) ∧ Mk B pr pm (n + 1) d pl (σ.put op a b) w' ∧ Kq B pr w w' ∧ Same 9 w w' := by
  obtain ⟨s, HP, HB, hsg⟩ := h
  have HSG := hidIt hsg
  clear hsg
  obtain ⟨-, -, c2, -, -, c5, -⟩ := kcells HP.blk
  have f0 := frozen_row HP.blk
  have hz := HP.lt
  have hln := HB.ln
  have L0 := HB.l0
  have L1 := HB.l1
  have HPL := hidIt (fun v1 w1 hg ho => HP.putL (o := .cells (lrow ⟨0, op, a, b, -1, -1⟩).toArray 148) (v1 := v1) (w1 := w1) (x := ⟨0, op, a, b, -1, -1⟩) hg ho)
  have HPS := hidIt (fun v1 w1 u hg ho => HP.putS (T := 9) (u := u) (o := .cells (lrow ⟨0, op, a, b, -1, -1⟩).toArray 148) (v1 := v1) (w1 := w1) (x := ⟨0, op, a, b, -1, -1⟩) hg ho (by decide) (by decide))
  have hOl := HP.l
  obtain ⟨aol, capl, el⟩ := own_slice HP.l
  have HEL := hidIt el
  rw [el] at c2
  go_enter Try.func78, Try.ntmps78
  go_wp2_with (at_builtin; refine wpList_lappend rfl _ _ rfl B (.slice aol s.ls.length capl) _ _ ⟨0, op, a, b, -1, -1⟩ rfl (by rw [← HEL.out]; exact hOl) rfl (by omega) (by omega) ?_; intro v1 w1 ho1 hg1; obtain ⟨hb1, HP1, K1⟩ := HPL.out v1 w1 (by rw [HEL.out]; exact hg1) ho1; have HS1 := hidIt (HPS.out v1 w1 (.int .i64 (s.left - 1)) (by rw [HEL.out]; exact hg1) ho1); obtain ⟨-, -, q2, -, -, q5, -⟩ := kcells hb1; have qf := frozen_row hb1; obtain ⟨ao1, cap1, rfl⟩ := own_slice ho1)
  go_end0
  refine ⟨rfl, ⟨_, HP1.set (s' := { s with vl := .slice ao1 (s.ls.length + 1) cap1, ls := s.ls ++ [⟨0, op, a, b, -1, -1⟩], left := s.left - 1 }) 5 (.int .i64 (s.left - 1)) rfl rfl rfl rfl rfl rfl rfl rfl rfl rfl rfl rfl, ?_⟩, K1.set (.inl HP.hpm), HS1.out⟩
  refine ⟨⟨HB.dep, HB.pln, by have := HB.lb; simp only; omega, by simp; omega, by have := HB.pn; simp only; omega, by have := HB.hn; simp only; omega, by have := HB.tn; simp only; omega, by simp only; omega, by simp only; omega, HB.small⟩, ?_⟩
  rw [← HSG.out]
  rfl
end Go.Proofs.Ytbmfkbgncjldjaa.M
namespace Go.Proofs.Ytbmfkbgncjldjaa
open Go.RowKit
theorem shr8 (a : Int) (W : World) : (Op.shift .shr .i64 a .u64 8).run Try.prog W = .ok (.int .i64 (a / 256)) W := by
  have h2 : min (8 : Int).toNat IntKind.i64.bits = 8 := by decide
  have h3 : (0 : Int) ≤ 2 ^ 8 := by decide
  simp only [Op.shift, if_neg (show ¬ (8 : Int) < 0 by decide), h2, Sem.run_pure, Int.fdiv_eq_ediv_of_nonneg _ h3]
  rfl
theorem of_alloc {v v' : Value} {w w' : World} {o : Obj} (h : Step v (w.alloc o) v' w') : Step v w v' w' := (Step.of_below (below_alloc w o)).trans h
theorem own_alloc {w : World} {B e s n : Nat} {v : Value} {xs : List Value} (h : w.ownsRow B e s v n xs) (o : Obj) : (w.alloc o).ownsRow B e s v n xs := own_below h (below_alloc w o)
end Go.Proofs.Ytbmfkbgncjldjaa
namespace Go.Proofs.Ytbmfkbgncjldjaa
open Go.RowKit
def box5 (i : IN) : Obj := .cells #[.int .i64 i.pl, .int .i64 i.op, .int .i64 i.a, .int .i64 i.b] 81
set_option maxRecDepth 8000 in
set_option maxHeartbeats 4000000 in
theorem rone1 (hN : NameC) (i : IN) (h : kd i.op = 1) (w : World) : Calls Try.prog 120 #[.agg #[.int .i64 i.pl, .int .i64 i.op, .int .i64 i.a, .int .i64 i.b]] w fun e w' => Below w.heap.size w w' ∧ ∃ ao n c, e = .returned (.tuple #[.slice ao n c, .bool (fitsB i)]) ∧ (fitsB i = true → w'.ownsRow w.heap.size 5 1 (.slice ao n c) (oneB i).length (bcells (oneB i))) := by
  have hop := kd_byte (op := i.op) (by omega)
  have h132 : (i.op == 132) = false := by
    rw [beq_eq_false_iff_ne]; intro e; rw [e] at h; exact absurd h (by decide)
  have B0 := hidIt (r5_alloc w (box5 i))
  have X0 : Hid ((w.alloc (box5 i)).heap[w.heap.size]? = some (box5 i)) := heap_alloc_new _ _
  have gS := fun W => hidIt (rsize hN i.op W)
  have gB := fun W => hidIt (rbranch i.op W)
  have hs : sz i.op = 1 := by unfold sz; rw [h]; rfl
  rw [hs] at gS
  rw [decide_eq_false (show ¬ kd i.op = 6 by omega)] at gB
  have HFI : Hid (fitsB i = decide (i.a = 0 ∧ i.b = 0)) := by show _ = _; unfold fitsB; rw [h]; rfl
  have HO : Hid (oneB i = [i.op]) := by show _ = _; unfold oneB; rw [h]; rfl
  clear hs hN
  unfold box5 at B0 X0
  generalize fitsB i = fi at *
  generalize oneB i = ob at *
  obtain ⟨pl, op, a, b⟩ := i
  simp only at *
  go_enter Try.func120, Try.ntmps120
  go_wp2_with fail
  refine (gS _).out.mono ?_
  rintro e w2 ⟨rfl, b2⟩
  have B2 := hidIt (B0.out.trans (b2.mono (by simp)))
  have X2 := hidIt ((b2.block _ (by simp)).trans X0.out)
  clear b2 B0 X0 gS
  have e0 := r5_cell X2.out 0 rfl
  have e1 := r5_cell X2.out 1 rfl
  have e2 := r5_cell X2.out 2 rfl
  have e3 := r5_cell X2.out 3 rfl
  go_wp2_with fail
  refine (gB _).out.mono ?_
  rintro e w' ⟨rfl, hww⟩; cases hww
  clear gB
  have Y2 := hidIt ((heap_alloc_old w2 (.cells #[.int .u8 op] 5) (Array.getElem?_eq_some_iff.1 X2.out).1).trans X2.out)
  have c2 := r5_cell Y2.out 2 rfl
  have c3 := r5_cell Y2.out 3 rfl
  have B3 : Hid (Below w.heap.size w (w2.alloc (.cells #[.int .u8 op] 5)).drew) := below_drewN (B2.out.trans ((r5_alloc w2 (.cells #[.int .u8 op] 5)).mono B2.out.size)) 1
  have O3 : Hid ((w2.alloc (.cells #[.int .u8 op] 5)).drew.ownsRow w.heap.size 5 1 (.slice (some ⟨w2.heap.size, 0, none⟩) 1 1) [op].length (bcells [op])) := by
    refine ⟨rfl, .inr ⟨w2.heap.size, 1, #[.int .u8 op], rfl, B2.out.size, heap_alloc_new w2 (.cells #[.int .u8 op] 5), Nat.le_refl _, by unfold maxLen; omega, rfl, rfl⟩⟩
  by_cases ha : a = 0
  · subst ha
    by_cases hb : b = 0
    · subst hb
      go_wp2_with fail
      go_region
      all_goals
        go_wp2
        go_ret2
        refine ⟨B3.out, _, _, _, ?_, fun _ => by rw [HO.out]; exact O3.out⟩
        rw [HFI.out]; rfl
    · have hb' : (b == 0) = false := by simpa using hb
      go_wp2_with fail
      go_region
      all_goals
        go_wp2
        go_ret2
        refine ⟨B3.out, _, _, _, ?_, fun _ => by rw [HO.out]; exact O3.out⟩
        rw [HFI.out, decide_eq_false (fun h => hb h.2)]; rfl
  · have ha' : (a == 0) = false := by simpa using ha
    go_wp2_with fail
    go_region
    all_goals
      go_wp2
      go_ret2
      refine ⟨B3.out, _, _, _, ?_, fun _ => by rw [HO.out]; exact O3.out⟩
      rw [HFI.out, decide_eq_false (fun h => ha h.1)]; rfl
set_option maxRecDepth 8000 in
set_option maxHeartbeats 4000000 in
theorem rone2 (hN : NameC) (i : IN) (h : kd i.op = 2) (w : World) : Calls Try.prog 120 #[.agg #[.int .i64 i.pl, .int .i64 i.op, .int .i64 i.a, .int .i64 i.b]] w fun e w' => Below w.heap.size w w' ∧ ∃ ao n c, e = .returned (.tuple #[.slice ao n c, .bool (fitsB i)]) ∧ (fitsB i = true → w'.ownsRow w.heap.size 5 1 (.slice ao n c) (oneB i).length (bcells (oneB i))) := by
  have hop := kd_byte (op := i.op) (by omega)
  have h132 : (i.op == 132) = false := by
    rw [beq_eq_false_iff_ne]; intro e; rw [e] at h; exact absurd h (by decide)
  have B0 := hidIt (r5_alloc w (box5 i))
  have X0 : Hid ((w.alloc (box5 i)).heap[w.heap.size]? = some (box5 i)) := heap_alloc_new _ _
  have gS := fun W => hidIt (rsize hN i.op W)
  have gB := fun W => hidIt (rbranch i.op W)
  have gG := fun W => hidIt (rsigned i.op W)
  have gI := fun W => hidIt (rin i.a (0) (255) W)
  have hs : sz i.op = 2 := by unfold sz; rw [h]; rfl
  have hg : sg5 i.op = false := by unfold sg5; rw [h]; rfl
  rw [hs] at gS
  rw [hg] at gG
  rw [decide_eq_false (show ¬ kd i.op = 6 by omega)] at gB
  have HFI : Hid (fitsB i = decide (i.b = 0 ∧ (0) ≤ i.a ∧ i.a ≤ (255))) := by show _ = _; unfold fitsB; rw [h]; rfl
  have HO : Hid (oneB i = [i.op, i.a % 256]) := by show _ = _; unfold oneB; rw [h]; rfl
  clear hs hN hg
  unfold box5 at B0 X0
  unfold in5 at gI
  generalize fitsB i = fi at *
  generalize oneB i = ob at *
  obtain ⟨pl, op, a, b⟩ := i
  simp only at *
  have HIN : Hid ((decide ((0) ≤ a) && decide (a ≤ (255))) = decide ((0) ≤ a ∧ a ≤ (255))) := by show _ = _; rw [Bool.decide_and]
  rw [HIN.out] at gI
  have hwr : IntKind.u8.wrap a = a % 256 := by simp [IntKind.wrap, IntKind.bits, IntKind.signed]
  have hwo : IntKind.u8.wrap op = op := by simp [IntKind.wrap, IntKind.bits, IntKind.signed]; omega
  generalize hq : decide ((0) ≤ a ∧ a ≤ (255)) = q at *
  have HQ := hidIt hq
  clear hq HIN
  go_enter Try.func120, Try.ntmps120
  go_wp2_with fail
  refine (gS _).out.mono ?_
  rintro e w2 ⟨rfl, b2⟩
  have B2 := hidIt (B0.out.trans (b2.mono (by simp)))
  have X2 := hidIt ((b2.block _ (by simp)).trans X0.out)
  clear b2 B0 X0 gS
  have e0 := r5_cell X2.out 0 rfl
  have e1 := r5_cell X2.out 1 rfl
  have e2 := r5_cell X2.out 2 rfl
  have e3 := r5_cell X2.out 3 rfl
  go_wp2_with fail
  refine (gB _).out.mono ?_
  rintro e w' ⟨rfl, hww⟩; cases hww
  clear gB
  go_wp2_with fail
  refine (gG _).out.mono ?_
  rintro e w' ⟨rfl, hww⟩; cases hww
  clear gG
  have Y2 := hidIt ((heap_alloc_old w2 (.cells #[.int .u8 op, .int .u8 (a % 256)] 5) (Array.getElem?_eq_some_iff.1 X2.out).1).trans X2.out)
  have c1 := r5_cell Y2.out 1 rfl
  have c3 := r5_cell Y2.out 3 rfl
  have B3 : Hid (Below w.heap.size w (w2.alloc (.cells #[.int .u8 op, .int .u8 (a % 256)] 5)).drew) := below_drewN (B2.out.trans ((r5_alloc w2 (.cells #[.int .u8 op, .int .u8 (a % 256)] 5)).mono B2.out.size)) 1
  have O3 : Hid ((w2.alloc (.cells #[.int .u8 op, .int .u8 (a % 256)] 5)).drew.ownsRow w.heap.size 5 1 (.slice (some ⟨w2.heap.size, 0, none⟩) 2 2) [op, a % 256].length (bcells [op, a % 256])) := by
    refine ⟨rfl, .inr ⟨w2.heap.size, 2, #[.int .u8 op, .int .u8 (a % 256)], rfl, B2.out.size, heap_alloc_new w2 (.cells #[.int .u8 op, .int .u8 (a % 256)] 5), Nat.le_refl _, by unfold maxLen; omega, rfl, rfl⟩⟩
  by_cases hb : b = 0
  · subst hb
    go_wp2_with fail
    go_region_held3 (fun W => W.cell? ⟨w.heap.size, 1, none⟩ = some (.int .i64 op) ∧ W.cell? ⟨w.heap.size, 3, none⟩ = some (.int .i64 0)) (first | exact ⟨e1, e3⟩ | exact ⟨c1, c3⟩)
      (first
        | (go_at_call 126; refine (gI _).out.mono ?_; rintro e w' ⟨rfl, hww⟩; cases hww))
    all_goals
      go_wp2
      go_ret2
      refine ⟨B3.out, _, _, _, ?_, fun _ => by rw [HO.out]; exact O3.out⟩
      rw [HFI.out, ← HQ.out]; simp
  · have hb' : (b == 0) = false := by simpa using hb
    go_wp2_with fail
    go_region
    all_goals
      go_wp2
      go_ret2
      refine ⟨B3.out, _, _, _, ?_, fun _ => by rw [HO.out]; exact O3.out⟩
      rw [HFI.out, decide_eq_false (fun h => hb h.1)]; rfl
set_option maxRecDepth 8000 in
set_option maxHeartbeats 4000000 in
theorem rone3 (hN : NameC) (i : IN) (h : kd i.op = 3) (w : World) : Calls Try.prog 120 #[.agg #[.int .i64 i.pl, .int .i64 i.op, .int .i64 i.a, .int .i64 i.b]] w fun e w' => Below w.heap.size w w' ∧ ∃ ao n c, e = .returned (.tuple #[.slice ao n c, .bool (fitsB i)]) ∧ (fitsB i = true → w'.ownsRow w.heap.size 5 1 (.slice ao n c) (oneB i).length (bcells (oneB i))) := by
  have hop := kd_byte (op := i.op) (by omega)
  have h132 : (i.op == 132) = false := by
    rw [beq_eq_false_iff_ne]; intro e; rw [e] at h; exact absurd h (by decide)
  have B0 := hidIt (r5_alloc w (box5 i))
  have X0 : Hid ((w.alloc (box5 i)).heap[w.heap.size]? = some (box5 i)) := heap_alloc_new _ _
  have gS := fun W => hidIt (rsize hN i.op W)
  have gB := fun W => hidIt (rbranch i.op W)
  have gG := fun W => hidIt (rsigned i.op W)
  have gI := fun W => hidIt (rin i.a (-128) (127) W)
  have hs : sz i.op = 2 := by unfold sz; rw [h]; rfl
  have hg : sg5 i.op = true := by unfold sg5; rw [h]; rfl
  rw [hs] at gS
  rw [hg] at gG
  rw [decide_eq_false (show ¬ kd i.op = 6 by omega)] at gB
  have HFI : Hid (fitsB i = decide (i.b = 0 ∧ (-128) ≤ i.a ∧ i.a ≤ (127))) := by show _ = _; unfold fitsB; rw [h]; rfl
  have HO : Hid (oneB i = [i.op, i.a % 256]) := by show _ = _; unfold oneB; rw [h]; rfl
  clear hs hN hg
  unfold box5 at B0 X0
  unfold in5 at gI
  generalize fitsB i = fi at *
  generalize oneB i = ob at *
  obtain ⟨pl, op, a, b⟩ := i
  simp only at *
  have HIN : Hid ((decide ((-128) ≤ a) && decide (a ≤ (127))) = decide ((-128) ≤ a ∧ a ≤ (127))) := by show _ = _; rw [Bool.decide_and]
  rw [HIN.out] at gI
  have hwr : IntKind.u8.wrap a = a % 256 := by simp [IntKind.wrap, IntKind.bits, IntKind.signed]
  have hwo : IntKind.u8.wrap op = op := by simp [IntKind.wrap, IntKind.bits, IntKind.signed]; omega
  generalize hq : decide ((-128) ≤ a ∧ a ≤ (127)) = q at *
  have HQ := hidIt hq
  clear hq HIN
  go_enter Try.func120, Try.ntmps120
  go_wp2_with fail
  refine (gS _).out.mono ?_
  rintro e w2 ⟨rfl, b2⟩
  have B2 := hidIt (B0.out.trans (b2.mono (by simp)))
  have X2 := hidIt ((b2.block _ (by simp)).trans X0.out)
  clear b2 B0 X0 gS
  have e0 := r5_cell X2.out 0 rfl
  have e1 := r5_cell X2.out 1 rfl
  have e2 := r5_cell X2.out 2 rfl
  have e3 := r5_cell X2.out 3 rfl
  go_wp2_with fail
  refine (gB _).out.mono ?_
  rintro e w' ⟨rfl, hww⟩; cases hww
  clear gB
  go_wp2_with fail
  refine (gG _).out.mono ?_
  rintro e w' ⟨rfl, hww⟩; cases hww
  clear gG
  have Y2 := hidIt ((heap_alloc_old w2 (.cells #[.int .u8 op, .int .u8 (a % 256)] 5) (Array.getElem?_eq_some_iff.1 X2.out).1).trans X2.out)
  have c1 := r5_cell Y2.out 1 rfl
  have c3 := r5_cell Y2.out 3 rfl
  have B3 : Hid (Below w.heap.size w (w2.alloc (.cells #[.int .u8 op, .int .u8 (a % 256)] 5)).drew) := below_drewN (B2.out.trans ((r5_alloc w2 (.cells #[.int .u8 op, .int .u8 (a % 256)] 5)).mono B2.out.size)) 1
  have O3 : Hid ((w2.alloc (.cells #[.int .u8 op, .int .u8 (a % 256)] 5)).drew.ownsRow w.heap.size 5 1 (.slice (some ⟨w2.heap.size, 0, none⟩) 2 2) [op, a % 256].length (bcells [op, a % 256])) := by
    refine ⟨rfl, .inr ⟨w2.heap.size, 2, #[.int .u8 op, .int .u8 (a % 256)], rfl, B2.out.size, heap_alloc_new w2 (.cells #[.int .u8 op, .int .u8 (a % 256)] 5), Nat.le_refl _, by unfold maxLen; omega, rfl, rfl⟩⟩
  by_cases hb : b = 0
  · subst hb
    go_wp2_with fail
    go_region_held3 (fun W => W.cell? ⟨w.heap.size, 1, none⟩ = some (.int .i64 op) ∧ W.cell? ⟨w.heap.size, 3, none⟩ = some (.int .i64 0)) (first | exact ⟨e1, e3⟩ | exact ⟨c1, c3⟩)
      (first
        | (go_at_call 126; refine (gI _).out.mono ?_; rintro e w' ⟨rfl, hww⟩; cases hww))
    all_goals
      go_wp2
      go_ret2
      refine ⟨B3.out, _, _, _, ?_, fun _ => by rw [HO.out]; exact O3.out⟩
      rw [HFI.out, ← HQ.out]; simp
  · have hb' : (b == 0) = false := by simpa using hb
    go_wp2_with fail
    go_region
    all_goals
      go_wp2
      go_ret2
      refine ⟨B3.out, _, _, _, ?_, fun _ => by rw [HO.out]; exact O3.out⟩
      rw [HFI.out, decide_eq_false (fun h => hb h.1)]; rfl
set_option maxRecDepth 8000 in
set_option maxHeartbeats 4000000 in
theorem rone4 (hN : NameC) (i : IN) (h : kd i.op = 4) (w : World) : Calls Try.prog 120 #[.agg #[.int .i64 i.pl, .int .i64 i.op, .int .i64 i.a, .int .i64 i.b]] w fun e w' => Below w.heap.size w w' ∧ ∃ ao n c, e = .returned (.tuple #[.slice ao n c, .bool (fitsB i)]) ∧ (fitsB i = true → w'.ownsRow w.heap.size 5 1 (.slice ao n c) (oneB i).length (bcells (oneB i))) := by
  have hop := kd_byte (op := i.op) (by omega)
  have h132 : (i.op == 132) = false := by
    rw [beq_eq_false_iff_ne]; intro e; rw [e] at h; exact absurd h (by decide)
  have B0 := hidIt (r5_alloc w (box5 i))
  have X0 : Hid ((w.alloc (box5 i)).heap[w.heap.size]? = some (box5 i)) := heap_alloc_new _ _
  have gS := fun W => hidIt (rsize hN i.op W)
  have gB := fun W => hidIt (rbranch i.op W)
  have gG := fun W => hidIt (rsigned i.op W)
  have gI := fun W => hidIt (rin i.a (0) (65535) W)
  have hs : sz i.op = 3 := by unfold sz; rw [h]; rfl
  have hg : sg5 i.op = false := by unfold sg5; rw [h]; rfl
  rw [hs] at gS
  rw [hg] at gG
  rw [decide_eq_false (show ¬ kd i.op = 6 by omega)] at gB
  have HFI : Hid (fitsB i = decide (i.b = 0 ∧ (0) ≤ i.a ∧ i.a ≤ (65535))) := by show _ = _; unfold fitsB; rw [h]; rfl
  have HO : Hid (oneB i = [i.op, i.a / 256 % 256, i.a % 256]) := by show _ = _; unfold oneB; rw [h]; rfl
  clear hs hN hg
  unfold box5 at B0 X0
  unfold in5 at gI
  generalize fitsB i = fi at *
  generalize oneB i = ob at *
  obtain ⟨pl, op, a, b⟩ := i
  simp only at *
  have HIN : Hid ((decide ((0) ≤ a) && decide (a ≤ (65535))) = decide ((0) ≤ a ∧ a ≤ (65535))) := by show _ = _; rw [Bool.decide_and]
  rw [HIN.out] at gI
  have hwr : IntKind.u8.wrap a = a % 256 := by simp [IntKind.wrap, IntKind.bits, IntKind.signed]
  have hw8 : IntKind.u8.wrap (a / 256) = a / 256 % 256 := by simp [IntKind.wrap, IntKind.bits, IntKind.signed]
  have hsh : ∀ W : World, (Op.shift .shr .i64 a .u64 8).run Try.prog W = .ok (.int .i64 (a / 256)) W := fun W => shr8 a W
  have hwo : IntKind.u8.wrap op = op := by simp [IntKind.wrap, IntKind.bits, IntKind.signed]; omega
  generalize hq : decide ((0) ≤ a ∧ a ≤ (65535)) = q at *
  have HQ := hidIt hq
  clear hq HIN
  go_enter Try.func120, Try.ntmps120
  go_wp2_with fail
  refine (gS _).out.mono ?_
  rintro e w2 ⟨rfl, b2⟩
  have B2 := hidIt (B0.out.trans (b2.mono (by simp)))
  have X2 := hidIt ((b2.block _ (by simp)).trans X0.out)
  clear b2 B0 X0 gS
  have e0 := r5_cell X2.out 0 rfl
  have e1 := r5_cell X2.out 1 rfl
  have e2 := r5_cell X2.out 2 rfl
  have e3 := r5_cell X2.out 3 rfl
  go_wp2_with fail
  refine (gB _).out.mono ?_
  rintro e w' ⟨rfl, hww⟩; cases hww
  clear gB
  go_wp2_with fail
  refine (gG _).out.mono ?_
  rintro e w' ⟨rfl, hww⟩; cases hww
  clear gG
  have Y2 := hidIt ((heap_alloc_old w2 (.cells #[.int .u8 op, .int .u8 (a / 256 % 256), .int .u8 (a % 256)] 5) (Array.getElem?_eq_some_iff.1 X2.out).1).trans X2.out)
  have c1 := r5_cell Y2.out 1 rfl
  have c3 := r5_cell Y2.out 3 rfl
  have B3 : Hid (Below w.heap.size w (w2.alloc (.cells #[.int .u8 op, .int .u8 (a / 256 % 256), .int .u8 (a % 256)] 5)).drew) := below_drewN (B2.out.trans ((r5_alloc w2 (.cells #[.int .u8 op, .int .u8 (a / 256 % 256), .int .u8 (a % 256)] 5)).mono B2.out.size)) 1
  have O3 : Hid ((w2.alloc (.cells #[.int .u8 op, .int .u8 (a / 256 % 256), .int .u8 (a % 256)] 5)).drew.ownsRow w.heap.size 5 1 (.slice (some ⟨w2.heap.size, 0, none⟩) 3 3) [op, a / 256 % 256, a % 256].length (bcells [op, a / 256 % 256, a % 256])) := by
    refine ⟨rfl, .inr ⟨w2.heap.size, 3, #[.int .u8 op, .int .u8 (a / 256 % 256), .int .u8 (a % 256)], rfl, B2.out.size, heap_alloc_new w2 (.cells #[.int .u8 op, .int .u8 (a / 256 % 256), .int .u8 (a % 256)] 5), Nat.le_refl _, by unfold maxLen; omega, rfl, rfl⟩⟩
  by_cases hb : b = 0
  · subst hb
    go_wp2_with fail
    go_region_held3 (fun W => W.cell? ⟨w.heap.size, 1, none⟩ = some (.int .i64 op) ∧ W.cell? ⟨w.heap.size, 3, none⟩ = some (.int .i64 0)) (first | exact ⟨e1, e3⟩ | exact ⟨c1, c3⟩)
      (first
        | (go_at_call 126; refine (gI _).out.mono ?_; rintro e w' ⟨rfl, hww⟩; cases hww))
    all_goals
      go_wp2
      go_ret2
      refine ⟨B3.out, _, _, _, ?_, fun _ => by rw [HO.out]; exact O3.out⟩
      rw [HFI.out, ← HQ.out]; simp
  · have hb' : (b == 0) = false := by simpa using hb
    go_wp2_with fail
    go_region
    all_goals
      go_wp2
      go_ret2
      refine ⟨B3.out, _, _, _, ?_, fun _ => by rw [HO.out]; exact O3.out⟩
      rw [HFI.out, decide_eq_false (fun h => hb h.1)]; rfl
set_option maxRecDepth 8000 in
set_option maxHeartbeats 4000000 in
theorem rone5 (hN : NameC) (i : IN) (h : kd i.op = 5) (w : World) : Calls Try.prog 120 #[.agg #[.int .i64 i.pl, .int .i64 i.op, .int .i64 i.a, .int .i64 i.b]] w fun e w' => Below w.heap.size w w' ∧ ∃ ao n c, e = .returned (.tuple #[.slice ao n c, .bool (fitsB i)]) ∧ (fitsB i = true → w'.ownsRow w.heap.size 5 1 (.slice ao n c) (oneB i).length (bcells (oneB i))) := by
  have hop := kd_byte (op := i.op) (by omega)
  have h132 : (i.op == 132) = false := by
    rw [beq_eq_false_iff_ne]; intro e; rw [e] at h; exact absurd h (by decide)
  have B0 := hidIt (r5_alloc w (box5 i))
  have X0 : Hid ((w.alloc (box5 i)).heap[w.heap.size]? = some (box5 i)) := heap_alloc_new _ _
  have gS := fun W => hidIt (rsize hN i.op W)
  have gB := fun W => hidIt (rbranch i.op W)
  have gG := fun W => hidIt (rsigned i.op W)
  have gI := fun W => hidIt (rin i.a (-32768) (32767) W)
  have hs : sz i.op = 3 := by unfold sz; rw [h]; rfl
  have hg : sg5 i.op = true := by unfold sg5; rw [h]; rfl
  rw [hs] at gS
  rw [hg] at gG
  rw [decide_eq_false (show ¬ kd i.op = 6 by omega)] at gB
  have HFI : Hid (fitsB i = decide (i.b = 0 ∧ (-32768) ≤ i.a ∧ i.a ≤ (32767))) := by show _ = _; unfold fitsB; rw [h]; rfl
  have HO : Hid (oneB i = [i.op, i.a / 256 % 256, i.a % 256]) := by show _ = _; unfold oneB; rw [h]; rfl
  clear hs hN hg
  unfold box5 at B0 X0
  unfold in5 at gI
  generalize fitsB i = fi at *
  generalize oneB i = ob at *
  obtain ⟨pl, op, a, b⟩ := i
  simp only at *
  have HIN : Hid ((decide ((-32768) ≤ a) && decide (a ≤ (32767))) = decide ((-32768) ≤ a ∧ a ≤ (32767))) := by show _ = _; rw [Bool.decide_and]
  rw [HIN.out] at gI
  have hwr : IntKind.u8.wrap a = a % 256 := by simp [IntKind.wrap, IntKind.bits, IntKind.signed]
  have hw8 : IntKind.u8.wrap (a / 256) = a / 256 % 256 := by simp [IntKind.wrap, IntKind.bits, IntKind.signed]
  have hsh : ∀ W : World, (Op.shift .shr .i64 a .u64 8).run Try.prog W = .ok (.int .i64 (a / 256)) W := fun W => shr8 a W
  have hwo : IntKind.u8.wrap op = op := by simp [IntKind.wrap, IntKind.bits, IntKind.signed]; omega
  generalize hq : decide ((-32768) ≤ a ∧ a ≤ (32767)) = q at *
  have HQ := hidIt hq
  clear hq HIN
  go_enter Try.func120, Try.ntmps120
  go_wp2_with fail
  refine (gS _).out.mono ?_
  rintro e w2 ⟨rfl, b2⟩
  have B2 := hidIt (B0.out.trans (b2.mono (by simp)))
  have X2 := hidIt ((b2.block _ (by simp)).trans X0.out)
  clear b2 B0 X0 gS
  have e0 := r5_cell X2.out 0 rfl
  have e1 := r5_cell X2.out 1 rfl
  have e2 := r5_cell X2.out 2 rfl
  have e3 := r5_cell X2.out 3 rfl
  go_wp2_with fail
  refine (gB _).out.mono ?_
  rintro e w' ⟨rfl, hww⟩; cases hww
  clear gB
  go_wp2_with fail
  refine (gG _).out.mono ?_
  rintro e w' ⟨rfl, hww⟩; cases hww
  clear gG
  have Y2 := hidIt ((heap_alloc_old w2 (.cells #[.int .u8 op, .int .u8 (a / 256 % 256), .int .u8 (a % 256)] 5) (Array.getElem?_eq_some_iff.1 X2.out).1).trans X2.out)
  have c1 := r5_cell Y2.out 1 rfl
  have c3 := r5_cell Y2.out 3 rfl
  have B3 : Hid (Below w.heap.size w (w2.alloc (.cells #[.int .u8 op, .int .u8 (a / 256 % 256), .int .u8 (a % 256)] 5)).drew) := below_drewN (B2.out.trans ((r5_alloc w2 (.cells #[.int .u8 op, .int .u8 (a / 256 % 256), .int .u8 (a % 256)] 5)).mono B2.out.size)) 1
  have O3 : Hid ((w2.alloc (.cells #[.int .u8 op, .int .u8 (a / 256 % 256), .int .u8 (a % 256)] 5)).drew.ownsRow w.heap.size 5 1 (.slice (some ⟨w2.heap.size, 0, none⟩) 3 3) [op, a / 256 % 256, a % 256].length (bcells [op, a / 256 % 256, a % 256])) := by
    refine ⟨rfl, .inr ⟨w2.heap.size, 3, #[.int .u8 op, .int .u8 (a / 256 % 256), .int .u8 (a % 256)], rfl, B2.out.size, heap_alloc_new w2 (.cells #[.int .u8 op, .int .u8 (a / 256 % 256), .int .u8 (a % 256)] 5), Nat.le_refl _, by unfold maxLen; omega, rfl, rfl⟩⟩
  by_cases hb : b = 0
  · subst hb
    go_wp2_with fail
    go_region_held3 (fun W => W.cell? ⟨w.heap.size, 1, none⟩ = some (.int .i64 op) ∧ W.cell? ⟨w.heap.size, 3, none⟩ = some (.int .i64 0)) (first | exact ⟨e1, e3⟩ | exact ⟨c1, c3⟩)
      (first
        | (go_at_call 126; refine (gI _).out.mono ?_; rintro e w' ⟨rfl, hww⟩; cases hww))
    all_goals
      go_wp2
      go_ret2
      refine ⟨B3.out, _, _, _, ?_, fun _ => by rw [HO.out]; exact O3.out⟩
      rw [HFI.out, ← HQ.out]; simp
  · have hb' : (b == 0) = false := by simpa using hb
    go_wp2_with fail
    go_region
    all_goals
      go_wp2
      go_ret2
      refine ⟨B3.out, _, _, _, ?_, fun _ => by rw [HO.out]; exact O3.out⟩
      rw [HFI.out, decide_eq_false (fun h => hb h.1)]; rfl
end Go.Proofs.Ytbmfkbgncjldjaa
