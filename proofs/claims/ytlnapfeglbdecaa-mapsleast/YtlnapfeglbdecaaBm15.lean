/- Texts MK MX ME MY. -/
import Derived.Test.YtlnapfeglbdecaaBm10
import Derived.Test.YtlnapfeglbdecaaBm11
import Derived.Deep.CutRange
namespace Go.Proofs.Ytlnapfeglbdecaa.M
open Go.RowKit

theorem MkP.putH {B pr pm : Nat} {s : MS} {w w1 : World} {o : Obj} {v1 : Value} {x : TR} (h : MkP B pr pm s w) (hg : (w.alloc o).grownBy w1 s.vh.ownBlock) (ho : w1.ownsRow B 106 3 v1 (s.hs.length + 1) (tcells s.hs ++ trow x)) :
    w1.heap[pm]? = some (.cells (mblk pr s) 86 (0, 0)) ∧ MkP B pr pm { s with vh := v1, hs := s.hs ++ [x] } (w1.setCell ⟨pm, 7, none⟩ v1) ∧ Kq B pr w (w1.setCell ⟨pm, 7, none⟩ v1) := by
  have hA := h.below (below_alloc w o)
  have S : ∀ T, T ≠ 106 → Same T (w.alloc o) w1 := fun T hT => Same.of_grown hA.h hg hT
  have hb := S 86 (by decide) _ _ hA.blk
  have S2 : ∀ T, T ≠ 86 → Same T w1 (w1.setCell ⟨pm, 7, none⟩ v1) := fun T hT => Same.of_set hb hT
  have hBz := h.lt.2
  have K1 : Kq B pr w w1 := (Kq.of_below (below_alloc w o) hBz).grown hg (by simp; omega) (fun k e => (hA.h.lt k e).1)
  have K2 : Kq B pr w (w1.setCell ⟨pm, 7, none⟩ v1) := K1.set (.inl h.hpm)
  have Q : ∀ T, T ≠ 106 → T ≠ 86 → Same T (w.alloc o) (w1.setCell ⟨pm, 7, none⟩ v1) := fun T h1 h2 => (S T h1).trans (S2 T h2)
  have own : (w1.setCell ⟨pm, 7, none⟩ v1).ownsRow B 106 3 v1 (s.hs ++ [x]).length (tcells (s.hs ++ [x])) := by
    rw [tcells_append, List.length_append]
    exact own_same (by simpa [tcells] using ho) (S2 106 (by decide))
  refine ⟨hb, ⟨?_, Q 60 (by decide) (by decide) _ _ hA.rec_, h.rl.kq K2, own_same hA.p (Q 99 (by decide) (by decide)), own_same hA.l (Q 94 (by decide) (by decide)), own, own_same hA.t (Q 3 (by decide) (by decide)), h.hpm, h.hpr, h.at_le⟩, K2⟩
  rw [set_row hb]; rfl
theorem infoT : (Try.prog.info? 106).map (fun i => (i.zero, i.size, i.bytes)) = some (some (.agg #[.int .i64 0, .int .i64 0, .int .i64 0]), 3, 24) := by kernel_rfl
theorem putH_append {w : World} {ops : Array Oper} {rest : List Oper} {o : Oper} {a : Act} {Q : Exit → Act → World → Prop} (hgd : o.guard = none) (s x : Operand)
    (ho : o.op = .call { callee := .builtin .append, args := #[s, x], argTypes := #[83, 83] })
    (B : Nat) (v : Value) (n : Nat) (xs : List Value) (y : TR) (hs : a.eval s = v) (hown : w.ownsRow B 106 3 v n xs) (hx : a.eval x = .slice (some ⟨w.heap.size, 0, none⟩) 1 1)
    (hlen : n ≤ 1000000) (hB : B ≤ w.heap.size)
    (h : ∀ v' w', w'.ownsRow B 106 3 v' (n + 1) (xs ++ trow y) → (w.alloc (.cells (trow y).toArray 106)).grownBy w' v.ownBlock → wpList Try.prog ops Q rest (a.put o.dst v') w') :
    wpList Try.prog ops Q (o :: rest) a (w.alloc (.cells (trow y).toArray 106)) := by
  obtain ⟨i0, hi, hz0, hz1, hz2⟩ := info_parts infoT
  refine wpList_plain hgd fun K hK => ?_
  have hown' : (w.alloc (.cells (trow y).toArray 106)).ownsRow B 106 3 v n xs := own_same hown (Same.of_below (below_alloc w _))
  obtain ⟨v', w', hr, h2, h3, _, h4⟩ := run_append_own_at (P := Try.prog) (w.alloc (.cells (trow y).toArray 106)) B 83 o.type 106 i0 _ 3 24 Try.underlying83 hi hz0 hz1 hz2 rfl (by decide) v n xs hown' ⟨w.heap.size, 0, none⟩ 1 1 (trow y) rfl
    (fun j u hj => by
      have e : (⟨w.heap.size, 0, none⟩ : Addr).add j = ⟨w.heap.size, j, none⟩ := by unfold Addr.add; split <;> simp_all
      rw [e]
      exact cell_row (heap_alloc_new w _) j (by simpa using hj)) (by intro u hu; simp [trow] at hu; rcases hu with rfl | rfl | rfl <;> rfl) (by unfold maxLen; omega) (by omega) (by simp; omega)
  unfold Oper.wp execOp
  simp only [ho, resolve, invoke, builtin, Sem.run_bind, Sem.run_pure, Result.andThen_ok, List.map_toArray, List.map_cons, List.map_nil, hs, hx, hr]
  exact hK _ _ (h v' w' h2 h3)

theorem MkP.putT {B pr pm : Nat} {s : MS} {w w1 : World} {o : Obj} {v1 : Value} {x : Int} (h : MkP B pr pm s w) (hg : (w.alloc o).grownBy w1 s.vt.ownBlock) (ho : w1.ownsRow B 3 1 v1 (s.ts.length + 1) (ncells s.ts ++ [Value.int .i64 x])) :
    w1.heap[pm]? = some (.cells (mblk pr s) 86 (0, 0)) ∧ MkP B pr pm { s with vt := v1, ts := s.ts ++ [x] } (w1.setCell ⟨pm, 8, none⟩ v1) ∧ Kq B pr w (w1.setCell ⟨pm, 8, none⟩ v1) := by
  have hA := h.below (below_alloc w o)
  have S : ∀ T, T ≠ 3 → Same T (w.alloc o) w1 := fun T hT => Same.of_grown hA.t hg hT
  have hb := S 86 (by decide) _ _ hA.blk
  have S2 : ∀ T, T ≠ 86 → Same T w1 (w1.setCell ⟨pm, 8, none⟩ v1) := fun T hT => Same.of_set hb hT
  have hBz := h.lt.2
  have K1 : Kq B pr w w1 := (Kq.of_below (below_alloc w o) hBz).grown hg (by simp; omega) (fun k e => (hA.t.lt k e).1)
  have K2 : Kq B pr w (w1.setCell ⟨pm, 8, none⟩ v1) := K1.set (.inl h.hpm)
  have Q : ∀ T, T ≠ 3 → T ≠ 86 → Same T (w.alloc o) (w1.setCell ⟨pm, 8, none⟩ v1) := fun T h1 h2 => (S T h1).trans (S2 T h2)
  have own : (w1.setCell ⟨pm, 8, none⟩ v1).ownsRow B 3 1 v1 (s.ts ++ [x]).length (ncells (s.ts ++ [x])) := by
    rw [ncells_append, List.length_append]
    exact own_same (by simpa [ncells] using ho) (S2 3 (by decide))
  refine ⟨hb, ⟨?_, Q 60 (by decide) (by decide) _ _ hA.rec_, h.rl.kq K2, own_same hA.p (Q 99 (by decide) (by decide)), own_same hA.l (Q 94 (by decide) (by decide)), own_same hA.h (Q 106 (by decide) (by decide)), own, h.hpm, h.hpr, h.at_le⟩, K2⟩
  rw [set_row hb]; rfl
theorem infoI : (Try.prog.info? 3).map (fun i => (i.zero, i.size, i.bytes)) = some (some (.int .i64 0), 1, 8) := by kernel_rfl
theorem putT_append {w : World} {ops : Array Oper} {rest : List Oper} {o : Oper} {a : Act} {Q : Exit → Act → World → Prop} (hgd : o.guard = none) (s x : Operand)
    (ho : o.op = .call { callee := .builtin .append, args := #[s, x], argTypes := #[25, 25] })
    (B : Nat) (v : Value) (n : Nat) (xs : List Value) (y : Int) (hs : a.eval s = v) (hown : w.ownsRow B 3 1 v n xs) (hx : a.eval x = .slice (some ⟨w.heap.size, 0, none⟩) 1 1)
    (hlen : n ≤ 1000000) (hB : B ≤ w.heap.size)
    (h : ∀ v' w', w'.ownsRow B 3 1 v' (n + 1) (xs ++ [Value.int .i64 y]) → (w.alloc (.cells ([Value.int .i64 y]).toArray 3)).grownBy w' v.ownBlock → wpList Try.prog ops Q rest (a.put o.dst v') w') :
    wpList Try.prog ops Q (o :: rest) a (w.alloc (.cells ([Value.int .i64 y]).toArray 3)) := by
  obtain ⟨i0, hi, hz0, hz1, hz2⟩ := info_parts infoI
  refine wpList_plain hgd fun K hK => ?_
  have hown' : (w.alloc (.cells ([Value.int .i64 y]).toArray 3)).ownsRow B 3 1 v n xs := own_same hown (Same.of_below (below_alloc w _))
  obtain ⟨v', w', hr, h2, h3, _, h4⟩ := run_append_own_at (P := Try.prog) (w.alloc (.cells ([Value.int .i64 y]).toArray 3)) B 25 o.type 3 i0 _ 1 8 Try.underlying25 hi hz0 hz1 hz2 rfl (by decide) v n xs hown' ⟨w.heap.size, 0, none⟩ 1 1 ([Value.int .i64 y]) rfl
    (fun j u hj => by
      have e : (⟨w.heap.size, 0, none⟩ : Addr).add j = ⟨w.heap.size, j, none⟩ := by unfold Addr.add; split <;> simp_all
      rw [e]
      exact cell_row (heap_alloc_new w _) j (by simpa using hj)) (by intro u hu; simp at hu; subst hu; rfl) (by unfold maxLen; omega) (by omega) (by simp; omega)
  unfold Oper.wp execOp
  simp only [ho, resolve, invoke, builtin, Sem.run_bind, Sem.run_pure, Result.andThen_ok, List.map_toArray, List.map_cons, List.map_nil, hs, hx, hr]
  exact hK _ _ (h v' w' h2 h3)
end Go.Proofs.Ytlnapfeglbdecaa.M
namespace Go.Proofs.Ytlnapfeglbdecaa.M
open Go.RowKit

def binOps : List Int := [96, 100, 104, 108, 112, 120, 122, 124, 126, 128, 130]
def bigInts : List Int := [1073741824, -2147483648, 2147483647, 77]
abbrev sA : ByteArray := ⟨#[65]⟩
abbrev sB : ByteArray := ⟨#[66]⟩
abbrev sObj : ByteArray := ⟨#[79, 98, 106, 101, 99, 116]⟩
abbrev sx : ByteArray := ⟨#[120]⟩
abbrev sI : ByteArray := ⟨#[73]⟩
abbrev sNext : ByteArray := ⟨#[110, 101, 120, 116]⟩
abbrev sLA : ByteArray := ⟨#[76, 65, 59]⟩
abbrev sr : ByteArray := ⟨#[114]⟩
abbrev sMain : ByteArray := ⟨#[77, 97, 105, 110]⟩
abbrev sCalc : ByteArray := ⟨#[99, 97, 108, 99]⟩
abbrev sII : ByteArray := ⟨#[40, 73, 73, 41, 73]⟩
abbrev sGo : ByteArray := ⟨#[103, 111]⟩
abbrev sIIr : ByteArray := ⟨#[40, 73, 41, 73]⟩
abbrev sSys : ByteArray := ⟨#[83, 121, 115, 116, 101, 109]⟩
abbrev sPrint : ByteArray := ⟨#[112, 114, 105, 110, 116]⟩
abbrev sIV : ByteArray := ⟨#[40, 73, 41, 86]⟩
abbrev sT : ByteArray := ⟨#[84]⟩
abbrev sThread : ByteArray := ⟨#[84, 104, 114, 101, 97, 100]⟩
abbrev sStart : ByteArray := ⟨#[115, 116, 97, 114, 116]⟩
abbrev sJoin : ByteArray := ⟨#[106, 111, 105, 110]⟩
abbrev sV : ByteArray := ⟨#[40, 41, 86]⟩
abbrev sSleep : ByteArray := ⟨#[115, 108, 101, 101, 112]⟩
abbrev sIndex : ByteArray := ⟨#[73, 110, 100, 101, 120]⟩
abbrev sThrowable : ByteArray := ⟨#[84, 104, 114, 111, 119, 97, 98, 108, 101]⟩
abbrev sCast : ByteArray := ⟨#[67, 97, 115, 116]⟩
abbrev sNotify : ByteArray := ⟨#[110, 111, 116, 105, 102, 121]⟩
abbrev sNotifyAll : ByteArray := ⟨#[110, 111, 116, 105, 102, 121, 65, 108, 108]⟩
abbrev sWait : ByteArray := ⟨#[119, 97, 105, 116]⟩
def SG.putC (σ : SG) (op : Int) (c : CD) : SG := (σ.add c).put op (σ.ix c) 0
mutual
inductive Num : Nat → Bool → SG → SG → Prop
  | c0 {d : Nat} {pl : Bool} {σ : SG} (k : Nat) : k < 6 → Num d pl σ (σ.put (3 + (k : Int)) 0 0)
  | c1 {d : Nat} {pl : Bool} {σ : SG} (k : Nat) : k < 4 → Num d pl σ (σ.put 21 (k : Int) 0)
  | c2 {d : Nat} {pl : Bool} {σ : SG} (k : Nat) : k < 2000 → Num d pl σ (σ.put 17 ((k : Int) - 1000) 0)
  | bin {d : Nat} {pl : Bool} {σ σ1 σ2 : SG} (op : Int) : 20 ≤ σ.left → op ∈ binOps → Num d pl σ σ1 → Num d pl σ1 σ2 → Num (d + 1) pl σ (σ2.put op 0 0)
  | neg {d : Nat} {pl : Bool} {σ σ1 : SG} : 20 ≤ σ.left → Num d pl σ σ1 → Num (d + 1) pl σ (σ1.put 116 0 0)
  | ldc {d : Nat} {pl : Bool} {σ : SG} (N : Int) : 20 ≤ σ.left → N ∈ bigInts → Num (d + 1) pl σ (σ.putC 18 (cInt N))
  | getx {d : Nat} {σ σ1 : SG} : 20 ≤ σ.left → Ref d false σ σ1 → Num (d + 1) false σ (σ1.putC 180 (cFld sA sx sI))
  | iaload {d : Nat} {σ σ1 : SG} : 20 ≤ σ.left → Num d false (σ.put 25 6 0) σ1 → Num (d + 1) false σ (σ1.put 46 0 0)
  | calc_ {d : Nat} {σ σ1 σ2 : SG} : 20 ≤ σ.left → Num d false σ σ1 → Num d false σ1 σ2 → Num (d + 1) false σ (σ2.putC 184 (cMet sMain sCalc sII))
  | virt {d : Nat} {σ σ1 σ2 : SG} : 20 ≤ σ.left → Ref d false σ σ1 → Num d false σ1 σ2 → Num (d + 1) false σ (σ2.putC 182 (cMet sA sGo sIIr))
  | isa {d : Nat} {σ σ1 : SG} (c : ByteArray) : 20 ≤ σ.left → c ∈ [sA, sB, sObj] → Ref d false σ σ1 → Num (d + 1) false σ (σ1.putC 193 (cCls c))
inductive Ref : Nat → Bool → SG → SG → Prop
  | r0 {d : Nat} {pl : Bool} {σ : SG} (k : Nat) : k < 2 → Ref d pl σ (σ.put 25 (4 + (k : Int)) 0)
  | newA {d : Nat} {pl : Bool} {σ : SG} : Ref d pl σ (σ.putC 187 (cCls sA))
  | newB {d : Nat} {pl : Bool} {σ : SG} : Ref d pl σ (σ.putC 187 (cCls sB))
  | next {d : Nat} {pl : Bool} {σ σ1 : SG} : 20 ≤ σ.left → Ref d pl σ σ1 → Ref (d + 1) pl σ (σ1.putC 180 (cFld sA sNext sLA))
  | stat {d : Nat} {pl : Bool} {σ : SG} : 20 ≤ σ.left → Ref (d + 1) pl σ (σ.putC 178 (cFld sA sr sLA))
  | aaload {d : Nat} {pl : Bool} {σ σ1 : SG} : 20 ≤ σ.left → Num d pl (σ.put 25 9 0) σ1 → Ref (d + 1) pl σ (σ1.put 50 0 0)
  | cast {d : Nat} {pl : Bool} {σ σ1 : SG} (c : ByteArray) : 20 ≤ σ.left → c ∈ [sA, sB] → Ref d pl σ σ1 → Ref (d + 1) pl σ (σ1.putC 192 (cCls c))
end
def cst : Nat → Nat
  | 0 => 4
  | k + 1 => 2 * cst k + 4
def NumC (k : Nat) : Prop := ∀ (B pr pm n d : Nat) (pl : Bool) (σ : SG) (w : World), Mk B pr pm n d pl σ w → n + cst k ≤ 800000 →
  Calls Try.prog 30 #[.pointer (some ⟨pm, 0, none⟩), .int .i64 (k : Int)] w fun e w' => e = .returned (.tuple #[]) ∧ ∃ σ', Num k pl σ σ' ∧ Mk B pr pm (n + cst k) d pl σ' w' ∧ Kq B pr w w'
def RefC (k : Nat) : Prop := ∀ (B pr pm n d : Nat) (pl : Bool) (σ : SG) (w : World), Mk B pr pm n d pl σ w → n + cst k ≤ 800000 →
  Calls Try.prog 41 #[.pointer (some ⟨pm, 0, none⟩), .int .i64 (k : Int)] w fun e w' => e = .returned (.tuple #[]) ∧ ∃ σ', Ref k pl σ σ' ∧ Mk B pr pm (n + cst k) d pl σ' w' ∧ Kq B pr w w'
end Go.Proofs.Ytlnapfeglbdecaa.M
namespace Go.Proofs.Ytlnapfeglbdecaa.M
open Go.RowKit
theorem strs_small {l : List ByteArray} {v : ByteArray} (h : v ∈ l) (hl : l.all (fun s => decide (s.size ≤ 1000000)) = true) : v.size ≤ 1000000 := by
  have := List.all_eq_true.1 hl v h
  simpa using this
set_option maxRecDepth 8000 in
set_option maxHeartbeats 40000000 in
theorem num0 : NumC 0 := by
  intro B pr pm n d pl σ w h hn
  have HM := hidIt h
  have HK := hidIt (Kq.refl B pr w)
  obtain ⟨c0, c3, c4, c5, c6, hL, hleft⟩ := h.read
  have hprz := h.pr_lt
  have hpmz := h.pm_lt
  clear h
  unfold cst at hn
  go_enter Try.func30, Try.ntmps30
  go_upto_region 1 with (go_at_call 17; refine (take_int B pr pm _ _ _ _ _ _ HM.out (by omega) (by omega)).mono ?_; clear c0 c3 c4 c5 c6 hL hleft hprz hpmz; rintro e wn ⟨⟨x, hx, rfl⟩, hm, hk, -⟩; replace HK := hidIt (HK.out.trans hk); replace HM := hidIt hm; obtain ⟨c0, c3, c4, c5, c6, hL, hleft, hprz, hpmz⟩ := hm.read2; clear hm hk)
  have hx12 : (x = 0 ∨ x = 1 ∨ x = 2 ∨ x = 3 ∨ x = 4 ∨ x = 5 ∨ x = 6 ∨ x = 7 ∨ x = 8 ∨ x = 9 ∨ x = 10 ∨ x = 11) := by omega
  rcases hx12 with rfl | rfl | rfl | rfl | rfl | rfl | rfl | rfl | rfl | rfl | rfl | rfl
  all_goals
    cases pl
    all_goals
      go_wp2_with (first
      | (go_at_call 17; refine (take_int B pr pm _ _ _ _ _ _ HM.out (by omega) (by omega)).mono ?_; clear c0 c3 c4 c5 c6 hL hleft hprz hpmz; rintro e wn ⟨⟨x, hx, rfl⟩, hm, hk, -⟩; replace HK := hidIt (HK.out.trans hk); replace HM := hidIt hm; obtain ⟨c0, c3, c4, c5, c6, hL, hleft, hprz, hpmz⟩ := hm.read2; clear hm hk)
      | (go_at_call 27; refine (put_any B pr pm _ _ _ _ _ _ _ _ HM.out (by omega)).mono ?_; clear c0 c3 c4 c5 c6 hL hleft hprz hpmz; rintro e wn ⟨rfl, hm, hk⟩; replace HK := hidIt (HK.out.trans hk); replace HM := hidIt hm; obtain ⟨c0, c3, c4, c5, c6, hL, hleft, hprz, hpmz⟩ := hm.read2; clear hm hk)
      | (go_at_call 44; refine (class_any B pr pm _ _ _ _ _ _ HM.out (by omega) (by first | assumption | exact Nat.le_of_ble_eq_true rfl | simp [ByteArray.size])).mono ?_; clear c0 c3 c4 c5 c6 hL hleft hprz hpmz; rintro e wn ⟨rfl, hm, hk⟩; replace HK := hidIt (HK.out.trans hk); replace HM := hidIt hm; obtain ⟨c0, c3, c4, c5, c6, hL, hleft, hprz, hpmz⟩ := hm.read2; clear hm hk))
      go_end0
      refine ⟨rfl, _, ?_, HM.out.mono (by simp only [cst]; omega), HK.out⟩
      first | exact Num.c0 _ (by omega) | exact Num.c1 _ (by omega) | exact Num.c2 _ (by omega) | exact Num.bin _ (by omega) hlm (by assumption) (by assumption) | exact Num.neg (by omega) (by assumption) | exact Num.ldc _ (by omega) hlm | exact Num.getx (by omega) (by assumption) | exact Num.iaload (by omega) (by assumption) | exact Num.calc_ (by omega) (by assumption) (by assumption) | exact Num.virt (by omega) (by assumption) (by assumption) | exact Num.isa _ (by omega) hlm (by assumption)
set_option maxRecDepth 8000 in
set_option maxHeartbeats 40000000 in
theorem ref0 : RefC 0 := by
  intro B pr pm n d pl σ w h hn
  have HM := hidIt h
  have HK := hidIt (Kq.refl B pr w)
  obtain ⟨c0, c3, c4, c5, c6, hL, hleft⟩ := h.read
  have hprz := h.pr_lt
  have hpmz := h.pm_lt
  clear h
  unfold cst at hn
  go_enter Try.func41, Try.ntmps41
  go_upto_region 1 with (go_at_call 17; refine (take_int B pr pm _ _ _ _ _ _ HM.out (by omega) (by omega)).mono ?_; clear c0 c3 c4 c5 c6 hL hleft hprz hpmz; rintro e wn ⟨⟨x, hx, rfl⟩, hm, hk, -⟩; replace HK := hidIt (HK.out.trans hk); replace HM := hidIt hm; obtain ⟨c0, c3, c4, c5, c6, hL, hleft, hprz, hpmz⟩ := hm.read2; clear hm hk)
  have hx12 : (x = 0 ∨ x = 1 ∨ x = 2 ∨ x = 3 ∨ x = 4 ∨ x = 5 ∨ x = 6 ∨ x = 7) := by omega
  rcases hx12 with rfl | rfl | rfl | rfl | rfl | rfl | rfl | rfl
  all_goals
    cases pl
    all_goals
      go_wp2_with (first
      | (go_at_call 17; refine (take_int B pr pm _ _ _ _ _ _ HM.out (by omega) (by omega)).mono ?_; clear c0 c3 c4 c5 c6 hL hleft hprz hpmz; rintro e wn ⟨⟨x, hx, rfl⟩, hm, hk, -⟩; replace HK := hidIt (HK.out.trans hk); replace HM := hidIt hm; obtain ⟨c0, c3, c4, c5, c6, hL, hleft, hprz, hpmz⟩ := hm.read2; clear hm hk)
      | (go_at_call 27; refine (put_any B pr pm _ _ _ _ _ _ _ _ HM.out (by omega)).mono ?_; clear c0 c3 c4 c5 c6 hL hleft hprz hpmz; rintro e wn ⟨rfl, hm, hk⟩; replace HK := hidIt (HK.out.trans hk); replace HM := hidIt hm; obtain ⟨c0, c3, c4, c5, c6, hL, hleft, hprz, hpmz⟩ := hm.read2; clear hm hk)
      | (go_at_call 44; refine (class_any B pr pm _ _ _ _ _ _ HM.out (by omega) (by first | assumption | exact Nat.le_of_ble_eq_true rfl | simp [ByteArray.size])).mono ?_; clear c0 c3 c4 c5 c6 hL hleft hprz hpmz; rintro e wn ⟨rfl, hm, hk⟩; replace HK := hidIt (HK.out.trans hk); replace HM := hidIt hm; obtain ⟨c0, c3, c4, c5, c6, hL, hleft, hprz, hpmz⟩ := hm.read2; clear hm hk))
      go_end0
      refine ⟨rfl, _, ?_, HM.out.mono (by simp only [cst]; omega), HK.out⟩
      first | exact Ref.r0 _ (by omega) | exact Ref.newA | exact Ref.newB | exact Ref.next (by omega) (by assumption) | exact Ref.stat (by omega) | exact Ref.aaload (by omega) (by assumption) | exact Ref.cast _ (by omega) hlm (by assumption)
end Go.Proofs.Ytlnapfeglbdecaa.M
namespace Go.Proofs.Ytlnapfeglbdecaa.M
open Go.RowKit

def SG.caught (σ : SG) (a : Int) : SG := { σ with ts := σ.ts ++ [a] }
def SG.tried (σ : SG) (x : TR) : SG := { σ with hs := σ.hs ++ [x] }
inductive Arr : Bool → SG → SG → Prop
  | a0 {pl : Bool} {σ σ1 : SG} : Num 1 pl σ σ1 → Arr pl σ ((σ1.put 188 10 0).put 58 6 0)
  | a1 {pl : Bool} {σ : SG} (k : Nat) (c : ByteArray) : k < 9 → c ∈ [sA, sB] → Arr pl σ (((σ.put 16 (k : Int) 0).putC 189 (cCls c)).put 58 9 0)
  | a2 {pl : Bool} {σ σ1 σ2 : SG} : Num 1 pl (σ.put 25 6 0) σ1 → Num 2 pl σ1 σ2 → Arr pl σ (σ2.put 79 0 0)
  | a3 {pl : Bool} {σ σ1 : SG} (k : Nat) : k < 4 → Ref 2 pl ((σ.put 25 9 0).put (3 + (k : Int)) 0 0) σ1 → Arr pl σ (σ1.put 83 0 0)
inductive Thr : SG → SG → Prop
  | t0 {σ : SG} : Thr σ ((σ.putC 187 (cCls sT)).put 58 8 0)
  | t1 {σ : SG} : Thr σ ((σ.put 25 8 0).putC 182 (cMet sThread sStart sV))
  | t2 {σ : SG} : Thr σ ((σ.put 25 8 0).putC 182 (cMet sThread sJoin sV))
  | t3 {σ : SG} (k : Nat) : k < 4 → Thr σ ((σ.put (3 + (k : Int)) 0 0).putC 184 (cMet sSys sSleep sIV))
inductive Cond : Bool → Int → SG → SG → Prop
  | null {no : Int} {σ σ1 : SG} (op : Int) : op ∈ [198, 199] → Ref 2 false σ σ1 → Cond false no σ (σ1.jump op no)
  | same {no : Int} {σ σ1 σ2 : SG} (op : Int) : op ∈ [165, 166] → Ref 1 false σ σ1 → Ref 1 false σ1 σ2 → Cond false no σ (σ2.jump op no)
  | one {pl : Bool} {no : Int} {σ σ1 : SG} (k : Nat) : k < 6 → Num 2 pl σ σ1 → Cond pl no σ (σ1.jump (153 + (k : Int)) no)
  | two {pl : Bool} {no : Int} {σ σ1 σ2 : SG} (k : Nat) : k < 6 → Num 2 pl σ σ1 → Num 2 pl σ1 σ2 → Cond pl no σ (σ2.jump (159 + (k : Int)) no)
mutual
inductive One : Nat → Bool → SG → SG → Prop
  | set_ {e : Nat} {pl : Bool} {σ σ1 : SG} (k : Nat) : k < 4 → Num 3 pl σ σ1 → One e pl σ (σ1.put 54 (k : Int) 0)
  | inc {e : Nat} {pl : Bool} {σ : SG} (k j : Nat) : k < 4 → j < 9 → One e pl σ (σ.put 132 (k : Int) ((j : Int) - 4))
  | chs {e : Nat} {pl : Bool} {σ σ' : SG} : e < 4 → σ.labels ≤ 50 → Chs (e + 1) pl σ σ' → One e pl σ σ'
  | lp {e : Nat} {pl : Bool} {σ σ' : SG} : e < 4 → σ.labels ≤ 50 → Lp (e + 1) pl σ σ' → One e pl σ σ'
  | dup {e : Nat} {pl : Bool} {σ σ1 : SG} (k : Nat) : k < 4 → Num 2 pl σ σ1 → One e pl σ ((((σ1.put 89 0 0).put 95 0 0).put 87 0 0).put 54 (k : Int) 0)
  | prt {e : Nat} {σ σ1 : SG} : Num 3 false σ σ1 → One e false σ (σ1.putC 184 (cMet sSys sPrint sIV))
  | ast {e : Nat} {σ σ1 : SG} (k : Nat) : k < 2 → Ref 3 false σ σ1 → One e false σ (σ1.put 58 (4 + (k : Int)) 0)
  | ptx {e : Nat} {σ σ1 σ2 : SG} : Ref 2 false σ σ1 → Num 2 false σ1 σ2 → One e false σ (σ2.putC 181 (cFld sA sx sI))
  | ptn {e : Nat} {σ σ1 σ2 : SG} : Ref 1 false σ σ1 → Ref 2 false σ1 σ2 → One e false σ (σ2.putC 181 (cFld sA sNext sLA))
  | pts {e : Nat} {σ σ1 : SG} : Ref 2 false σ σ1 → One e false σ (σ1.putC 179 (cFld sA sr sLA))
  | arr {e : Nat} {σ σ' : SG} : Arr false σ σ' → One e false σ σ'
  | tr {e : Nat} {σ σ' : SG} : e < 4 → σ.labels ≤ 50 → Tr (e + 1) false σ σ' → One e false σ σ'
  | lk {e : Nat} {σ σ' : SG} : e < 4 → Lk (e + 1) false σ σ' → One e false σ σ'
  | thr {e : Nat} {σ σ' : SG} : Thr σ σ' → One e false σ σ'
  | nwt {e : Nat} {σ : SG} (c : ByteArray) : c ∈ [sIndex, sThrowable, sCast] → One e false σ ((σ.putC 187 (cCls c)).put 58 7 0)
inductive Sm : Nat → Bool → SG → SG → Prop
  | nil {e : Nat} {pl : Bool} {σ : SG} : Sm e pl σ σ
  | snoc {e : Nat} {pl : Bool} {σ σ1 σ2 : SG} : Sm e pl σ σ1 → 25 < σ1.left → One e pl σ1 σ2 → Sm e pl σ σ2
inductive Chs : Nat → Bool → SG → SG → Prop
  | mk {e : Nat} {pl : Bool} {σ σ1 σ2 σ3 : SG} : Cond pl (σ.labels : Int) σ.mark.mark σ1 → Sm e pl σ1 σ2 → Sm e pl ((σ2.jump 167 (σ.mark.labels : Int)).here (σ.labels : Int)) σ3 → Chs e pl σ ((σ3.here (σ.mark.labels : Int)).put 0 0 0)
inductive Lp : Nat → Bool → SG → SG → Prop
  | mk {e : Nat} {pl : Bool} {σ σ1 : SG} (v k : Nat) : v < 4 → k < 6 → Sm e pl ((((((σ.mark.mark.put 3 0 0).put 54 (v : Int) 0).here (σ.labels : Int)).put 21 (v : Int) 0).put (3 + (k : Int)) 0 0).jump 162 (σ.mark.labels : Int)) σ1 → Lp e pl σ ((((σ1.put 132 (v : Int) 1).jump 167 (σ.labels : Int)).here (σ.mark.labels : Int)).put 0 0 0)
inductive Tr : Nat → Bool → SG → SG → Prop
  | t0 {e : Nat} {pl : Bool} {σ σ1 σ2 : SG} : Sm e pl ((σ.mark.mark.mark.mark.here (σ.labels : Int)).put 0 0 0) σ1 → Sm e pl ((((((σ1.here (σ.mark.labels : Int)).jump 167 (σ.mark.mark.mark.labels : Int)).here (σ.mark.mark.labels : Int)).caught (σ.mark.mark.labels : Int)).put 58 7 0).tried ⟨(σ.labels : Int), (σ.mark.labels : Int), (σ.mark.mark.labels : Int)⟩) σ2 → Tr e pl σ ((σ2.here (σ.mark.mark.mark.labels : Int)).put 0 0 0)
  | t1 {e : Nat} {pl : Bool} {σ σ1 σ2 : SG} : Sm e pl ((σ.mark.mark.mark.mark.here (σ.labels : Int)).put 0 0 0) σ1 → Sm e pl ((((((σ1.here (σ.mark.labels : Int)).jump 167 (σ.mark.mark.mark.labels : Int)).here (σ.mark.mark.labels : Int)).caught (σ.mark.mark.labels : Int)).put 58 7 0).tried ⟨(σ.labels : Int), (σ.mark.labels : Int), (σ.mark.mark.labels : Int)⟩) σ2 → Tr e pl σ ((((σ2.put 25 7 0).put 191 0 0).here (σ.mark.mark.mark.labels : Int)).put 0 0 0)
inductive Lk : Nat → Bool → SG → SG → Prop
  | l0 {e : Nat} {pl : Bool} {σ σ1 : SG} (v : Nat) : v < 2 → Sm e pl ((σ.put 25 (4 + (v : Int)) 0).put 194 0 0) σ1 → Lk e pl σ ((σ1.put 25 (4 + (v : Int)) 0).put 195 0 0)
  | l1 {e : Nat} {pl : Bool} {σ σ1 : SG} (v : Nat) (nm : ByteArray) : v < 2 → nm ∈ [sNotify, sNotifyAll, sWait] → Sm e pl ((σ.put 25 (4 + (v : Int)) 0).put 194 0 0) σ1 → Lk e pl σ ((((σ1.put 25 (4 + (v : Int)) 0).putC 182 (cMet sObj nm sV)).put 25 (4 + (v : Int)) 0).put 195 0 0)
end
def NumL (K : Int) (k c : Nat) : Prop := ∀ (B pr pm n d : Nat) (pl : Bool) (σ : SG) (w : World), Mk B pr pm n d pl σ w → n + c ≤ 800000 →
  Calls Try.prog 30 #[.pointer (some ⟨pm, 0, none⟩), .int .i64 K] w fun e w' => e = .returned (.tuple #[]) ∧ ∃ σ', Num k pl σ σ' ∧ Mk B pr pm (n + c) d pl σ' w' ∧ Kq B pr w w'
def RefL (K : Int) (k c : Nat) : Prop := ∀ (B pr pm n d : Nat) (pl : Bool) (σ : SG) (w : World), Mk B pr pm n d pl σ w → n + c ≤ 800000 →
  Calls Try.prog 41 #[.pointer (some ⟨pm, 0, none⟩), .int .i64 K] w fun e w' => e = .returned (.tuple #[]) ∧ ∃ σ', Ref k pl σ σ' ∧ Mk B pr pm (n + c) d pl σ' w' ∧ Kq B pr w w'
structure Nums : Prop where
  n1 : NumL 1 1 12
  n2 : NumL 2 2 28
  n3 : NumL 3 3 60
  r1 : RefL 1 1 12
  r2 : RefL 2 2 28
  r3 : RefL 3 3 60
def SomeL (d : Nat) (K : Int) (c : Nat) : Prop := ∀ (B pr pm n : Nat) (pl : Bool) (σ : SG) (w : World), Mk B pr pm n d pl σ w → n + c ≤ 700000 →
  Calls Try.prog 29 #[.pointer (some ⟨pm, 0, none⟩), .int .i64 K] w fun e w' => e = .returned (.tuple #[]) ∧ ∃ σ', Sm d pl σ σ' ∧ Mk B pr pm (n + c) d pl σ' w' ∧ Kq B pr w w'
def OneC (d c : Nat) : Prop := ∀ (B pr pm n : Nat) (pl : Bool) (σ : SG) (w : World), Mk B pr pm n d pl σ w → n + c ≤ 700000 →
  Calls Try.prog 39 #[.pointer (some ⟨pm, 0, none⟩)] w fun e w' => e = .returned (.tuple #[]) ∧ ∃ σ', One d pl σ σ' ∧ Mk B pr pm (n + c) d pl σ' w' ∧ Kq B pr w w'
def SomeC (d c : Nat) : Prop := ∀ (B pr pm n : Nat) (pl : Bool) (σ : SG) (K : Int) (w : World), Mk B pr pm n d pl σ w → 1 ≤ K → K ≤ 6 → n + K.toNat * c ≤ 700000 →
  Calls Try.prog 29 #[.pointer (some ⟨pm, 0, none⟩), .int .i64 K] w fun e w' => e = .returned (.tuple #[]) ∧ ∃ σ', Sm d pl σ σ' ∧ Mk B pr pm (n + K.toNat * c) d pl σ' w' ∧ Kq B pr w w'
theorem SomeC.one {d c : Nat} (h : SomeC d c) : SomeL d 1 c := fun B pr pm n pl σ w hm hn => by
  have := h B pr pm n pl σ 1 w hm (by omega) (by omega) (by simpa using hn)
  simpa using this
theorem SomeC.two {d c : Nat} (h : SomeC d c) : SomeL d 2 (2 * c) := fun B pr pm n pl σ w hm hn => by
  have := h B pr pm n pl σ 2 w hm (by omega) (by omega) (by simpa using hn)
  simpa using this
end Go.Proofs.Ytlnapfeglbdecaa.M
