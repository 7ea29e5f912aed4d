import Derived.Test.YtpehimfnkmepnaaGreatBx02
import Derived.Deep.QuietTactic
import Derived.BigQuiet
import Derived.Deep.AppendLies
import Derived.Lib.ValidU
import Derived.Lib.DecodeN
import Derived.Laws.BytesArg
import Derived.Deep.RegionHeld3
import Derived.Deep.RegionLaw
import Derived.Deep.DrawnRows
import Derived.Handy
set_option maxRecDepth 8000
set_option maxHeartbeats 40000000
namespace Go.Proofs.YtpehimfnkmepnaaGreat.Q
open Go.RowKit D
structure CD where
 kind : Int
 n : Int
 cls : ByteArray
 nm : ByteArray
 dsc : ByteArray
def CD.cells (c : CD) : List Value := [.int .i64 c.kind, .int .i32 c.n, .string c.cls, .string c.nm, .string c.dsc]
def CD.val (c : CD) : Value := .agg #[.int .i64 c.kind, .int .i32 c.n, .string c.cls, .string c.nm, .string c.dsc]
structure CD.Fits (c : CD) : Prop where
 c3 : c.cls.size ≤ 9223372036854775807
 c4 : c.nm.size ≤ 9223372036854775807
 c5 : c.dsc.size ≤ 9223372036854775807
abbrev bsB (s : ByteArray) : Bs := s.data.toList
def zCl (s : ByteArray) : Bool := s.toList.isEmpty
def zFc (s : ByteArray) : Bool := (zEr (bsB s)).2 || zAw (bsB s)
def zD3 (c : CD) : Bool := zAw (bsB c.cls) && zAw (bsB c.nm)
def zBr (s : ByteArray) : Bool := (meth (bsB s)).isSome && decide (s.size ≤ 256)
def zB0 (c : CD) : Bool :=
 if c.kind = 3 then zCl c.cls && zCl c.nm && zCl c.dsc
 else if c.kind = 7 then decide (c.n = 0) && zFc c.cls && zCl c.nm && zCl c.dsc
 else if c.kind = 9 then decide (c.n = 0) && zD3 c && zAp (bsB c.dsc)
 else if c.kind = 10 then decide (c.n = 0) && zD3 c && zBr c.dsc
 else false
theorem zMv (s : ByteArray) (w : World) (hs : s.size ≤ 9223372036854775807) :
 Calls Tryz.prog 172 #[.string s] w fun e w' => e = .returned (.bool (zFc s)) ∧ w' = w := by
 have hE := D.zA0 (zO5 s w hs)
 have hN := D.zA0 (zEd s w)
 unfold zFc bsB
 generalize (zEr s.data.toList).1 = X at *
 generalize (zEr s.data.toList).2 = a at *
 generalize zAw s.data.toList = b at *
 cases a
 · go_enter Tryz.func172, Tryz.ntmps172
   go_wp2_with fail
   refine hE.out.mono ?_
   rintro e w' ⟨rfl, hww⟩; cases hww
   go_wp2_with fail
   refine hN.out.mono ?_
   rintro e w' ⟨rfl, hww⟩; cases hww
   go_wp2
   go_ret
   exact ⟨by cases b <;> rfl, rfl⟩
 · go_enter Tryz.func172, Tryz.ntmps172
   go_wp2_with fail
   refine hE.out.mono ?_
   rintro e w' ⟨rfl, hww⟩; cases hww
   go_wp2
   go_ret
   exact ⟨rfl, rfl⟩
theorem zM4 (c : CD) (w : World) :
 Calls Tryz.prog 173 #[c.val] w fun e w' => e = .returned (.bool (zD3 c)) ∧ Below w.heap.size w w' := by
 have b1 : ∀ o, Below w.heap.size w (w.alloc o) := fun o => (Below.refl _ _).alloc (Nat.le_refl _) o
 have h1 := fun w => D.zA0 (zEd c.cls w)
 have h2 := fun w => D.zA0 (zEd c.nm w)
 unfold zD3 bsB
 generalize zAw c.cls.data.toList = a at *
 generalize zAw c.nm.data.toList = b at *
 obtain ⟨kind, n, cls, nm, dsc⟩ := c
 unfold CD.val
 simp only at h1 h2 ⊢
 cases a
 · go_enter Tryz.func173, Tryz.ntmps173
   go_wp2_with fail
   refine (h1 _).out.mono ?_
   rintro e w' ⟨rfl, hww⟩; cases hww
   go_wp2
   go_ret
   exact ⟨rfl, b1 _⟩
 · go_enter Tryz.func173, Tryz.ntmps173
   go_wp2_with fail
   refine (h1 _).out.mono ?_
   rintro e w' ⟨rfl, hww⟩; cases hww
   go_wp2_with fail
   refine (h2 _).out.mono ?_
   rintro e w' ⟨rfl, hww⟩; cases hww
   go_wp2
   go_ret
   exact ⟨by cases b <;> rfl, b1 _⟩
theorem zMa (s : ByteArray) (w : World) (hs : s.size ≤ 9223372036854775807) :
 Calls Tryz.prog 174 #[.string s] w fun e w' => e = .returned (.bool (zBr s)) ∧ Below w.heap.size w w' := by
 have hM := D.zA0 (zAk s w hs)
 go_enter Tryz.func174, Tryz.ntmps174
 go_wp2_with fail
 refine hM.out.mono ?_
 rintro e w' ⟨hb, ha⟩
 rcases ha with ⟨ps, r, v, hm, rfl, ho⟩ | ⟨hm, rfl⟩
 · have HM := D.zA0 hm
   clear hm
   by_cases h : s.size ≤ 256
   · have h' : (s.size : Int) ≤ 256 := by omega
     go_wp2
     go_ret
     exact ⟨by unfold zBr bsB; rw [HM.out, decide_eq_true h]; rfl, hb⟩
   · have h' : ¬ (s.size : Int) ≤ 256 := by omega
     go_wp2
     go_ret
     exact ⟨by unfold zBr bsB; rw [HM.out, decide_eq_false h]; show Ending.returned (.bool (decide ((s.size : Int) ≤ 256))) = _; rw [decide_eq_false (by omega)]; rfl, hb⟩
 · have HM := D.zA0 hm
   clear hm
   go_wp2
   go_ret
   exact ⟨by unfold zBr bsB; rw [HM.out]; rfl, hb⟩
theorem zCx {a b : Bool} (h : a = b) : Ending.returned (.bool a) = .returned (.bool b) := by rw [h]
theorem zRe (c : CD) (w : World) (hf : c.Fits) :
 Calls Tryz.prog 149 #[c.val] w fun e w' => e = .returned (.bool (zB0 c)) ∧ Below w.heap.size w w' := by
 have b1 : ∀ o, Below w.heap.size w (w.alloc o) := fun o => (Below.refl _ _).alloc (Nat.le_refl _) o
 have hC := fun w => D.zA0 (zMv c.cls w hf.c3)
 have hM := fun w => D.zA0 (zM4 c w)
 have hD := fun w => D.zA0 (zMa c.dsc w hf.c5)
 have hF := fun w => D.zA0 (zB3 c.dsc w hf.c5)
 have HR : Hid (zB0 c = zB0 c) := rfl
 revert HR
 generalize hR : zB0 c = R
 unfold zB0 zCl at hR
 intro _
 generalize zFc c.cls = cb at *
 generalize zD3 c = mb at *
 generalize zBr c.dsc = db at *
 generalize zAp (bsB c.dsc) = fb at *
 obtain ⟨kind, n, cls, nm, dsc⟩ := c
 unfold CD.val at *
 simp only at hC hM hD hF hR ⊢
 have HR := D.zA0 hR
 clear hR hf
 by_cases k3 : kind = 3
 · subst k3
   go_enter Tryz.func149, Tryz.ntmps149
   go_wp2
   all_goals (go_ret; refine ⟨zCx ?_, b1 _⟩; rw [← HR.out]; simp_all)
 · by_cases k7 : kind = 7
   · subst k7
     by_cases h0 : n = 0
     · subst h0
       cases cb
       · go_enter Tryz.func149, Tryz.ntmps149
         go_wp2_with fail
         refine (hC _).out.mono ?_
         rintro e w' ⟨rfl, hww⟩; cases hww
         go_wp2
         all_goals (go_ret; refine ⟨zCx ?_, b1 _⟩; rw [← HR.out]; simp_all)
       · go_enter Tryz.func149, Tryz.ntmps149
         go_wp2_with fail
         refine (hC _).out.mono ?_
         rintro e w' ⟨rfl, hww⟩; cases hww
         go_wp2
         all_goals (go_ret; refine ⟨zCx ?_, b1 _⟩; rw [← HR.out]; simp_all)
     · go_enter Tryz.func149, Tryz.ntmps149
       go_wp2
       all_goals (go_ret; refine ⟨zCx ?_, b1 _⟩; rw [← HR.out]; simp_all)
   · by_cases k9 : kind = 9
     · subst k9
       by_cases h0 : n = 0
       · subst h0
         cases mb
         · go_enter Tryz.func149, Tryz.ntmps149
           go_wp2_with fail
           refine (hM _).out.mono ?_
           rintro e w2 ⟨rfl, b2⟩
           have BB := (b1 _).trans (b2.mono (by simp))
           go_wp2
           all_goals (go_ret; refine ⟨zCx ?_, BB⟩; rw [← HR.out]; simp_all)
         · go_enter Tryz.func149, Tryz.ntmps149
           go_wp2_with fail
           refine (hM _).out.mono ?_
           rintro e w2 ⟨rfl, b2⟩
           have BB := (b1 _).trans (b2.mono (by simp))
           have c4 : w2.cell? ⟨w.heap.size, 4, none⟩ = some (.string dsc) := cell_later b2 (by rw [cell_of_row _ _ 4 _ 112 (0, 0) (heap_alloc_new w _)]; rfl)
           go_wp2_with fail
           refine (hF _).out.mono ?_
           rintro e w' ⟨rfl, hww⟩; cases hww
           go_wp2
           all_goals (go_ret; refine ⟨zCx ?_, BB⟩; rw [← HR.out]; simp_all)
       · go_enter Tryz.func149, Tryz.ntmps149
         go_wp2
         all_goals (go_ret; refine ⟨zCx ?_, b1 _⟩; rw [← HR.out]; simp_all)
     · by_cases k10 : kind = 10
       · subst k10
         by_cases h0 : n = 0
         · subst h0
           cases mb
           · go_enter Tryz.func149, Tryz.ntmps149
             go_wp2_with fail
             refine (hM _).out.mono ?_
             rintro e w2 ⟨rfl, b2⟩
             have BB := (b1 _).trans (b2.mono (by simp))
             go_wp2
             all_goals (go_ret; refine ⟨zCx ?_, BB⟩; rw [← HR.out]; simp_all)
           · go_enter Tryz.func149, Tryz.ntmps149
             go_wp2_with fail
             refine (hM _).out.mono ?_
             rintro e w2 ⟨rfl, b2⟩
             have c4 : w2.cell? ⟨w.heap.size, 4, none⟩ = some (.string dsc) := cell_later b2 (by rw [cell_of_row _ _ 4 _ 112 (0, 0) (heap_alloc_new w _)]; rfl)
             go_wp2_with fail
             refine (hD _).out.mono ?_
             rintro e w3 ⟨rfl, b3⟩
             have hs2 := b2.size
             have BB := (b1 _).trans ((b2.mono (by simp)).trans (b3.mono (by simp at hs2; omega)))
             go_wp2
             all_goals (go_ret; refine ⟨zCx ?_, BB⟩; rw [← HR.out]; simp_all)
         · go_enter Tryz.func149, Tryz.ntmps149
           go_wp2
           all_goals (go_ret; refine ⟨zCx ?_, b1 _⟩; rw [← HR.out]; simp_all)
       · go_enter Tryz.func149, Tryz.ntmps149
         go_wp2
         all_goals (go_ret; refine ⟨zCx ?_, b1 _⟩; rw [← HR.out]; simp_all)
end Go.Proofs.YtpehimfnkmepnaaGreat.Q
namespace Go.Proofs.YtpehimfnkmepnaaGreat.Q
open Go.RowKit
def zSw (H : Nat) (v v' : Value) : Prop := v'.ownBlock = v.ownBlock ∨ ∃ g, v'.ownBlock = some g ∧ H ≤ g
structure Step (v : Value) (w : World) (v' : Value) (w' : World) : Prop where
 grown : w.grownBy w' v.ownBlock
 moved : zSw w.heap.size v v'
theorem Step.refl (v : Value) (w : World) : Step v w v w := ⟨⟨rfl, rfl, rfl, Nat.le_refl _, fun _ _ _ => rfl⟩, .inl rfl⟩
theorem Step.trans {v v1 v2 : Value} {w w1 w2 : World} (h : Step v w v1 w1) (k : Step v1 w1 v2 w2) : Step v w v2 w2 := by
 refine ⟨⟨k.grown.os.trans h.grown.os, k.grown.tape.trans h.grown.tape, k.grown.output.trans h.grown.output, Nat.le_trans h.grown.size k.grown.size, ?_⟩, ?_⟩
 · intro i hi hne
   have h1 := h.grown.block i hi hne
   have hlt : i < w1.heap.size := Nat.lt_of_lt_of_le hi h.grown.size
   rw [k.grown.block i hlt ?_, h1]
   rcases h.moved with e | ⟨g, e, hg⟩
   · rw [e]; exact hne
   · rw [e]; intro e2; cases e2; omega
 · rcases k.moved with e | ⟨g, e, hg⟩
   · rcases h.moved with e1 | ⟨g1, e1, hg1⟩
     · exact .inl (e.trans e1)
     · exact .inr ⟨g1, e.trans e1, hg1⟩
   · exact .inr ⟨g, e, Nat.le_trans h.grown.size hg⟩
theorem Step.of_at {v v' : Value} {w w' : World} (hg : w.grownBy w' v.ownBlock) (ha : v'.ownBlock = v.ownBlock ∨ v'.ownBlock = some w.heap.size) : Step v w v' w' :=
 ⟨hg, ha.imp id fun e => ⟨_, e, Nat.le_refl _⟩⟩
theorem Step.below {v v' : Value} {w w' : World} (h : Step v w v' w') {B : Nat} (hB : B ≤ w.heap.size) (hv : ∀ k, v.ownBlock = some k → B ≤ k) : Below B w w' :=
 (Below.refl _ _).grown h.grown hB hv
theorem Tryz.info5 : (Tryz.prog.info? 5).map (fun i => (i.zero, i.size, i.bytes)) = some (some (.int .u8 0), 1, 1) := by kernel_rfl
theorem zC3 {k : IntKind} {a b : Int} (h : a = b) : Ending.returned (.int k a) = .returned (.int k b) := by rw [h]
def zAh (l : List Int) : List Value := l.map (Value.int .u8)
theorem zFb (a b : List Int) : zAh (a ++ b) = zAh a ++ zAh b := by simp [zAh]
theorem zA0 {p : Prop} (h : p) : Hid p := h
def Lies (w : World) (g off : Nat) (l : List Int) : Prop := ∀ j x, l[j]? = some x → w.cell? ⟨g, off + j, none⟩ = some (.int .u8 x)
def zAq (l : List Int) : Prop := ∀ x ∈ l, 0 ≤ x ∧ x ≤ 255
def View (w : World) (v : Value) (l : List Int) : Prop :=
 ∃ ao cap, v = .slice ao l.length cap ∧ l.length ≤ cap ∧ cap ≤ maxLen ∧ zAq l ∧ (l = [] ∨ ∃ g off, ao = some ⟨g, off, none⟩ ∧ Lies w g off l)
theorem View.below {w wr : World} {v : Value} {l : List Int} (h : View w v l) (hb : Below w.heap.size w wr) : View wr v l := by
 obtain ⟨ao, cap, rfl, hc, hm, hy, hl⟩ := h
 refine ⟨ao, cap, rfl, hc, hm, hy, ?_⟩
 rcases hl with h | ⟨g, off, e, hl⟩
 · exact .inl h
 · exact .inr ⟨g, off, e, fun j x hj => cell_later hb (hl j x hj)⟩
theorem View.of_own {w : World} {B : Nat} {v : Value} {l : List Int} (h : w.ownsRow B 5 1 v l.length (zAh l)) (hb : zAq l) : View w v l := by
 rcases h.2 with ⟨rfl, h0⟩ | ⟨g, cap, cur, rfl, _, hg, h1, h2, h3, h4⟩
 · have : l = [] := List.length_eq_zero_iff.1 h0
   subst this
   exact ⟨none, 0, rfl, Nat.le_refl _, by unfold maxLen; omega, hb, .inl rfl⟩
 · refine ⟨some ⟨g, 0, none⟩, cap, rfl, h1, h2, hb, .inr ⟨g, 0, rfl, fun j x hj => ?_⟩⟩
   have hj' : (zAh l)[j]? = some (.int .u8 x) := by simp [zAh, hj]
   have := h.cells (g := g) rfl j _ hj'
   have e : (⟨g, 0, none⟩ : Addr).add j = ⟨g, 0 + j, none⟩ := by unfold Addr.add; split <;> simp_all
   rwa [e] at this
theorem zSm (w : World) (a : Option Addr) (l c : Nat) : (binOp .eql 35 (.slice a l c) (.slice none 0 0)).run Tryz.prog w = .ok (.bool a.isNone) w := by
 simp [binOp, run_equal_slice_nil w 35 5 a l c Tryz.underlying35]
theorem zF7 {w : World} {g off : Nat} {l : List Int} (h : Lies w g off l) (j : Nat) (u : Value) (hj : (zAh l)[j]? = some u) : w.cell? ((⟨g, off, none⟩ : Addr).add j) = some u := by
 have e : (⟨g, off, none⟩ : Addr).add j = ⟨g, off + j, none⟩ := by unfold Addr.add; split <;> simp_all
 rw [e]
 simp only [zAh, List.getElem?_map, Option.map_eq_some_iff] at hj
 obtain ⟨x, hx, rfl⟩ := hj
 exact h j x hx
theorem zFy (l : List Int) : ∀ u ∈ zAh l, u.oneCell' = true := by
 intro u hu
 simp only [zAh, List.mem_map] at hu
 obtain ⟨x, _, rfl⟩ := hu
 rfl
theorem zQw (v : Value) (l : List Int) (w : World) (hv : View w v l) (hlen : l.length ≤ 140737488355328) :
 Calls Tryz.prog 113 #[v] w fun e w' => Below w.heap.size w w' ∧ ∃ v', e = .returned v' ∧ w'.ownsRow w.heap.size 5 1 v' l.length (zAh l) := by
 obtain ⟨i0, hi, hz0, hz1, hz2⟩ := info_parts Tryz.info5
 obtain ⟨ao, cap, rfl, hc, hm, hy, hl⟩ := hv
 cases ao with
 | none =>
   obtain rfl : l = [] := by
    rcases hl with h | ⟨g, off, h, _⟩
    · exact h
    · cases h
   have hq := zSm w none 0 cap
   go_enter Tryz.func113, Tryz.ntmps113
   go_wp2
   go_ret
   exact ⟨Below.refl _ _, _, rfl, World.ownsRow_nil _ _ _ _⟩
 | some a =>
   have hq := zSm w (some a) l.length cap
   have hown0 : (w.alloc (.cells #[] 5)).ownsRow w.heap.size 5 1 (.slice (some ⟨w.heap.size, 0, none⟩) 0 0) 0 [] := World.ownsRow_made w #[] 0 (Nat.le_refl _) (by unfold maxLen; omega) rfl
   have zC7 : ∀ j u, (zAh l)[j]? = some u → (w.alloc (.cells #[] 5)).cell? (a.add j) = some u := by
    intro j u hj
    rcases hl with rfl | ⟨g, off, e, hl⟩
    · simp [zAh] at hj
    · cases e
      exact cell_later ((Below.refl _ w).alloc (Nat.le_refl _) _) (zF7 hl j u hj)
   go_enter Tryz.func113, Tryz.ntmps113
   go_wp2_with (at_builtin; refine wpList_append_own_at _ rfl _ _ 35 rfl w.heap.size 5 i0 (.int .u8 0) 1 1 Tryz.underlying35 hi hz0 hz1 hz2 rfl (by decide) _ _ _ rfl hown0 _ _ _ (zAh l) rfl (by simp [zAh]) zC7 (zFy l) (by unfold maxLen; omega) (by omega) (by simp) ?_; intro v1 w1 ho1 hg1 _ hat1)
   go_wp2
   go_ret
   refine ⟨((Below.refl _ _).alloc (Nat.le_refl _) _).grown hg1 (by simp) (fun k h => (hown0.lt k h).1), _, rfl, ?_⟩
   simpa using ho1
theorem zAb {w : World} {b : Nat} {cs : Array Value} {T : TypeId} (hb : w.heap[b]? = some (.cells cs T (0, 0))) (j : Nat) : w.frozen? ⟨b, j, none⟩ = false := by
 simp [World.frozen?, hb]
attribute [local go_sem ↓] Go.wp_at_zero Go.wp_at_succ
def be (n : Int) : Nat → List Int
 | 0 => []
 | k + 1 => (n / 2 ^ (8 * k) % 256) :: be n k
theorem zE8 (w : World) (ty : TypeId) (B : Nat) (v vb : Value) (n : Nat) (xs : List Value) (lb : List Int) (hown : w.ownsRow B 5 1 v n xs) (hv : View w vb lb) (hlen : n + lb.length ≤ 140737488355328) (hB : B ≤ w.heap.size) :
 ∃ v' w', (Builtin.append_ #[35, 35] ty #[v, vb]).run Tryz.prog w = .ok v' w' ∧ w'.ownsRow B 5 1 v' (n + lb.length) (xs ++ zAh lb) ∧ Step v w v' w' := by
 obtain ⟨i0, hi, hz0, hz1, hz2⟩ := info_parts Tryz.info5
 obtain ⟨ao, cap, rfl, hc, hm, hy, hl⟩ := hv
 rcases hl with rfl | ⟨g, off, rfl, hl⟩
 · refine ⟨v, w, ?_, by simpa [zAh] using hown, Step.refl _ _⟩
   rcases hown.2 with ⟨rfl, rfl⟩ | ⟨g, cap, cur, rfl, hbg, hg, hnc, hcm, hcs, htake⟩
   · cases ao <;> simp [Builtin.append_, run_underlying Tryz.underlying35, sizeOf, typeInfo, hi, Builtin.lenOf, Builtin.firstCells, loadCells, loadCellsFrom]
   · cases ao <;> simp [Builtin.append_, run_underlying Tryz.underlying35, sizeOf, typeInfo, hi, Builtin.lenOf, Builtin.firstCells, loadCells, loadCellsFrom, hnc, storeCells]
 · obtain ⟨v', w', hr, ho, hg, _, hat⟩ := run_append_own_at (P := Tryz.prog) w B 35 ty 5 i0 (.int .u8 0) 1 1 Tryz.underlying35 hi hz0 hz1 hz2 rfl (by decide) v n xs hown ⟨g, off, none⟩ lb.length cap (zAh lb) (by simp [zAh]) (fun j u hj => zF7 hl j u hj) (zFy lb) (by unfold maxLen; omega) (by omega) hB
   exact ⟨v', w', hr, ho, Step.of_at hg hat⟩
theorem zEg {w : World} {ops : Array Oper} {rest : List Oper} {o : Oper} {a : Act} {Q : Exit → Act → World → Prop} (hgd : o.guard = none) (s x : Operand)
 (ho : o.op = .call { callee := .builtin .append, args := #[s, x], argTypes := #[35, 35] })
 (B : Nat) (v vb : Value) (n : Nat) (xs : List Value) (lb : List Int) (hs : a.eval s = v) (hown : w.ownsRow B 5 1 v n xs) (hx : a.eval x = vb) (hv : View w vb lb)
 (hlen : n + lb.length ≤ 140737488355328) (hB : B ≤ w.heap.size)
 (h : ∀ v' w', w'.ownsRow B 5 1 v' (n + lb.length) (xs ++ zAh lb) → Step v w v' w' → wpList Tryz.prog ops Q rest (a.put o.dst v') w') :
 wpList Tryz.prog ops Q (o :: rest) a w := by
 refine wpList_plain hgd fun K hK => ?_
 obtain ⟨v', w', hr, h2, h3⟩ := zE8 w o.type B v vb n xs lb hown hv hlen hB
 unfold Oper.wp execOp
 simp only [ho, resolve, invoke, builtin, Sem.run_bind, Sem.run_pure, Result.andThen_ok, List.map_toArray, List.map_cons, List.map_nil, hs, hx, hr]
 exact hK _ _ (h v' w' h2 h3)
theorem zA4 {w : World} {B n : Nat} {v : Value} {xs : List Value} (h : w.ownsRow B 5 1 v n xs) : ∃ ao cap, v = .slice ao n cap := by
 rcases h.2 with ⟨rfl, rfl⟩ | ⟨g, cap, cur, rfl, _⟩
 · exact ⟨_, _, rfl⟩
 · exact ⟨_, _, rfl⟩
theorem zAq.append {a b : List Int} (ha : zAq a) (hb : zAq b) : zAq (a ++ b) := fun x hx => by
 rcases List.mem_append.1 hx with h | h
 · exact ha x h
 · exact hb x h
theorem zAq.nil : zAq [] := fun x hx => by simp at hx
def ceq (c d : CD) : Bool := (c.kind == d.kind) && (c.n == d.n) && (c.cls.toList == d.cls.toList) && (c.nm.toList == d.nm.toList) && (c.dsc.toList == d.dsc.toList)
theorem zS0 (w : World) (c d : CD) : (binOp .eql 112 c.val d.val).run Tryz.prog w = .ok (.bool (ceq c d)) w := by
 unfold CD.val ceq
 go_simp
 by_cases h1 : c.kind = d.kind
 · by_cases h2 : c.n = d.n
   · by_cases h3 : c.cls.toList = d.cls.toList
     · by_cases h4 : c.nm.toList = d.nm.toList
       · by_cases h5 : c.dsc.toList = d.dsc.toList <;> simp [h1, h2, h3, h4, h5]
       · simp [h1, h2, h3, h4]
     · simp [h1, h2, h3]
   · simp [h1, h2]
 · simp [h1]
theorem zCg {a b : ByteArray} (h : a.toList = b.toList) : a = b := by
 rw [Lib.toList_data, Lib.toList_data] at h
 rw [← D.zB2 a, ← D.zB2 b, h]
theorem zMx (c d : CD) : ceq c d = true ↔ c = d := by
 constructor
 · intro h
   simp only [ceq, Bool.and_eq_true, beq_iff_eq] at h
   obtain ⟨⟨⟨⟨h1, h2⟩, h3⟩, h4⟩, h5⟩ := h
   cases c; cases d
   simp only at h1 h2 h3 h4 h5
   rw [h1, h2, zCg h3, zCg h4, zCg h5]
 · rintro rfl; simp [ceq]
structure CD.Ok (c : CD) : Prop extends c.Fits where
 nlo : -2147483648 ≤ c.n
 nhi : c.n ≤ 2147483647
structure CAt (w : World) (g o : Nat) (c : CD) : Prop where
 c0 : w.cell? ⟨g, o, none⟩ = some (.int .i64 c.kind)
 c1 : w.cell? ⟨g, o + 1, none⟩ = some (.int .i32 c.n)
 c2 : w.cell? ⟨g, o + 2, none⟩ = some (.string c.cls)
 c3 : w.cell? ⟨g, o + 3, none⟩ = some (.string c.nm)
 c4 : w.cell? ⟨g, o + 4, none⟩ = some (.string c.dsc)
theorem CAt.below {w wr : World} {g o : Nat} {c : CD} (h : CAt w g o c) (hb : Below w.heap.size w wr) : CAt wr g o c :=
 ⟨cell_later hb h.c0, cell_later hb h.c1, cell_later hb h.c2, cell_later hb h.c3, cell_later hb h.c4⟩
theorem CAt.block {w wr : World} {g o : Nat} {c : CD} (h : CAt w g o c) (hb : wr.heap[g]? = w.heap[g]?) : CAt wr g o c := by
 have k : ∀ o, wr.cell? ⟨g, o, none⟩ = w.cell? ⟨g, o, none⟩ := fun o => World.cell?_of_block (a := ⟨g, o, none⟩) hb
 exact ⟨(k _).trans h.c0, (k _).trans h.c1, (k _).trans h.c2, (k _).trans h.c3, (k _).trans h.c4⟩
def zBz (w : World) (g off : Nat) (l : List CD) : Prop := ∀ (i : Nat) c, l[i]? = some c → CAt w g (off + i * 5) c
def zEh (w : World) (v : Value) (l : List CD) : Prop :=
 ∃ ao cap, v = .slice ao l.length cap ∧ l.length ≤ cap ∧ cap ≤ maxLen ∧ (∀ c ∈ l, c.Ok) ∧ (l = [] ∨ ∃ g off, ao = some ⟨g, off, none⟩ ∧ zBz w g off l)
theorem zEh.below {w wr : World} {v : Value} {l : List CD} (h : zEh w v l) (hb : Below w.heap.size w wr) : zEh wr v l := by
 obtain ⟨ao, cap, rfl, hc, hm, hk, hl⟩ := h
 refine ⟨ao, cap, rfl, hc, hm, hk, ?_⟩
 rcases hl with h | ⟨g, off, e, hl⟩
 · exact .inl h
 · exact .inr ⟨g, off, e, fun i c hi => (hl i c hi).below hb⟩
theorem zEh.nil (w : World) : zEh w (.slice none 0 0) [] := ⟨none, 0, rfl, Nat.le_refl _, by unfold maxLen; omega, by simp, .inl rfl⟩
def zAu (l : List CD) : List Value := l.flatMap CD.cells
theorem zDy (c : CD) (l : List CD) : zAu (c :: l) = c.cells ++ zAu l := rfl
theorem zGv (a b : List CD) : zAu (a ++ b) = zAu a ++ zAu b := by simp [zAu]
theorem zG2 (l : List CD) : (zAu l).length = l.length * 5 := by
 induction l with
 | nil => rfl
 | cons c l ih => rw [zDy, List.length_append, ih]; simp [CD.cells]; omega
theorem zJy (l : List CD) : ∀ u ∈ zAu l, u.oneCell' = true := by
 intro u hu
 simp only [zAu, List.mem_flatMap, CD.cells] at hu
 obtain ⟨c, _, hu⟩ := hu
 simp at hu
 rcases hu with rfl | rfl | rfl | rfl | rfl <;> rfl
theorem zEs : ∀ (l : List CD) (i : Nat) (c : CD), l[i]? = some c → ∀ j, j < 5 → (zAu l)[i * 5 + j]? = c.cells[j]? := by
 intro l
 induction l with
 | nil => intro i c h; simp at h
 | cons d l ih =>
   intro i c h j hj
   rw [zDy]
   cases i with
   | zero =>
     simp at h; subst h
     rw [Nat.zero_mul, Nat.zero_add]
     exact List.getElem?_append_left (by simp [CD.cells]; omega)
   | succ i =>
     have hi : l[i]? = some c := by simpa using h
     rw [List.getElem?_append_right (by simp [CD.cells]; omega)]
     have e : (i + 1) * 5 + j - d.cells.length = i * 5 + j := by simp [CD.cells]; omega
     rw [e]
     exact ih i c hi j hj
theorem zH8 (g off j : Nat) : (⟨g, off, none⟩ : Addr).add j = ⟨g, off + j, none⟩ := by unfold Addr.add; split <;> simp_all
theorem zBz.cells {w : World} {g off : Nat} {l : List CD} (h : zBz w g off l) (j : Nat) (u : Value) (hj : (zAu l)[j]? = some u) : w.cell? ((⟨g, off, none⟩ : Addr).add j) = some u := by
 rw [zH8]
 have hlt : j < l.length * 5 := by rw [← zG2]; exact (List.getElem?_eq_some_iff.1 hj).1
 have hi : j / 5 < l.length := by omega
 obtain ⟨c, hc⟩ : ∃ c, l[j / 5]? = some c := ⟨_, List.getElem?_eq_getElem hi⟩
 have e := zEs l (j / 5) c hc (j % 5) (by omega)
 rw [show j / 5 * 5 + j % 5 = j by omega, hj] at e
 have hA := h (j / 5) c hc
 have h5 : j % 5 < 5 := by omega
 have ej : off + j = off + j / 5 * 5 + j % 5 := by omega
 rw [ej]
 generalize j % 5 = r at *
 generalize off + j / 5 * 5 = o at *
 match r, h5, e with
 | 0, _, e => simp [CD.cells] at e; subst e; exact hA.c0
 | 1, _, e => simp [CD.cells] at e; subst e; exact hA.c1
 | 2, _, e => simp [CD.cells] at e; subst e; exact hA.c2
 | 3, _, e => simp [CD.cells] at e; subst e; exact hA.c3
 | 4, _, e => simp [CD.cells] at e; subst e; exact hA.c4
theorem zBz.of_cells {w : World} {g off : Nat} {l : List CD} (h : ∀ j u, (zAu l)[j]? = some u → w.cell? ((⟨g, off, none⟩ : Addr).add j) = some u) : zBz w g off l := by
 intro i c hi
 have k := fun j (hj : j < 5) u (hu : c.cells[j]? = some u) => by
  have := h (i * 5 + j) u ((zEs l i c hi j hj).trans hu)
  rw [zH8, ← Nat.add_assoc] at this
  exact this
 exact ⟨k 0 (by omega) _ rfl, k 1 (by omega) _ rfl, k 2 (by omega) _ rfl, k 3 (by omega) _ rfl, k 4 (by omega) _ rfl⟩
theorem zEh.of_own {w : World} {B : Nat} {v : Value} {l : List CD} (h : w.ownsRow B 112 5 v l.length (zAu l)) (hk : ∀ c ∈ l, c.Ok) : zEh w v l := by
 rcases h.2 with ⟨rfl, h0⟩ | ⟨g, cap, cur, rfl, _, hg, h1, h2, h3, h4⟩
 · have : l = [] := List.length_eq_zero_iff.1 h0
   subst this
   exact zEh.nil w
 · exact ⟨some ⟨g, 0, none⟩, cap, rfl, h1, h2, hk, .inr ⟨g, 0, rfl, zBz.of_cells (h.cells (g := g) rfl)⟩⟩
theorem zK4 {w : World} {B n : Nat} {v : Value} {xs : List Value} (h : w.ownsRow B 112 5 v n xs) : ∃ ao cap, v = .slice ao n cap := by
 rcases h.2 with ⟨rfl, rfl⟩ | ⟨g, cap, cur, rfl, _⟩
 · exact ⟨_, _, rfl⟩
 · exact ⟨_, _, rfl⟩
def zPq : CD := ⟨0, 0, ⟨#[]⟩, ⟨#[]⟩, ⟨#[]⟩⟩
theorem Tryz.info112 : (Tryz.prog.info? 112).map (fun i => (i.zero, i.size, i.bytes)) = some (some zPq.val, 5, 64) := by kernel_rfl
theorem zLr (w : World) (c : CD) : CAt (w.alloc (.cells #[.int .i64 c.kind, .int .i32 c.n, .string c.cls, .string c.nm, .string c.dsc] 112)) w.heap.size 0 c := by
 have h := heap_alloc_new w (.cells #[.int .i64 c.kind, .int .i32 c.n, .string c.cls, .string c.nm, .string c.dsc] 112)
 constructor
 all_goals rw [cell_of_row _ _ _ _ 112 (0, 0) h]; rfl
theorem zAe {B : Nat} {w W : World} (h : Below B w W) (q : Nat) : Below B w (W.drewN q) := ⟨h.os, h.tape, h.output, h.size, h.block⟩
end Go.Proofs.YtpehimfnkmepnaaGreat.Q
