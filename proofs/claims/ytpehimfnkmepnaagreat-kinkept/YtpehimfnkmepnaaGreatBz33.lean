import Derived.Test.YtpehimfnkmepnaaGreatBz32
import Derived.RangeFuncNested
import Derived.RangeFuncBound
import Derived.RangeFuncCalls
import Derived.RangeFuncLeaves
import Derived.Shelf.Abstract
import Derived.Shelf.RegionOpen
import Derived.OwnWalkIn
import Derived.TacticsInMore
import Derived.LoopNIn
import Derived.LoopIn
set_option maxRecDepth 8000
set_option maxHeartbeats 40000000
namespace Go.Proofs.YtpehimfnkmepnaaGreat.K
open Go.RowKit Q Q.D
structure CcI (w W : World) (nm sup : ByteArray) (pool : List CD) (fs : List FD) (ms : List MD) (a1 : Option Addr) (p1 : Nat) (a4 : Option Addr) (p4 : Nat) (a6 : Option Addr) (p6 : Nat) (rows : Nat → List Value) : Prop where
 X : Blk W w.heap.size #[.string nm, .string sup, .slice a1 pool.length p1, .slice a4 fs.length p4, .slice a6 ms.length p6] 31
 Y : Blk W (w.heap.size + 1) #[.string ⟨#[]⟩, .string ⟨#[]⟩, .slice none 0 0, .slice none 0 0, .slice none 0 0] 31
 B : Below w.heap.size w W
 V : LAt 5 zHe (seen (zAc (w.heap.size + 2) (.slice a6 ms.length p6)) W) a1 p1 pool
 L : LAt 3 zFd (seen (zAc (w.heap.size + 2) (.slice a6 ms.length p6)) W) a4 p4 fs
 o : W.ownsRow (w.heap.size + 2) 39 9 (.slice a6 ms.length p6) ms.length (zAw rows ms.length)
 k : ∀ j, j < ms.length → (rows j).length = 9
theorem CcI.below {w W W' : World} {nm sup : ByteArray} {pool : List CD} {fs : List FD} {ms : List MD} {a1 : Option Addr} {p1 : Nat} {a4 : Option Addr} {p4 : Nat} {a6 : Option Addr} {p6 : Nat} {rows : Nat → List Value}
 (I : CcI w W nm sup pool fs ms a1 p1 a4 p4 a6 p6 rows) (h : Below W.heap.size W W') : CcI w W' nm sup pool fs ms a1 p1 a4 p4 a6 p6 rows :=
 ⟨I.X.below h, I.Y.below h, I.B.trans (h.mono I.B.size), LAt.ext I.V (zAe h) (fun _ _ h => h), LAt.ext I.L (zAe h) (fun _ _ h => h), zC0 I.o h, I.k⟩
theorem CcI.set {w W : World} {nm sup : ByteArray} {pool : List CD} {fs : List FD} {ms : List MD} {a1 : Option Addr} {p1 : Nat} {a4 : Option Addr} {p4 : Nat} {g p6 : Nat} {rows : Nat → List Value}
 (I : CcI w W nm sup pool fs ms a1 p1 a4 p4 (some ⟨g, 0, none⟩) p6 rows) {i t : Nat} (hi : i < ms.length) (ht : t < 9) (u : Value) :
 CcI w (W.setCell ⟨g, i * 9 + t, none⟩ u) nm sup pool fs ms a1 p1 a4 p4 (some ⟨g, 0, none⟩) p6 (setRow rows i t u) := by
 have hg := (I.o.lt g rfl).1
 have E := zAt (w := W) (lo := w.heap.size + 2) (v := .slice (some ⟨g, 0, none⟩) ms.length p6) (.inr rfl) (i * 9 + t) u
 refine ⟨I.X.other (by omega) _ _, I.Y.other (by omega) _ _, zAd I.B (by omega) _ _, LAt.ext I.V E (fun _ _ h => h), LAt.ext I.L E (fun _ _ h => h), ?_, zDo I.k hi⟩
 rw [← zHa I.k hi ht]
 exact (I.o.stored _ _).1
def set9 (W : World) (g o : Nat) (c0 c1 c2 c3 c4 c5 c6 c7 c8 : Value) : World :=
 ((((((((W.setCell ⟨g, o, none⟩ c0).setCell ⟨g, o + 1, none⟩ c1).setCell ⟨g, o + 2, none⟩ c2).setCell ⟨g, o + 3, none⟩ c3).setCell ⟨g, o + 4, none⟩ c4).setCell ⟨g, o + 5, none⟩ c5).setCell ⟨g, o + 6, none⟩ c6).setCell ⟨g, o + 7, none⟩ c7).setCell ⟨g, o + 8, none⟩ c8
def putR (rows : Nat → List Value) (i : Nat) (r : List Value) (j : Nat) : List Value := if j = i then r else rows j
theorem zLx {lo : Nat} {v : Value} {w : World} {g : Nat} (hb : v.ownBlock = some g) (o : Nat) (c0 c1 c2 c3 c4 c5 c6 c7 c8 : Value) : Ext (seen (zAc lo v) w) (seen (zAc lo v) (set9 w g o c0 c1 c2 c3 c4 c5 c6 c7 c8)) :=
 ((((((((zAt (.inr hb) o c0).trans (zAt (.inr hb) (o + 1) c1)).trans (zAt (.inr hb) (o + 2) c2)).trans (zAt (.inr hb) (o + 3) c3)).trans (zAt (.inr hb) (o + 4) c4)).trans (zAt (.inr hb) (o + 5) c5)).trans (zAt (.inr hb) (o + 6) c6)).trans (zAt (.inr hb) (o + 7) c7)).trans (zAt (.inr hb) (o + 8) c8)
theorem CcI.set9 {w W : World} {nm sup : ByteArray} {pool : List CD} {fs : List FD} {ms : List MD} {a1 : Option Addr} {p1 : Nat} {a4 : Option Addr} {p4 : Nat} {g p6 : Nat} {rows : Nat → List Value}
 (I : CcI w W nm sup pool fs ms a1 p1 a4 p4 (some ⟨g, 0, none⟩) p6 rows) {i : Nat} (hi : i < ms.length) (c0 c1 c2 c3 c4 c5 c6 c7 c8 : Value) :
 CcI w (set9 W g (i * 9) c0 c1 c2 c3 c4 c5 c6 c7 c8) nm sup pool fs ms a1 p1 a4 p4 (some ⟨g, 0, none⟩) p6 (putR rows i [c0, c1, c2, c3, c4, c5, c6, c7, c8]) := by
 have h := (((((((((I.set hi (t := 0) (by omega) c0).set hi (t := 1) (by omega) c1).set hi (t := 2) (by omega) c2).set hi (t := 3) (by omega) c3).set hi (t := 4) (by omega) c4).set hi (t := 5) (by omega) c5).set hi (t := 6) (by omega) c6).set hi (t := 7) (by omega) c7).set hi (t := 8) (by omega) c8)
 have hl := I.k i hi
 obtain ⟨r0, r1, r2, r3, r4, r5, r6, r7, r8, hr⟩ : ∃ r0 r1 r2 r3 r4 r5 r6 r7 r8, rows i = [r0, r1, r2, r3, r4, r5, r6, r7, r8] := by
  match hm : rows i, hl with
  | [r0, r1, r2, r3, r4, r5, r6, r7, r8], _ => exact ⟨_, _, _, _, _, _, _, _, _, rfl⟩
 have e : (setRow (setRow (setRow (setRow (setRow (setRow (setRow (setRow (setRow rows i 0 c0) i 1 c1) i 2 c2) i 3 c3) i 4 c4) i 5 c5) i 6 c6) i 7 c7) i 8 c8) = putR rows i [c0, c1, c2, c3, c4, c5, c6, c7, c8] := by
  funext j
  unfold putR
  by_cases ej : j = i
  · subst ej
    simp [setRow, hr]
  · simp [setRow, ej]
 rw [e] at h
 exact h
theorem zI2 {lo s : Nat} {v : Value} (h1 : lo ≤ s) (h2 : ∀ g, v.ownBlock = some g → g < s) {w : World} : Ext (seen (newB s) w) (seen (zAc lo v) w) := zAl (Nat.le_refl _) (fun b _ hb => by
 simp only [newB, decide_eq_true_eq] at hb
 refine ⟨?_, rfl⟩
 simp only [zAc, Bool.and_eq_true, decide_eq_true_eq, bne_iff_ne]
 exact ⟨by omega, fun e => by have := h2 b e; omega⟩)
def KSm (k : KD) : Prop := k.pool.length ≤ 100000 ∧ k.fs.length ≤ 100000 ∧ k.ms.length ≤ 100000 ∧ ∀ m ∈ k.ms, MSm m
theorem copyC (k : KD) (v : Value) (w : World) (hm : zAp w v k) (hs : KSm k) :
 Calls Tryz.prog 57 #[v] w fun e w' => Below w.heap.size w w' ∧ ∃ v', e = .returned v' ∧ zAp (seen (newB w.heap.size) w') v' k := by
 obtain ⟨o1, c1, o2, c2, o3, c3, rfl, s1, s2, k1, k2, k3⟩ := hm
 obtain ⟨nm, sup, pool, fs, ms⟩ := k
 obtain ⟨m1, m2, m3, m4⟩ := hs
 simp only at *
 have B2 : Below w.heap.size w ((w.alloc (.cells #[.string nm, .string sup, .slice o1 pool.length c1, .slice o2 fs.length c2, .slice o3 ms.length c3] 31)).alloc (.cells #[.string ⟨#[]⟩, .string ⟨#[]⟩, .slice none 0 0, .slice none 0 0, .slice none 0 0] 31)) := ((Below.refl _ w).alloc (Nat.le_refl _) _).alloc (by simp) _
 have X2 : Blk ((w.alloc (.cells #[.string nm, .string sup, .slice o1 pool.length c1, .slice o2 fs.length c2, .slice o3 ms.length c3] 31)).alloc (.cells #[.string ⟨#[]⟩, .string ⟨#[]⟩, .slice none 0 0, .slice none 0 0, .slice none 0 0] 31)) w.heap.size #[.string nm, .string sup, .slice o1 pool.length c1, .slice o2 fs.length c2, .slice o3 ms.length c3] 31 := (Blk.new w _ _).alloc _
 have Y2 := Blk.new (w.alloc (.cells #[.string nm, .string sup, .slice o1 pool.length c1, .slice o2 fs.length c2, .slice o3 ms.length c3] 31)) #[.string ⟨#[]⟩, .string ⟨#[]⟩, .slice none 0 0, .slice none 0 0, .slice none 0 0] 31
 rw [World.size_alloc] at Y2
 go_enter Tryz.func57, Tryz.ntmps57
 go_wp2_with fail
 generalize (w.alloc (.cells #[.string nm, .string sup, .slice o1 pool.length c1, .slice o2 fs.length c2, .slice o3 ms.length c3] 31)).alloc (.cells #[.string ⟨#[]⟩, .string ⟨#[]⟩, .slice none 0 0, .slice none 0 0, .slice none 0 0] 31) = W2 at *
 obtain ⟨rowsP, y1, y2, y3⟩ := zE9 k1 (fun r x h => by rw [h.1]; rfl)
 refine (cloneC W2 o1 pool.length c1 rowsP (zAk.below y1 B2) y2 (fun j hj u hu => ?one) m1).mono ?_
 case one =>
  have := (y3 j _ (List.getElem?_eq_getElem hj)).1
  rw [this] at hu
  simp [CD.cells] at hu
  rcases hu with rfl | rfl | rfl | rfl | rfl <;> rfl
 rintro e w1 ⟨b1, v1, rfl, ow1⟩
 obtain ⟨a1, p1, rfl, _⟩ := zB6 ow1 y2
 have hsz := B2.size
 have hY2 := Y2.lt
 have ow1 := zC1 ow1 (show w.heap.size + 2 ≤ W2.heap.size by omega)
 have X3 := (X2.below b1).set 2 (.slice a1 pool.length p1)
 have Y3 := (Y2.below b1).other (b' := w.heap.size) (by omega) 2 (.slice a1 pool.length p1)
 have c6 := (X2.below b1).cell 2
 have f6 := (X2.below b1).frozen 2
 have c7 := X3.cell 3
 have ow3 := ownsRow_setCell_other (a := ⟨w.heap.size, 2, none⟩) ow1 (zBc ow1 (X2.below b1) (by decide)) (.slice a1 pool.length p1)
 have B3 := zAd (B2.trans (b1.mono B2.size)) (Nat.le_refl w.heap.size) 2 (.slice a1 pool.length p1)
 simp at c6 c7
 go_wp2_with fail
 generalize w1.setCell ⟨w.heap.size, 2, none⟩ (.slice a1 pool.length p1) = W3 at *
 obtain ⟨rowsH, r1, r2, r3⟩ := zE9 k2 (fun r x h => by rw [h.1]; rfl)
 refine (cloneF W3 o2 fs.length c2 rowsH (zAk.below r1 B3) r2 (fun j hj u hu => ?one) m2).mono ?_
 case one =>
  have := (r3 j _ (List.getElem?_eq_getElem hj)).1
  rw [this] at hu
  simp at hu
  rcases hu with rfl | rfl | rfl <;> rfl
 rintro e w4 ⟨b4, v4, rfl, ow4⟩
 obtain ⟨a4, p4, rfl, _⟩ := zB6 ow4 r2
 have hY3 := Y3.lt
 have ow4 := zC1 ow4 (show w.heap.size + 2 ≤ W3.heap.size by omega)
 have X5 := (X3.below b4).set 3 (.slice a4 fs.length p4)
 have Y5 := (Y3.below b4).other (b' := w.heap.size) (by omega) 3 (.slice a4 fs.length p4)
 have c7 := (X3.below b4).cell 3
 have f7 := (X3.below b4).frozen 3
 have c8 := X5.cell 4
 have ow3 := zC0 ow3 b4
 have ow5 := ownsRow_setCell_other (a := ⟨w.heap.size, 3, none⟩) ow3 (zBc ow3 (X3.below b4) (by decide)) (.slice a4 fs.length p4)
 have ow6 := ownsRow_setCell_other (a := ⟨w.heap.size, 3, none⟩) ow4 (zBc ow4 (X3.below b4) (by decide)) (.slice a4 fs.length p4)
 have B5 := zAd (B3.trans (b4.mono B3.size)) (Nat.le_refl w.heap.size) 3 (.slice a4 fs.length p4)
 simp at c7 c8
 go_wp2_with fail
 generalize w4.setCell ⟨w.heap.size, 3, none⟩ (.slice a4 fs.length p4) = W5 at *
 obtain ⟨rowsR, q1, q2, q3⟩ := zE9 k3 (fun r x h => by obtain ⟨_, _, _, _, _, _, e, _⟩ := h; rw [e]; rfl)
 refine (cloneM W5 o3 ms.length c3 rowsR (zAk.below q1 B5) q2 (fun j hj u hu => ?one) m3).mono ?_
 case one =>
  obtain ⟨_, _, _, _, _, _, this, _⟩ := q3 j _ (List.getElem?_eq_getElem hj)
  rw [this] at hu
  simp at hu
  rcases hu with rfl | rfl | rfl | rfl | rfl | rfl | rfl | rfl | rfl <;> rfl
 rintro e w6 ⟨b6, v6, rfl, ow7⟩
 obtain ⟨a6, p6, rfl, hp6, hm6, _⟩ := zB6 ow7 q2
 have hY5 := Y5.lt
 have hnew : ∀ g, (Value.slice a6 ms.length p6).ownBlock = some g → W5.heap.size ≤ g := fun g hg => (ow7.lt g hg).1
 have ow7 := zC1 ow7 (show w.heap.size + 2 ≤ W5.heap.size by omega)
 have X7 := (X5.below b6).set 4 (.slice a6 ms.length p6)
 have Y7 := (Y5.below b6).other (b' := w.heap.size) (by omega) 4 (.slice a6 ms.length p6)
 have c8 := (X5.below b6).cell 4
 have f8 := (X5.below b6).frozen 4
 have ow7' := ownsRow_setCell_other (a := ⟨w.heap.size, 4, none⟩) ow7 (zBc ow7 (X5.below b6) (by decide)) (.slice a6 ms.length p6)
 have E7 := (zAe (lo := w.heap.size + 2) (v := .slice a6 ms.length p6) b6).trans (zAt (w := w6) (.inl (show w.heap.size < w.heap.size + 2 by omega)) 4 (.slice a6 ms.length p6))
 obtain ⟨a1', p1', e1, V7⟩ : ∃ ao c, Value.slice a1 pool.length p1 = .slice ao pool.length c ∧ LAt 5 zHe (seen (zAc (w.heap.size + 2) (.slice a6 ms.length p6)) W5) ao c pool := LAt.seen_own ow5 y2 (fun g hg => by
  obtain ⟨l1, l2⟩ := ow5.lt g hg
  simp only [zAc, Bool.and_eq_true, decide_eq_true_eq, bne_iff_ne]
  exact ⟨by omega, fun e => by have := hnew g e; omega⟩) (fun i x hx => y3 i x hx)
 cases e1
 obtain ⟨a4', p4', e4, L7⟩ : ∃ ao c, Value.slice a4 fs.length p4 = .slice ao fs.length c ∧ LAt 3 zFd (seen (zAc (w.heap.size + 2) (.slice a6 ms.length p6)) W5) ao c fs := LAt.seen_own ow6 r2 (fun g hg => by
  obtain ⟨l1, l2⟩ := ow6.lt g hg
  simp only [zAc, Bool.and_eq_true, decide_eq_true_eq, bne_iff_ne]
  exact ⟨by omega, fun e => by have := hnew g e; omega⟩) (fun i x hx => r3 i x hx)
 cases e4
 have V7 := LAt.ext V7 E7 (fun _ _ h => h)
 have L7 := LAt.ext L7 E7 (fun _ _ h => h)
 have B7 := zAd (B5.trans (b6.mono B5.size)) (Nat.le_refl w.heap.size) 4 (.slice a6 ms.length p6)
 simp at c8
 go_wp2_with fail
 generalize w6.setCell ⟨w.heap.size, 4, none⟩ (.slice a6 ms.length p6) = W7 at *
 have I0 : CcI w W7 nm sup pool fs ms a1 p1 a4 p4 a6 p6 rowsR := ⟨X7, Y7, B7, V7, L7, ow7', q2⟩
 have R0 : ∀ j x, ms[j]? = some x → if j < 0 then zB1 (seen (zAc (w.heap.size + 2) (.slice a6 ms.length p6)) W7) (rowsR j) x else zB1 w (rowsR j) x := fun j x hx => by simp; exact q3 j x hx
 clear X7 Y7 B7 V7 L7 E7 ow7' ow7 hnew c8 f8 c7 f7 c6 f6 X5 Y5 X3 Y3 X2 Y2 ow5 ow6 ow4 ow3 ow1 b6 B5 b4 B3 b1 B2 y1 y2 y3 r1 r2 r3 q1 q2 q3 k1 k2 k3 hY2 hY3 hY5 hsz
 go_loopw [20] (fun iv wr => ∃ (i : Nat) (rows : Nat → List Value), iv = .int .i64 (i : Int) ∧ i ≤ ms.length ∧ CcI w wr nm sup pool fs ms a1 p1 a4 p4 a6 p6 rows ∧ ∀ j x, ms[j]? = some x → if j < i then zB1 (seen (zAc (w.heap.size + 2) (.slice a6 ms.length p6)) wr) (rows j) x else zB1 w (rows j) x) (fun iv _ => ms.length - (intOf iv).toNat)
 case atStart => exact ⟨0, rowsR, rfl, Nat.zero_le _, I0, R0⟩
 case round =>
  obtain ⟨i, rows, rfl, hi, I, RI⟩ := hrel
  clear I0 R0
  by_cases hlt : i < ms.length
  · have hlt' : (i : Int) < (ms.length : Int) := by omega
    obtain ⟨x, hx⟩ : ∃ x, ms[i]? = some x := ⟨_, List.getElem?_eq_getElem hlt⟩
    have hf := RI i x hx
    rw [if_neg (Nat.lt_irrefl i)] at hf
    have hMr := hf
    obtain ⟨d1, e1, d2, e2, d3, e3, hrow, _⟩ := hf
    obtain ⟨g, p6', e6⟩ := zCv I.o (by omega)
    cases e6
    have n0 := I.o.cellAt (i * 9) (by omega)
    have n1 := I.o.cellAt (i * 9 + 1) (by omega)
    have n2 := I.o.cellAt (i * 9 + 2) (by omega)
    have n3 := I.o.cellAt (i * 9 + 3) (by omega)
    have n4 := I.o.cellAt (i * 9 + 4) (by omega)
    have n5 := I.o.cellAt (i * 9 + 5) (by omega)
    have n6 := I.o.cellAt (i * 9 + 6) (by omega)
    have n7 := I.o.cellAt (i * 9 + 7) (by omega)
    have n8 := I.o.cellAt (i * 9 + 8) (by omega)
    rw [show i * 9 = i * 9 + 0 from rfl, zA7 I.k i hlt 0 (by omega), hrow] at n0
    rw [zA7 I.k i hlt 1 (by omega), hrow] at n1
    rw [zA7 I.k i hlt 2 (by omega), hrow] at n2
    rw [zA7 I.k i hlt 3 (by omega), hrow] at n3
    rw [zA7 I.k i hlt 4 (by omega), hrow] at n4
    rw [zA7 I.k i hlt 5 (by omega), hrow] at n5
    rw [zA7 I.k i hlt 6 (by omega), hrow] at n6
    rw [zA7 I.k i hlt 7 (by omega), hrow] at n7
    rw [zA7 I.k i hlt 8 (by omega), hrow] at n8
    simp at n0 n1 n2 n3 n4 n5 n6 n7 n8
    have I8 := I.below (zA9 wr (.cells #[.string x.nm, .string x.ds, .bool x.st, .bool x.nat, .int .i64 x.stk, .int .i64 x.loc, .slice d1 x.code.length e1, .slice d2 x.hs.length e2, .slice d3 x.rs.length e3] 39))
    have F8 := Blk.new wr #[.string x.nm, .string x.ds, .bool x.st, .bool x.nat, .int .i64 x.stk, .int .i64 x.loc, .slice d1 x.code.length e1, .slice d2 x.hs.length e2, .slice d3 x.rs.length e3] 39
    have E8 := zAe (lo := w.heap.size + 2) (v := .slice (some ⟨g, 0, none⟩) ms.length p6) (zA9 wr (.cells #[.string x.nm, .string x.ds, .bool x.st, .bool x.nat, .int .i64 x.stk, .int .i64 x.loc, .slice d1 x.code.length e1, .slice d2 x.hs.length e2, .slice d3 x.rs.length e3] 39))
    have hs8 : wr.heap.size < (wr.alloc (.cells #[.string x.nm, .string x.ds, .bool x.st, .bool x.nat, .int .i64 x.stk, .int .i64 x.loc, .slice d1 x.code.length e1, .slice d2 x.hs.length e2, .slice d3 x.rs.length e3] 39)).heap.size := by simp
    have hgbf := (I.o.lt g rfl).2
    go_wp2_with fail
    generalize wr.alloc (.cells #[.string x.nm, .string x.ds, .bool x.st, .bool x.nat, .int .i64 x.stk, .int .i64 x.loc, .slice d1 x.code.length e1, .slice d2 x.hs.length e2, .slice d3 x.rs.length e3] 39) = W8 at *
    generalize wr.heap.size = bf at *
    have I8d := I8.below (Below.refl _ W8).drew
    have E8d := E8.trans (zAe (lo := w.heap.size + 2) (v := .slice (some ⟨g, 0, none⟩) ms.length p6) (Below.refl _ W8).drew)
    have hgB := (I8.o.lt g rfl).1
    have hcp := D.zA0 (copyM x (rows i) W8.drew (hMr.below I8d.B) (m4 x (List.mem_of_getElem? hx)))
    rw [hrow] at hcp
    have cx := I8.X.cell 4
    simp at cx
    have f0 := F8.cell 0
    have f1 := F8.cell 1
    have f2 := F8.cell 2
    have f3 := F8.cell 3
    have f4 := F8.cell 4
    have f5 := F8.cell 5
    have f6 := F8.cell 6
    have f7 := F8.cell 7
    have f8 := F8.cell 8
    simp at f0 f1 f2 f3 f4 f5 f6 f7 f8
    clear n0 n1 n2 n3 n4 n5 n6 n7 n8
    go_region_with (go_at_call 61; refine hcp.out.mono ?_; rintro e w8 ⟨b8, row8, rfl, hM8⟩; have hM := hM8; obtain ⟨h1, j1, h2, j2, h3, j3, rfl, _⟩ := hM8; have cx8 := (I8d.X.below b8).cell 4; have n0 := (I8d.below b8).o.cellAt (i * 9) (by omega); have z0 := (I8d.below b8).o.frozenAt (i * 9); have n1 := (I8d.below b8).o.cellAt (i * 9 + 1) (by omega); have z1 := (I8d.below b8).o.frozenAt (i * 9 + 1); have n2 := (I8d.below b8).o.cellAt (i * 9 + 2) (by omega); have z2 := (I8d.below b8).o.frozenAt (i * 9 + 2); have n3 := (I8d.below b8).o.cellAt (i * 9 + 3) (by omega); have z3 := (I8d.below b8).o.frozenAt (i * 9 + 3); have n4 := (I8d.below b8).o.cellAt (i * 9 + 4) (by omega); have z4 := (I8d.below b8).o.frozenAt (i * 9 + 4); have n5 := (I8d.below b8).o.cellAt (i * 9 + 5) (by omega); have z5 := (I8d.below b8).o.frozenAt (i * 9 + 5); have n6 := (I8d.below b8).o.cellAt (i * 9 + 6) (by omega); have z6 := (I8d.below b8).o.frozenAt (i * 9 + 6); have n7 := (I8d.below b8).o.cellAt (i * 9 + 7) (by omega); have z7 := (I8d.below b8).o.frozenAt (i * 9 + 7); have n8 := (I8d.below b8).o.cellAt (i * 9 + 8) (by omega); have z8 := (I8d.below b8).o.frozenAt (i * 9 + 8); rw [show i * 9 = i * 9 + 0 from rfl, zA7 I8.k i hlt 0 (by omega), hrow] at n0; rw [zA7 I8.k i hlt 1 (by omega), hrow] at n1; rw [zA7 I8.k i hlt 2 (by omega), hrow] at n2; rw [zA7 I8.k i hlt 3 (by omega), hrow] at n3; rw [zA7 I8.k i hlt 4 (by omega), hrow] at n4; rw [zA7 I8.k i hlt 5 (by omega), hrow] at n5; rw [zA7 I8.k i hlt 6 (by omega), hrow] at n6; rw [zA7 I8.k i hlt 7 (by omega), hrow] at n7; rw [zA7 I8.k i hlt 8 (by omega), hrow] at n8; simp at cx8 n0 n1 n2 n3 n4 n5 n6 n7 n8)
    all_goals
     have hW8 : W8.drew.heap.size = W8.heap.size := rfl
     have hb8 := b8.size
     have I11 := (I8d.below b8).set9 hlt (.string x.nm) (.string x.ds) (.bool x.st) (.bool x.nat) (.int .i64 x.stk) (.int .i64 x.loc) (.slice h1 x.code.length j1) (.slice h2 x.hs.length j2) (.slice h3 x.rs.length j3)
     have EE0 := (E8d.trans (zAe b8))
     have E9 := zLx (lo := w.heap.size + 2) (w := w8) (v := .slice (some ⟨g, 0, none⟩) ms.length p6) (g := g) rfl (i * 9) (.string x.nm) (.string x.ds) (.bool x.st) (.bool x.nat) (.int .i64 x.stk) (.int .i64 x.loc) (.slice h1 x.code.length j1) (.slice h2 x.hs.length j2) (.slice h3 x.rs.length j3)
     have EE := EE0.trans E9
     have hM' := zB1.ext ((zI2 (lo := w.heap.size + 2) (v := .slice (some ⟨g, 0, none⟩) ms.length p6) (by omega) (fun g' hg' => by simp [Value.ownBlock] at hg'; omega)).trans E9) hM
     have RI' : ∀ j y, ms[j]? = some y → if j < i + 1 then zB1 (seen (zAc (w.heap.size + 2) (.slice (some ⟨g, 0, none⟩) ms.length p6)) (set9 w8 g (i * 9) (.string x.nm) (.string x.ds) (.bool x.st) (.bool x.nat) (.int .i64 x.stk) (.int .i64 x.loc) (.slice h1 x.code.length j1) (.slice h2 x.hs.length j2) (.slice h3 x.rs.length j3))) (putR rows i [.string x.nm, .string x.ds, .bool x.st, .bool x.nat, .int .i64 x.stk, .int .i64 x.loc, .slice h1 x.code.length j1, .slice h2 x.hs.length j2, .slice h3 x.rs.length j3] j) y else zB1 w (putR rows i [.string x.nm, .string x.ds, .bool x.st, .bool x.nat, .int .i64 x.stk, .int .i64 x.loc, .slice h1 x.code.length j1, .slice h2 x.hs.length j2, .slice h3 x.rs.length j3] j) y := by
      intro j y hy
      by_cases ej : j = i
      · subst ej
        rw [hx] at hy
        cases hy
        rw [if_pos (by omega)]
        simp only [putR, if_true]
        exact hM'
      · have := RI j y hy
        simp only [putR, if_neg ej]
        by_cases hji : j < i
        · rw [if_pos hji] at this; rw [if_pos (by omega)]; exact zB1.ext EE this
        · rw [if_neg hji] at this; rw [if_neg (by omega)]; exact this
     clear cx8 cx n0 n1 n2 n3 n4 n5 n6 n7 n8 z0 z1 z2 z3 z4 z5 z6 z7 z8 f0 f1 f2 f3 f4 f5 f6 f7 f8
     go_wp2
     go_roundw
     case rel => exact ⟨i + 1, _, by go_num, by omega, I11, RI'⟩
     case measure => simp [intOf]; omega
  · have hlt' : ¬ (i : Int) < (ms.length : Int) := by omega
    have : i = ms.length := by omega
    subst this
    have y0 := I.X.cell 0
    have y1 := I.X.cell 1
    have y2 := I.X.cell 2
    have y3 := I.X.cell 3
    have y4 := I.X.cell 4
    simp at y0 y1 y2 y3 y4
    go_wp2_with (refine wpList_store_row rfl 31 _ _ rfl (w.heap.size + 1) #[.string nm, .string sup, .slice a1 pool.length p1, .slice a4 fs.length p4, .slice a6 ms.length p6] rfl rfl 31 _ I.Y (by kernel_rfl) rfl (by simp [Value.oneCell']) ?_)
    have hY := I.Y
    refine bodyPost_ret (results_cell_row rfl _ _ (w.heap.size + 1) 31 _ (0, 0) _ rfl (setRow_heap _ _ _ _ _ _ hY) Tryz.underlying31 rfl (by kernel_rfl)) rfl ?_
    have Eb : Ext (seen (zAc (w.heap.size + 2) (.slice a6 ms.length p6)) wr) (seen (newB w.heap.size) (wr.setRow (w.heap.size + 1) #[.string nm, .string sup, .slice a1 pool.length p1, .slice a4 fs.length p4, .slice a6 ms.length p6])) :=
     zAl (by simp [World.setRow]) (fun b _ hb => by
      simp only [zAc, Bool.and_eq_true, decide_eq_true_eq] at hb
      exact ⟨by simp [newB]; omega, setRow_other _ _ _ _ (by omega)⟩)
    have En : Ext (seen (newB (w.heap.size + 2)) wr) (seen (newB w.heap.size) (wr.setRow (w.heap.size + 1) #[.string nm, .string sup, .slice a1 pool.length p1, .slice a4 fs.length p4, .slice a6 ms.length p6])) :=
     zAl (by simp [World.setRow]) (fun b _ hb => by
      simp only [newB, decide_eq_true_eq] at hb
      exact ⟨by simp [newB]; omega, setRow_other _ _ _ _ (by omega)⟩)
    obtain ⟨a6', p6', e6, l1, l2, hr⟩ := zB6 I.o I.k
    cases e6
    refine ⟨zBn I.B (by omega) _, _, rfl, a1, p1, a4, p4, a6, p6, rfl, s1, s2, LAt.ext I.V Eb (fun _ _ h => h), LAt.ext I.L Eb (fun _ _ h => h), l1, l2, rows, zAk.ext hr En, fun j x hx => ?_⟩
    have := RI j x hx
    rw [if_pos (List.getElem?_eq_some_iff.1 hx).1] at this
    exact zB1.ext Eb this
end Go.Proofs.YtpehimfnkmepnaaGreat.K
namespace Go.Proofs.YtpehimfnkmepnaaGreat.K
open Go.RowKit Go.Shelf
def zJ7 {α : Type} (I Ix : List α → World → Prop) (xs : List α) (W : World) : Exit → Act → World → Prop
 | .normal, _, W' => KeepsOthers W W' ∧ I xs W'
 | .ret, _, W' => KeepsOthers W W' ∧ Ix xs W'
 | _, _, _ => False
def zR3 {α : Type} (P : Program) (m gf : Nat) (rv : Value) (enc : α → Value) (xs : List α) (St : World → Prop) : Prop :=
 ∀ (l : Nat) (J Jx : List α → World → Prop) (W : World), (∀ pre W1, J pre W1 → St W1) →
   (∀ pre x rest W1, xs = pre ++ x :: rest → J pre W1 → YieldAt Fence.wide (m - 1) P l #[enc x] W1 fun e W' =>
    (e = .returned (.bool true) ∧ J (pre ++ [x]) W') ∨ (e = .returned (.bool false) ∧ Jx (pre ++ [x]) W')) →
   J [] W → CallsIn Fence.wide m P gf #[rv, .func (.yield l) #[] #[]] W fun e W' => (∃ v, e = .returned v) ∧ (J xs W' ∨ ∃ pre, Jx pre W')
theorem zEv {α : Type} {P : Program} {n : Nat} {g : Operand} {ps : Array Tmp} {assign body : Code} {Q : Exit → Act → World → Prop} {a : Act} {w : World} {gf : Nat} {rv : Value}
 (hg : a.eval g = .func (.func gf) #[rv] #[]) (eg : ∀ args w, (callFunc gf args).run P w = .ok (.enter gf args) w) (enc : α → Value) (xs : List α) (St : World → Prop) (hps : ps.size = 1)
 (hit : zR3 P (n - 1) gf rv enc xs St) (I Ix : List α → World → Prop) (hI : OwnFrom w.heap.size I) (hIx : OwnFrom w.heap.size Ix) (hSt : ∀ pre W, I pre W → St W) (h0 : I [] w) (a₁ : α → Act)
 (hassign : ∀ (l : Nat) (x : α) (W : World) (K : Act → World → Prop), K (a₁ x) W →
  assign.wpIn (Fence.wide.inRound l) (n - 1 - 1) P (Exit.then K (fun _ _ _ => False)) { tmps := (ps.zip #[enc x]).foldl (fun t (p, v) => t.setIfInBounds p v) a.tmps, defers := [] } W)
 (hbody : ∀ (l : Nat) (pre : List α) (x : α) (rest : List α) (W : World), xs = pre ++ x :: rest → I pre W → body.wpIn (Fence.wide.inRound l) (n - 1 - 1) P (zJ7 I Ix (pre ++ [x]) W) (a₁ x) W)
 (hdone : ∀ (D : Nat) (W : World), w.heap.size ≤ D → I xs W → W.heap[D]? = some (.deferred (some [])) → Q .normal { a with defers := { target := .collected D, args := #[] } :: a.defers } W)
 (hstop : ∀ (D : Nat) (pre : List α) (W : World), w.heap.size ≤ D → Ix pre W → W.heap[D]? = some (.deferred (some [])) → Code.ret.wpIn Fence.wide n P Q { a with defers := { target := .collected D, args := #[] } :: a.defers } W) :
 (Code.rangeFunc g ps assign body).wpIn Fence.wide n P Q a w := by
 refine wpIn_rangeFunc fun fn hfn => ?_
 let R : LoopState → Option Code → Loop := fun st pe => { state := st, pending := pe, fn, tmps := a.tmps, params := ps, assign, body, defers := w.heap.size }
 let D := w.heap.size
 let L := w.heap.size + 1
 let W1 := (w.alloc (.deferred (some []))).alloc (.loop (R .ready none))
 have hL : W1.heap[L]? = some (.loop (R .ready none)) := by
  have := World.alloc_heap_new (w.alloc (.deferred (some []))) (.loop (R .ready none)); rwa [World.size_alloc] at this
 have hD : W1.heap[D]? = some (.deferred (some [])) := (Below.heap_alloc _ _ _ (by simp [D])).trans (World.alloc_heap_new w _)
 refine ⟨L, [{ target := .collected D, args := #[] }], W1, { target := .fn (.func gf) #[], args := #[rv, .func (.yield L) #[] #[]] }, W1, gf, #[rv, .func (.yield L) #[] #[]], W1, ?_, ?_, ?_, ?_, fun h => by simp [Fence.wide] at h, ?_⟩
 · exact run_enterLoop_outer _ _ _ _ _
 · simp only [resolve, hg]; simp [go_sem]
 · intro f' _; trivial
 · simp [invoke, go_sem, eg]
 have step : ∀ (jump : Option Code) (A C : World), A.heap[L]? = some (.loop (R .ready none)) → A.heap[D]? = some (.deferred (some [])) → KeepsOthers (A.putObj L (.loop (R .busy none))) C →
  (Instr.endRound L jump).run P C = .ok (.bool jump.isNone) (C.putObj L (.loop (R (if jump.isNone then .ready else .done) jump))) ∧ C.heap[L]? = some (.loop (R .busy none)) ∧
  (C.putObj L (.loop (R (if jump.isNone then .ready else .done) jump))).heap[L]? = some (.loop (R (if jump.isNone then .ready else .done) jump)) ∧
  (C.putObj L (.loop (R (if jump.isNone then .ready else .done) jump))).heap[D]? = some (.deferred (some [])) := by
  intro jump A C hA hA2 hk
  have h1 := hk.same L _ (World.putObj_heap_same (Array.getElem?_eq_some_iff.1 hA).1) rfl
  have h2 := hk.same D _ ((World.putObj_heap_other (by simp [D, L])).trans hA2) rfl
  exact ⟨run_endRound (P := P) jump h1, h1, World.putObj_heap_same (Array.getElem?_eq_some_iff.1 h1).1, (World.putObj_heap_other (by simp [D, L])).trans h2⟩
 refine (hit L (fun pre W => I pre W ∧ W.heap[L]? = some (.loop (R .ready none)) ∧ W.heap[D]? = some (.deferred (some [])))
  (fun pre W => Ix pre W ∧ W.heap[L]? = some (.loop (R .done (some .ret))) ∧ W.heap[D]? = some (.deferred (some []))) W1 (fun pre W h => hSt pre W h.1) ?_ ⟨hI.alloc _ (hI.alloc _ h0), hL, hD⟩).mono ?_
 · rintro pre x rest W hx ⟨hi, hl, hd⟩
   have hy := run_yield (P := P) (args := #[enc x]) hl (by simpa using hps.symm)
   refine ⟨fn, _, assign, body, hy, roundIn_of_wpIn hfn (hassign _ x W _ ⟨_, run_beginRound hl rfl, ?_⟩)⟩
   refine wpIn_mono (hbody _ pre x rest _ hx (hI.putObj _ hi (by simp [L]) hl rfl)) ?_
   rintro e a3 W3 hp
   cases e with
   | normal =>
     obtain ⟨hk, hi3⟩ := hp
     obtain ⟨hr, hl3, hl4, hd4⟩ := step none W W3 hl hd hk
     exact ⟨_, _, hr, .inl ⟨rfl, hI.putObj _ hi3 (by simp [L]) hl3 rfl, hl4, hd4⟩⟩
   | ret =>
     obtain ⟨hk, hi3⟩ := hp
     obtain ⟨hr, hl3, hl4, hd4⟩ := step (some .ret) W W3 hl hd hk
     exact ⟨_, _, hr, .inr ⟨rfl, hIx.putObj _ hi3 (by simp [L]) hl3 rfl, hl4, hd4⟩⟩
   | exit _ => exact hp.elim
   | goto _ => exact hp.elim
   | panic _ => exact hp.elim
   | outgrown => exact hp.elim
 · rintro e W2 ⟨⟨v, rfl⟩, ⟨hi, hl, hd⟩ | ⟨pre, hi, hl, hd⟩⟩
   · exact ⟨none, _, run_endLoop (P := P) hl (by simp [R]), hdone D _ (Nat.le_refl _) (hI.putObj _ hi (by simp [L]) hl rfl) ((World.putObj_heap_other (by simp [D, L])).trans hd)⟩
   · exact ⟨some .ret, _, run_endLoop (P := P) hl (by simp [R]), hstop D pre _ (Nat.le_refl _) (hIx.putObj _ hi (by simp [L]) hl rfl) ((World.putObj_heap_other (by simp [D, L])).trans hd)⟩
end Go.Proofs.YtpehimfnkmepnaaGreat.K
