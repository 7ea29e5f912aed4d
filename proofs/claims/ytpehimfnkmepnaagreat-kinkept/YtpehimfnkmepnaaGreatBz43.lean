import Derived.Test.YtpehimfnkmepnaaGreatBz42
set_option maxRecDepth 8000
set_option maxHeartbeats 40000000
namespace Go.Proofs.YtpehimfnkmepnaaGreat.Fr
open Go.RowKit Q Q.D K
def zJy (l : List Int) (j : Nat) : List Value := [.int .u8 (l.getD j 0)]
theorem zMo (l : List Int) : zAw (zJy l) l.length = zAj l := by
 refine List.ext_getElem? (fun y => ?_)
 have hk : ∀ j, j < l.length → (zJy l j).length = 1 := fun j _ => rfl
 by_cases hy : y < l.length
 · have := zA7 hk y hy 0 (by omega)
   rw [Nat.mul_one, Nat.add_zero] at this
   rw [this]
   simp [zJy, zAj, hy]
 · rw [List.getElem?_eq_none (by rw [zB4 hk]; omega), List.getElem?_eq_none (by simp [zAj]; omega)]
theorem zNo {w : World} {ao : Option Addr} {n c : Nat} {l : List Int} (h : View w (.slice ao n c) l) : zAk 1 w ao l.length (zJy l) := by
 obtain ⟨ao', cap, e, _, _, _, h⟩ := h
 cases e
 intro hn
 rcases h with rfl | ⟨g, off, e, hl⟩
 · simp at hn
 · have key : ∀ j, j < l.length → w.cell? ⟨g, off + j, none⟩ = some (.int .u8 (l.getD j 0)) := fun j hj => by
    have := hl j l[j] (List.getElem?_eq_getElem hj)
    rw [this]
    simp [hj]
   refine ⟨g, off, e, World.block_lt_of_cell? _ _ (key 0 hn), fun j hj i v hv => ?_⟩
   match i, hv with
   | 0, hv =>
     simp [zJy] at hv
     subst hv
     rw [Nat.mul_one, Nat.add_zero]
     exact key j hj
   | i + 1, hv => simp [zJy] at hv
theorem infoU : (Tryz.prog.info? 5).map (fun i => (i.zero, i.size, i.bytes)) = some (some (.int .u8 0), 1, 1) := by kernel_rfl
structure CqI (w W : World) (x : MD) (a1 : Option Addr) (p1 : Nat) (a4 : Option Addr) (p4 : Nat) (a6 : Option Addr) (p6 : Nat) (rows : Nat → List Value) : Prop where
 X : Blk W w.heap.size #[.string x.nm, .string x.ds, .bool x.st, .bool x.nat, .int .i64 x.stk, .int .i64 x.loc, .slice a1 x.code.length p1, .slice a4 x.hs.length p4, .slice a6 x.rs.length p6] 39
 B : Below w.heap.size w W
 V : View (K.seen (zAc (w.heap.size + 1) (.slice a6 x.rs.length p6)) W) (.slice a1 x.code.length p1) x.code
 L : LAt 4 zHl (K.seen (zAc (w.heap.size + 1) (.slice a6 x.rs.length p6)) W) a4 p4 x.hs
 o : W.ownsRow (w.heap.size + 1) 67 3 (.slice a6 x.rs.length p6) x.rs.length (zAw rows x.rs.length)
 k : ∀ j, j < x.rs.length → (rows j).length = 3
theorem CqI.below {w W W' : World} {x : MD} {a1 : Option Addr} {p1 : Nat} {a4 : Option Addr} {p4 : Nat} {a6 : Option Addr} {p6 : Nat} {rows : Nat → List Value}
 (I : CqI w W x a1 p1 a4 p4 a6 p6 rows) (h : Below W.heap.size W W') : CqI w W' x a1 p1 a4 p4 a6 p6 rows :=
 ⟨I.X.below h, I.B.trans (h.mono I.B.size), View.ext I.V (zAe h), LAt.ext I.L (zAe h) (fun _ _ h => h), zC0 I.o h, I.k⟩
theorem CqI.set {w W : World} {x : MD} {a1 : Option Addr} {p1 : Nat} {a4 : Option Addr} {p4 : Nat} {g p6 : Nat} {rows : Nat → List Value}
 (I : CqI w W x a1 p1 a4 p4 (some ⟨g, 0, none⟩) p6 rows) {i t : Nat} (hi : i < x.rs.length) (ht : t < 3) (u : Value) :
 CqI w (W.setCell ⟨g, i * 3 + t, none⟩ u) x a1 p1 a4 p4 (some ⟨g, 0, none⟩) p6 (K.setRow rows i t u) ∧ Ext (K.seen (zAc (w.heap.size + 1) (.slice (some ⟨g, 0, none⟩) x.rs.length p6)) W) (K.seen (zAc (w.heap.size + 1) (.slice (some ⟨g, 0, none⟩) x.rs.length p6)) (W.setCell ⟨g, i * 3 + t, none⟩ u)) := by
 have hg := (I.o.lt g rfl).1
 have E := zAt (w := W) (lo := w.heap.size + 1) (v := .slice (some ⟨g, 0, none⟩) x.rs.length p6) (.inr rfl) (i * 3 + t) u
 refine ⟨⟨I.X.other (by omega) _ _, zAd I.B (by omega) _ _, View.ext I.V E, LAt.ext I.L E (fun _ _ h => h), ?_, zDo I.k hi⟩, E⟩
 rw [← zHa I.k hi ht]
 exact (I.o.stored _ _).1
def Cq1 (w W9 wx : World) (x : MD) (a1 : Option Addr) (p1 : Nat) (a4 : Option Addr) (p4 g p6 : Nat) (rows : Nat → List Value) (i t : Nat) (l : List ByteArray) : Prop :=
 ∃ a8 p8, CqI w wx x a1 p1 a4 p4 (some ⟨g, 0, none⟩) p6 (K.setRow rows i t (.slice a8 l.length p8)) ∧ Ext (K.seen (zAc (w.heap.size + 1) (.slice (some ⟨g, 0, none⟩) x.rs.length p6)) W9) (K.seen (zAc (w.heap.size + 1) (.slice (some ⟨g, 0, none⟩) x.rs.length p6)) wx) ∧ LAt 1 zDm (K.seen (zAc (w.heap.size + 1) (.slice (some ⟨g, 0, none⟩) x.rs.length p6)) wx) a8 p8 l
theorem CqI.copied {w W9 wa : World} {x : MD} {a1 : Option Addr} {p1 : Nat} {a4 : Option Addr} {p4 : Nat} {g p6 : Nat} {rows : Nat → List Value} {i t : Nat} {l : List ByteArray} {aa : Option Addr} {n pa : Nat}
 (I : CqI w W9 x a1 p1 a4 p4 (some ⟨g, 0, none⟩) p6 rows) (hi : i < x.rs.length) (ht : t < 3) (hb : Below W9.heap.size W9 wa) (ho : OwnT wa W9.heap.size (.slice aa n pa) l) (hs : ∀ s ∈ l, s.size ≤ 9223372036854775807) :
 Cq1 w W9 (wa.setCell ⟨g, i * 3 + t, none⟩ (.slice aa n pa)) x a1 p1 a4 p4 g p6 rows i t l := by
 have hn : n = l.length := by
  have := ho.2
  rcases this with ⟨e, e0⟩ | ⟨_, _, _, e, _⟩
  · cases e; exact e0.symm
  · cases e; rfl
 subst hn
 obtain ⟨I2, E2⟩ := (I.below hb).set hi (t := t) ht (.slice aa l.length pa)
 refine ⟨aa, pa, I2, (zAe hb).trans E2, ?_⟩
 have hg := (I.o.lt g rfl).2
 have hI := I.B.size
 have hX := I.X.lt
 have ho' : wa.ownsRow W9.heap.size 9 1 (.slice aa l.length pa) l.length (zAw (fun j => [.string (l.getD j ⟨#[]⟩)]) l.length) := by
  have e : zAw (fun j => [Value.string (l.getD j ⟨#[]⟩)]) l.length = tx l := by
   refine List.ext_getElem? (fun y => ?_)
   have hk : ∀ j, j < l.length → ((fun j => [Value.string (l.getD j ⟨#[]⟩)]) j).length = 1 := fun j _ => rfl
   by_cases hy : y < l.length
   · have := zA7 hk y hy 0 (by omega)
     rw [Nat.mul_one, Nat.add_zero] at this
     rw [this]
     simp [tx, hy]
   · rw [List.getElem?_eq_none (by rw [zB4 hk]; omega), List.getElem?_eq_none (by simp [tx]; omega)]
  rw [e]
  exact ho
 obtain ⟨a8, p8, e8, LL⟩ : ∃ ao c, Value.slice aa l.length pa = .slice ao l.length c ∧ LAt 1 zDm (K.seen (zAc (w.heap.size + 1) (.slice (some ⟨g, 0, none⟩) x.rs.length p6)) wa) ao c l := LAt.seen_own ho' (fun _ _ => rfl) (fun g' hg' => by
  obtain ⟨l1, l2⟩ := ho'.lt g' hg'
  simp only [zAc, Bool.and_eq_true, decide_eq_true_eq, bne_iff_ne]
  exact ⟨by omega, fun e => by simp [Value.ownBlock] at e; omega⟩) (fun j y hy => ⟨by simp only [List.getD_eq_getElem?_getD, hy]; rfl, hs y (List.mem_of_getElem? hy)⟩)
 cases e8
 exact LAt.ext LL E2 (fun _ _ h => h)
theorem zN7 (k : KD) (v : Value) (w : World) (hm : zAp w v k) (hs : KSm k) :
 Calls Tryz.prog 11 #[v] w fun e w' => Below w.heap.size w w' ∧ ∃ v', e = .returned v' ∧ zAp (K.seen (newB w.heap.size) w') v' k := by
 obtain ⟨o1, c1, o2, c2, o3, c3, rfl, s1, s2, k1, k2, k3⟩ := hm
 obtain ⟨nm, sup, pool, fs, ms⟩ := k
 obtain ⟨m1, m2, m3, m4⟩ := hs
 simp only at *
 have M4 := D.zA0 m4
 clear m4
 have B2 : Below w.heap.size w ((w.alloc (.cells #[.string nm, .string sup, .slice o1 pool.length c1, .slice o2 fs.length c2, .slice o3 ms.length c3] 31)).alloc (.cells #[.string ⟨#[]⟩, .string ⟨#[]⟩, .slice none 0 0, .slice none 0 0, .slice none 0 0] 31)) := ((Below.refl _ w).alloc (Nat.le_refl _) _).alloc (by simp) _
 have X2 : Blk ((w.alloc (.cells #[.string nm, .string sup, .slice o1 pool.length c1, .slice o2 fs.length c2, .slice o3 ms.length c3] 31)).alloc (.cells #[.string ⟨#[]⟩, .string ⟨#[]⟩, .slice none 0 0, .slice none 0 0, .slice none 0 0] 31)) w.heap.size #[.string nm, .string sup, .slice o1 pool.length c1, .slice o2 fs.length c2, .slice o3 ms.length c3] 31 := (Blk.new w _ _).alloc _
 have Y2 := Blk.new (w.alloc (.cells #[.string nm, .string sup, .slice o1 pool.length c1, .slice o2 fs.length c2, .slice o3 ms.length c3] 31)) #[.string ⟨#[]⟩, .string ⟨#[]⟩, .slice none 0 0, .slice none 0 0, .slice none 0 0] 31
 rw [World.size_alloc] at Y2
 go_enter Tryz.func11, Tryz.ntmps11
 go_upto_region 1 with (fail)
 generalize (w.alloc (.cells #[.string nm, .string sup, .slice o1 pool.length c1, .slice o2 fs.length c2, .slice o3 ms.length c3] 31)).alloc (.cells #[.string ⟨#[]⟩, .string ⟨#[]⟩, .slice none 0 0, .slice none 0 0, .slice none 0 0] 31) = W2 at *
 obtain ⟨rowsP, y1, y2, y3⟩ := zE9 k1 (fun r x h => by rw [h.1]; rfl)
 obtain ⟨i0, hi, hz0, hz1, hz2⟩ := info_parts infoC
 obtain ⟨v1, w1, hr1, ow1, b1⟩ := zCh Tryz.underlying27 hi hz0 hz1 hz2 rfl (by decide) (by decide) W2 27 o1 pool.length c1 rowsP (zAk.below y1 B2) y2 (fun j hj u hu => by
  rw [(y3 j _ (List.getElem?_eq_getElem hj)).1] at hu
  simp [CD.cells] at hu
  rcases hu with rfl | rfl | rfl | rfl | rfl <;> rfl) (by omega)
 have bA := zA9 W2 (.cells #[] 112)
 obtain ⟨a1, p1, rfl, _⟩ := zB6 ow1 y2
 have x1 := (X2.below bA).cell 2
 have c6 := (X2.below b1).cell 2
 have f6 := (X2.below b1).frozen 2
 simp at x1 c6
 have HR1 := D.zA0 hr1
 clear hr1
 go_upto_region 2 with (at_builtin; refine zCx rfl _ _ rfl rfl rfl HR1.out ?_)
 clear HR1 x1 c6 f6 hi hz0 hz1 hz2 i0 bA
 have hsz := B2.size
 have hY2 := Y2.lt
 have ow1 := zC1 ow1 (show w.heap.size + 2 ≤ W2.heap.size by omega)
 have X3 := (X2.below b1).set 2 (.slice a1 pool.length p1)
 have Y3 := (Y2.below b1).other (b' := w.heap.size) (by omega) 2 (.slice a1 pool.length p1)
 have ow3 := ownsRow_setCell_other (a := ⟨w.heap.size, 2, none⟩) ow1 (zBc ow1 (X2.below b1) (by decide)) (.slice a1 pool.length p1)
 have B3 := zAd (B2.trans (b1.mono B2.size)) (Nat.le_refl w.heap.size) 2 (.slice a1 pool.length p1)
 simp at X3
 clear b1
 generalize w1.setCell ⟨w.heap.size, 2, none⟩ (.slice a1 pool.length p1) = W3 at *
 obtain ⟨rowsH, r1, r2, r3⟩ := zE9 k2 (fun r x h => by rw [h.1]; rfl)
 obtain ⟨i0, hi, hz0, hz1, hz2⟩ := info_parts infoF
 obtain ⟨v1, w4, hr1, ow1, b1⟩ := zCh Tryz.underlying28 hi hz0 hz1 hz2 rfl (by decide) (by decide) W3 28 o2 fs.length c2 rowsH (zAk.below r1 B3) r2 (fun j hj u hu => by
  rw [(r3 j _ (List.getElem?_eq_getElem hj)).1] at hu
  simp at hu
  rcases hu with rfl | rfl | rfl <;> rfl) (by omega)
 have bA := zA9 W3 (.cells #[] 44)
 obtain ⟨a4, p4, rfl, _⟩ := zB6 ow1 r2
 have x1 := (X3.below bA).cell 3
 have c6 := (X3.below b1).cell 3
 have f6 := (X3.below b1).frozen 3
 simp at x1 c6
 have HR1 := D.zA0 hr1
 clear hr1
 go_upto_region 3 with (at_builtin; refine zCx rfl _ _ rfl rfl rfl HR1.out ?_)
 clear HR1 x1 c6 f6 hi hz0 hz1 hz2 i0 bA
 have hY3 := Y3.lt
 have ow4 := zC1 ow1 (show w.heap.size + 2 ≤ W3.heap.size by omega)
 have X5 := (X3.below b1).set 3 (.slice a4 fs.length p4)
 have Y5 := (Y3.below b1).other (b' := w.heap.size) (by omega) 3 (.slice a4 fs.length p4)
 have ow3 := zC0 ow3 b1
 have ow5 := ownsRow_setCell_other (a := ⟨w.heap.size, 3, none⟩) ow3 (zBc ow3 (X3.below b1) (by decide)) (.slice a4 fs.length p4)
 have ow6 := ownsRow_setCell_other (a := ⟨w.heap.size, 3, none⟩) ow4 (zBc ow4 (X3.below b1) (by decide)) (.slice a4 fs.length p4)
 have B5 := zAd (B3.trans (b1.mono B3.size)) (Nat.le_refl w.heap.size) 3 (.slice a4 fs.length p4)
 simp at X5
 clear b1 ow1 ow4
 generalize w4.setCell ⟨w.heap.size, 3, none⟩ (.slice a4 fs.length p4) = W5 at *
 obtain ⟨rowsR, q1, q2, q3⟩ := zE9 k3 (fun r x h => by obtain ⟨_, _, _, _, _, _, e, _⟩ := h; rw [e]; rfl)
 obtain ⟨i0, hi, hz0, hz1, hz2⟩ := info_parts infoM
 obtain ⟨v1, w6, hr1, ow1, b1⟩ := zCh Tryz.underlying29 hi hz0 hz1 hz2 rfl (by decide) (by decide) W5 29 o3 ms.length c3 rowsR (zAk.below q1 B5) q2 (fun j hj u hu => by
  obtain ⟨_, _, _, _, _, _, this, _⟩ := q3 j _ (List.getElem?_eq_getElem hj)
  rw [this] at hu
  simp at hu
  rcases hu with rfl | rfl | rfl | rfl | rfl | rfl | rfl | rfl | rfl <;> rfl) (by omega)
 have bA := zA9 W5 (.cells #[] 39)
 obtain ⟨a6, p6, rfl, _⟩ := zB6 ow1 q2
 have x1 := (X5.below bA).cell 4
 have c6 := (X5.below b1).cell 4
 have f6 := (X5.below b1).frozen 4
 simp at x1 c6
 have HR1 := D.zA0 hr1
 clear hr1
 go_upto_region 4 with (at_builtin; refine zCx rfl _ _ rfl rfl rfl HR1.out ?_)
 clear HR1 x1 c6 f6 hi hz0 hz1 hz2 i0 bA
 have b6 := b1
 have ow7 := ow1
 clear b1 ow1
 have hY5 := Y5.lt
 have hnew : ∀ g, (Value.slice a6 ms.length p6).ownBlock = some g → W5.heap.size ≤ g := fun g hg => (ow7.lt g hg).1
 have ow7 := zC1 ow7 (show w.heap.size + 2 ≤ W5.heap.size by omega)
 have X7 := (X5.below b6).set 4 (.slice a6 ms.length p6)
 have Y7 := (Y5.below b6).other (b' := w.heap.size) (by omega) 4 (.slice a6 ms.length p6)
 have ow7' := ownsRow_setCell_other (a := ⟨w.heap.size, 4, none⟩) ow7 (zBc ow7 (X5.below b6) (by decide)) (.slice a6 ms.length p6)
 have E7 := (zAe (lo := w.heap.size + 2) (v := .slice a6 ms.length p6) b6).trans (zAt (w := w6) (.inl (show w.heap.size < w.heap.size + 2 by omega)) 4 (.slice a6 ms.length p6))
 obtain ⟨a1', p1', e1, V7⟩ : ∃ ao c, Value.slice a1 pool.length p1 = .slice ao pool.length c ∧ LAt 5 zHe (K.seen (zAc (w.heap.size + 2) (.slice a6 ms.length p6)) W5) ao c pool := LAt.seen_own ow5 y2 (fun g hg => by
  obtain ⟨l1, l2⟩ := ow5.lt g hg
  simp only [zAc, Bool.and_eq_true, decide_eq_true_eq, bne_iff_ne]
  exact ⟨by omega, fun e => by have := hnew g e; omega⟩) (fun i x hx => y3 i x hx)
 cases e1
 obtain ⟨a4', p4', e4, L7⟩ : ∃ ao c, Value.slice a4 fs.length p4 = .slice ao fs.length c ∧ LAt 3 zFd (K.seen (zAc (w.heap.size + 2) (.slice a6 ms.length p6)) W5) ao c fs := LAt.seen_own ow6 r2 (fun g hg => by
  obtain ⟨l1, l2⟩ := ow6.lt g hg
  simp only [zAc, Bool.and_eq_true, decide_eq_true_eq, bne_iff_ne]
  exact ⟨by omega, fun e => by have := hnew g e; omega⟩) (fun i x hx => r3 i x hx)
 cases e4
 have V7 := LAt.ext V7 E7 (fun _ _ h => h)
 have L7 := LAt.ext L7 E7 (fun _ _ h => h)
 have B7 := zAd (B5.trans (b6.mono B5.size)) (Nat.le_refl w.heap.size) 4 (.slice a6 ms.length p6)
 simp at X7
 generalize w6.setCell ⟨w.heap.size, 4, none⟩ (.slice a6 ms.length p6) = W7 at *
 have I0 := D.zA0 (show CcI w W7 nm sup pool fs ms a1 p1 a4 p4 a6 p6 rowsR from ⟨X7, Y7, B7, V7, L7, ow7', q2⟩)
 have R0 : Hid (∀ j x, ms[j]? = some x → if j < 0 then zB1 (K.seen (zAc (w.heap.size + 2) (.slice a6 ms.length p6)) W7) (rowsR j) x else zB1 w (rowsR j) x) := fun j x hx => by simp; exact q3 j x hx
 clear X7 Y7 B7 V7 L7 E7 ow7' ow7 hnew X5 Y5 X3 Y3 X2 Y2 ow5 ow6 ow3 b6 B5 B3 B2 y1 y2 y3 r1 r2 r3 q1 q2 q3 k1 k2 k3 hY2 hY3 hY5 hsz
 go_wp2_with fail
 go_loopw [3] (fun iv wr => ∃ (i : Nat) (rows : Nat → List Value), iv = .int .i64 (i : Int) ∧ i ≤ ms.length ∧ CcI w wr nm sup pool fs ms a1 p1 a4 p4 a6 p6 rows ∧ ∀ j x, ms[j]? = some x → if j < i then zB1 (K.seen (zAc (w.heap.size + 2) (.slice a6 ms.length p6)) wr) (rows j) x else zB1 w (rows j) x) (fun iv _ => ms.length - (intOf iv).toNat)
 case atStart => exact ⟨0, rowsR, rfl, Nat.zero_le _, I0.out, R0.out⟩
 case round =>
  obtain ⟨i, rows, rfl, hi, I, RI⟩ := hrel
  clear I0 R0
  have II := D.zA0 I
  have HRI := D.zA0 RI
  by_cases hlt : i < ms.length
  · have hlt' : (i : Int) < (ms.length : Int) := by omega
    obtain ⟨x, hx⟩ : ∃ x, ms[i]? = some x := ⟨_, List.getElem?_eq_getElem hlt⟩
    have hf := RI i x hx
    rw [if_neg (Nat.lt_irrefl i)] at hf
    obtain ⟨d1, e1, d2, e2, d3, e3, hrow, t1, t2, V0, H0, F0⟩ := hf
    obtain ⟨g, p6', e6⟩ := zCv I.o (by omega)
    cases e6
    have n0 := I.o.cellAt (i * 9) (by omega)
    rw [show i * 9 = i * 9 + 0 from rfl, zA7 I.k i hlt 0 (by omega), hrow] at n0
    have n1 := I.o.cellAt (i * 9 + 1) (by omega)
    rw [zA7 I.k i hlt 1 (by omega), hrow] at n1
    have n2 := I.o.cellAt (i * 9 + 2) (by omega)
    rw [zA7 I.k i hlt 2 (by omega), hrow] at n2
    have n3 := I.o.cellAt (i * 9 + 3) (by omega)
    rw [zA7 I.k i hlt 3 (by omega), hrow] at n3
    have n4 := I.o.cellAt (i * 9 + 4) (by omega)
    rw [zA7 I.k i hlt 4 (by omega), hrow] at n4
    have n5 := I.o.cellAt (i * 9 + 5) (by omega)
    rw [zA7 I.k i hlt 5 (by omega), hrow] at n5
    have n6 := I.o.cellAt (i * 9 + 6) (by omega)
    rw [zA7 I.k i hlt 6 (by omega), hrow] at n6
    have n7 := I.o.cellAt (i * 9 + 7) (by omega)
    rw [zA7 I.k i hlt 7 (by omega), hrow] at n7
    have n8 := I.o.cellAt (i * 9 + 8) (by omega)
    rw [zA7 I.k i hlt 8 (by omega), hrow] at n8
    simp at n0 n1 n2 n3 n4 n5 n6 n7 n8
    have cx := I.X.cell 4
    simp at cx
    obtain ⟨HX, bx⟩ := boxedM wr #[.string x.nm, .string x.ds, .bool x.st, .bool x.nat, .int .i64 x.stk, .int .i64 x.loc, .slice d1 x.code.length e1, .slice d2 x.hs.length e2, .slice d3 x.rs.length e3]
    obtain ⟨mm1, mm2, mm3, mm4⟩ := M4.out x (List.mem_of_getElem? hx)
    have HX0 := D.zA0 hx
    have HI : Hid (i * 9 + 8 < ms.length * 9) := by show _ < _; omega
    have hmi : i < 9223372036854775807 := by omega
    clear hx RI hi
    go_upto_region 8 with (refine wpList_store_row rfl 39 _ _ rfl wr.heap.size #[.string x.nm, .string x.ds, .bool x.st, .bool x.nat, .int .i64 x.stk, .int .i64 x.loc, .slice d1 x.code.length e1, .slice d2 x.hs.length e2, .slice d3 x.rs.length e3] rfl rfl 39 _ (Blk.new wr _ _) (by kernel_rfl) rfl (by simp [Value.oneCell']) ?_)
    clear n0 n1 n2 n3 n4 n5 n6 n7 n8 cx
    generalize (wr.alloc (.cells #[.string ⟨#[]⟩, .string ⟨#[]⟩, .bool false, .bool false, .int .i64 0, .int .i64 0, .slice none 0 0, .slice none 0 0, .slice none 0 0] 39)).setRow wr.heap.size #[.string x.nm, .string x.ds, .bool x.st, .bool x.nat, .int .i64 x.stk, .int .i64 x.loc, .slice d1 x.code.length e1, .slice d2 x.hs.length e2, .slice d3 x.rs.length e3] = W8 at *
    have B8 := I.B.trans (bx.mono I.B.size)
    have hX8 := HX.lt
    obtain ⟨i0, hi0, hz0, hz1, hz2⟩ := info_parts infoU
    obtain ⟨v1, w9, hr1, ow1, b1⟩ := zCh Tryz.underlying35 hi0 hz0 hz1 hz2 rfl (by decide) (by decide) W8 35 d1 x.code.length e1 (zJy x.code) (zAk.below (zNo V0) B8) (fun _ _ => rfl) (fun j hj u hu => by simp [zJy] at hu; subst hu; rfl) (by omega)
    have hyb : zAq x.code := by obtain ⟨_, _, _, _, _, hy, _⟩ := V0; exact hy
    have bA := zA9 W8 (.cells #[] 5)
    obtain ⟨aa, pa, rfl, _⟩ := zB6 ow1 (fun _ _ => rfl)
    rw [zMo] at ow1
    have x1 := (HX.below bA).cell 6
    have c6 := (HX.below b1).cell 6
    have f6 := (HX.below b1).frozen 6
    simp at x1 c6
    have HR1 := D.zA0 hr1
    have HI0 := D.zA0 I
    clear hr1 I
    go_upto_region 9 with (at_builtin; refine zCx rfl _ _ rfl rfl rfl HR1.out ?_)
    clear HR1 x1 c6 f6 hi0 hz0 hz1 hz2 i0 bA
    have ow1 := zC1 ow1 (show wr.heap.size + 1 ≤ W8.heap.size by omega)
    have X9 := (HX.below b1).set 6 (.slice aa x.code.length pa)
    have owU := ownsRow_setCell_other (a := ⟨wr.heap.size, 6, none⟩) ow1 (zBc ow1 (HX.below b1) (by decide)) (.slice aa x.code.length pa)
    have bx9 := zAd (bx.trans (b1.mono bx.size)) (Nat.le_refl wr.heap.size) 6 (.slice aa x.code.length pa)
    simp at X9
    clear b1 ow1 HX bx B8
    generalize w9.setCell ⟨wr.heap.size, 6, none⟩ (.slice aa x.code.length pa) = W9 at *
    have B9 := HI0.out.B.trans (bx9.mono HI0.out.B.size)
    obtain ⟨rowsK, u1, u2, u3⟩ := zE9 H0 (fun r x h => by rw [h.1]; rfl)
    obtain ⟨i0, hi0, hz0, hz1, hz2⟩ := info_parts infoH
    obtain ⟨v1, w10, hr1, ow1, b1⟩ := zCh Tryz.underlying36 hi0 hz0 hz1 hz2 rfl (by decide) (by decide) W9 36 d2 x.hs.length e2 rowsK (zAk.below u1 B9) u2 (fun j hj u hu => by
     rw [(u3 j _ (List.getElem?_eq_getElem hj)).1] at hu
     simp at hu
     rcases hu with rfl | rfl | rfl | rfl <;> rfl) (by omega)
    have bA := zA9 W9 (.cells #[] 154)
    obtain ⟨ab, pb, rfl, _⟩ := zB6 ow1 u2
    have x1 := (X9.below bA).cell 7
    have c6 := (X9.below b1).cell 7
    have f6 := (X9.below b1).frozen 7
    simp at x1 c6
    have HR1 := D.zA0 hr1
    clear hr1
    go_upto_region 10 with (at_builtin; refine zCx rfl _ _ rfl rfl rfl HR1.out ?_)
    clear HR1 x1 c6 f6 hi0 hz0 hz1 hz2 i0 bA
    have hX9 := X9.lt
    have ow1 := zC1 ow1 (show wr.heap.size + 1 ≤ W9.heap.size by omega)
    have X10 := (X9.below b1).set 7 (.slice ab x.hs.length pb)
    have owU := zC0 owU b1
    have owU := ownsRow_setCell_other (a := ⟨wr.heap.size, 7, none⟩) owU (zBc owU (X9.below b1) (by decide)) (.slice ab x.hs.length pb)
    have owH := ownsRow_setCell_other (a := ⟨wr.heap.size, 7, none⟩) ow1 (zBc ow1 (X9.below b1) (by decide)) (.slice ab x.hs.length pb)
    have bx10 := zAd (bx9.trans (b1.mono bx9.size)) (Nat.le_refl wr.heap.size) 7 (.slice ab x.hs.length pb)
    simp at X10
    clear b1 ow1 X9 bx9 B9
    generalize w10.setCell ⟨wr.heap.size, 7, none⟩ (.slice ab x.hs.length pb) = W10 at *
    have B10 := HI0.out.B.trans (bx10.mono HI0.out.B.size)
    obtain ⟨rowsJ, l1, l2, l3⟩ := zE9 F0 (fun r x h => by obtain ⟨_, _, _, _, e, _⟩ := h; rw [e]; rfl)
    obtain ⟨i0, hi0, hz0, hz1, hz2⟩ := info_parts infoR
    obtain ⟨v1, w11, hr1, ow1, b1⟩ := zCh Tryz.underlying37 hi0 hz0 hz1 hz2 rfl (by decide) (by decide) W10 37 d3 x.rs.length e3 rowsJ (zAk.below l1 B10) l2 (fun j hj u hu => by
     obtain ⟨_, _, _, _, this, _⟩ := l3 j _ (List.getElem?_eq_getElem hj)
     rw [this] at hu
     simp at hu
     rcases hu with rfl | rfl | rfl <;> rfl) (by omega)
    have bA := zA9 W10 (.cells #[] 67)
    obtain ⟨ac, pz, rfl, _⟩ := zB6 ow1 l2
    have x1 := (X10.below bA).cell 8
    have c6 := (X10.below b1).cell 8
    have f6 := (X10.below b1).frozen 8
    simp at x1 c6
    have HR1 := D.zA0 hr1
    clear hr1
    go_upto_region 11 with (at_builtin; refine zCx rfl _ _ rfl rfl rfl HR1.out ?_)
    clear HR1 x1 c6 f6 hi0 hz0 hz1 hz2 i0 bA
    have hX10 := X10.lt
    have hnw : ∀ g, (Value.slice ac x.rs.length pz).ownBlock = some g → W10.heap.size ≤ g := fun g hg => (ow1.lt g hg).1
    have ow1 := zC1 ow1 (show wr.heap.size + 1 ≤ W10.heap.size by omega)
    have X11 := (X10.below b1).set 8 (.slice ac x.rs.length pz)
    have owR := ownsRow_setCell_other (a := ⟨wr.heap.size, 8, none⟩) ow1 (zBc ow1 (X10.below b1) (by decide)) (.slice ac x.rs.length pz)
    have E11 := (zAe (lo := wr.heap.size + 1) (v := .slice ac x.rs.length pz) b1).trans (zAt (w := w11) (.inl (show wr.heap.size < wr.heap.size + 1 by omega)) 8 (.slice ac x.rs.length pz))
    have V11 : View (K.seen (zAc (wr.heap.size + 1) (.slice ac x.rs.length pz)) W10) (.slice aa x.code.length pa) x.code := View.seen_own owU hyb (fun g hg => by
     obtain ⟨l1, l2⟩ := owU.lt g hg
     simp only [zAc, Bool.and_eq_true, decide_eq_true_eq, bne_iff_ne]
     exact ⟨by omega, fun e => by have := hnw g e; omega⟩)
    obtain ⟨ab', pb', eb, L11⟩ : ∃ ao c, Value.slice ab x.hs.length pb = .slice ao x.hs.length c ∧ LAt 4 zHl (K.seen (zAc (wr.heap.size + 1) (.slice ac x.rs.length pz)) W10) ao c x.hs := LAt.seen_own owH u2 (fun g hg => by
     obtain ⟨l1, l2⟩ := owH.lt g hg
     simp only [zAc, Bool.and_eq_true, decide_eq_true_eq, bne_iff_ne]
     exact ⟨by omega, fun e => by have := hnw g e; omega⟩) (fun i x hx => u3 i x hx)
    cases eb
    have V11 := View.ext V11 E11
    have L11 := LAt.ext L11 E11 (fun _ _ h => h)
    have bx11 := zAd (bx10.trans (b1.mono bx10.size)) (Nat.le_refl wr.heap.size) 8 (.slice ac x.rs.length pz)
    simp at X11
    have IQ := D.zA0 (show CqI wr (w11.setCell ⟨wr.heap.size, 8, none⟩ (.slice ac x.rs.length pz)) x aa pa ab pb ac pz rowsJ from ⟨X11, bx11, V11, L11, owR, l2⟩)
    have hjs : Hid (∀ j y, x.rs[j]? = some y → zAx w (rowsJ j) y) := fun j y hy => l3 j y hy
    clear b1 ow1 X10 bx10 B10 owU owH owR V11 L11 E11 X11 bx11 hnw l1 l2 l3 u1 u2 u3 hX8 hX9 hX10 V0 H0 F0 hyb
    generalize w11.setCell ⟨wr.heap.size, 8, none⟩ (.slice ac x.rs.length pz) = W11 at *
    obtain ⟨Wq, hWq⟩ : ∃ W, W = wr := ⟨_, rfl⟩
    subst hWq
    go_wp2_with fail
    go_loopw [5] (fun iv wr => ∃ (i : Nat) (rows : Nat → List Value), iv = .int .i64 (i : Int) ∧ i ≤ x.rs.length ∧ CqI Wq wr x aa pa ab pb ac pz rows ∧ ∀ j y, x.rs[j]? = some y → if j < i then zAx (K.seen (zAc (Wq.heap.size + 1) (.slice ac x.rs.length pz)) wr) (rows j) y else zAx w (rows j) y) (fun iv _ => x.rs.length - (intOf iv).toNat)
    case atStart => exact ⟨0, rowsJ, rfl, Nat.zero_le _, IQ.out, fun j y hy => by simp; exact hjs.out j y hy⟩
    case round =>
     obtain ⟨j, rj, rfl, hj, J, RJ⟩ := hrel
     clear IQ hjs
     have HJ := D.zA0 J
     have HRJ := D.zA0 RJ
     by_cases hltj : j < x.rs.length
     · have hltj' : (j : Int) < (x.rs.length : Int) := by omega
       obtain ⟨y, hy⟩ : ∃ y, x.rs[j]? = some y := ⟨_, List.getElem?_eq_getElem hltj⟩
       have hf := RJ j y hy
       rw [if_neg (Nat.lt_irrefl j)] at hf
       obtain ⟨ol, cl, os, cs, hrj, L1, L2⟩ := hf
       obtain ⟨h, q6, e6⟩ := zCv J.o (by omega)
       cases e6
       have n1 := J.o.cellAt (j * 3 + 1) (by omega)
       rw [zA7 J.k j hltj 1 (by omega), hrj] at n1
       have HL2 := D.zA0 L2
       have HROW := D.zA0 hrj
       have HY := D.zA0 hy
       obtain ⟨mm5, mm6⟩ := mm4 y (List.mem_of_getElem? hy)
       have cx := J.X.cell 8
       simp at n1 cx
       have hbh := J.o.lt h rfl
       have hxl := J.X.lt
       have HLL := D.zA0 (L1.below (HI0.out.B.trans (J.B.mono HI0.out.B.size)) (fun _ _ h => h))
       have HSM := D.zA0 (fun s hs => LAt.small L1 s hs)
       clear RJ hj hy hrj L1 L2
       go_upto_region 14 with (fail)
       have hS3 : Hid (∀ W, Below wr.heap.size wr W → W.cell? ⟨Wq.heap.size, 8, none⟩ = some (.slice (some ⟨h, 0, none⟩) x.rs.length pz) ∧ W.cell? ⟨h, j * 3 + 1, none⟩ = some (.slice ol y.loc.length cl)) := fun W b => ⟨cell_later b cx, cell_later b n1⟩
       have hD : Hid (Below wr.heap.size wr wr.drew) := (Below.refl _ _).drew
       have hDA : Hid (Below wr.heap.size wr (wr.alloc (.cells #[] 9)).drew) := ((Below.refl _ _).alloc (Nat.le_refl _) _).drew
       have OE : Hid (OwnT (wr.alloc (.cells #[] 9)).drew wr.heap.size (.slice (some ⟨wr.heap.size, 0, none⟩) 0 0) []) := World.ownsRow_made wr #[] 0 (Nat.le_refl _) (by unfold maxLen; omega) rfl
       have HLa := D.zA0 (HLL.out.below hDA.out (fun _ _ h => h))
       have hF : Hid (∀ W, Below wr.heap.size wr W → W.frozen? ⟨h, j * 3 + 1, none⟩ = false) := fun W b => (HJ.out.below b).o.frozenAt (j * 3 + 1)
       clear cx n1
       refine wp_region_noPanic ?_
       refine rL (fun W => W.cell? ⟨Wq.heap.size, 8, none⟩ = some (.slice (some ⟨h, 0, none⟩) x.rs.length pz) ∧ W.cell? ⟨h, j * 3 + 1, none⟩ = some (.slice ol y.loc.length cl)) 13 ?_ (fun hHeld => ?_)
       · (try dsimp only); exact hS3.out _ hD.out
       refine tP 0 ?vs1 rfl rfl ?ys1 ?rs1; case ys1 => intro w; go_simp; try with_reducible rfl
       try simp only [Act.put, sq1, sq2, sq3]
       refine tL 1 ?vs2 rfl rfl ?ys2 ?rs2; case ys2 => intro w hSw; go_simp; try with_reducible rfl
       try simp only [Act.put, sq1, sq2, sq3]
       refine tP 2 ?vs3 rfl rfl ?ys3 ?rs3; case ys3 => intro w; go_simp; try with_reducible rfl
       try simp only [Act.put, sq1, sq2, sq3]
       refine tP 4 ?vs4 rfl rfl ?ys4 ?rs4; case ys4 => intro w; go_simp; try with_reducible rfl
       try simp only [Act.put, sq1, sq2, sq3]
       refine tL 5 ?vs5 rfl rfl ?ys5 ?rs5; case ys5 => intro w hSw; go_simp; try with_reducible rfl
       try simp only [Act.put, sq1, sq2, sq3]
       refine tP 6 ?vs6 rfl rfl ?ys6 ?rs6; case ys6 => intro w; go_simp; try with_reducible rfl
       try simp only [Act.put, sq1, sq2, sq3]
       refine tP 7 ?vs7 rfl rfl ?ys7 ?rs7; case ys7 => intro w; go_simp; try with_reducible rfl
       try simp only [Act.put, sq1, sq2, sq3]
       refine tP 8 ?vs8 rfl rfl ?ys8 ?rs8; case ys8 => intro w; go_simp; try with_reducible rfl
       try simp only [Act.put, sq1, sq2, sq3]
       refine tL 9 ?vs9 rfl rfl ?ys9 ?rs9; case ys9 => intro w hSw; go_simp; try with_reducible rfl
       try simp only [Act.put, sq1, sq2, sq3]
       refine sL 3 rfl (fun K hK => ?_)
       go_simp
       try go_wp2_with fail
       refine hK.out _ _ ?q0 ?q4; case q0 => (try dsimp only); first | exact hS3.out _ hDA.out | exact hS3.out _ bwa
       clear hK K hHeld; intro hHeld
       try simp only [Act.put, sq1, sq2, sq3]
       refine sL 10 rfl (fun K hK => ?_)
       obtain ⟨va, wa, hra, oa, ba⟩ := zHi (w := (wr.alloc (.cells #[] 9)).drew) 47 wr.heap.size (.slice (some ⟨wr.heap.size, 0, none⟩) 0 0) [] y.loc ol cl OE.out HLa.out (by simp; omega) (by simp)
       rw [List.nil_append] at oa
       have bwa : Below wr.heap.size wr wa := hDA.out.trans ba
       have HOA := D.zA0 oa
       have nc := (hS3.out _ bwa).2
       have nf := hF.out _ bwa
       obtain ⟨av, pv, ea⟩ := zA4 oa
       subst ea
       clear oa ba
       refine zBr rfl rfl rfl rfl hra ?_
       refine hK.out _ _ ?q5 ?q7; case q5 => (try dsimp only); first | exact hS3.out _ hDA.out | exact hS3.out _ bwa
       clear hK K hHeld; intro hHeld
       try simp only [Act.put, sq1, sq2, sq3]
       refine tP 11 ?q8 rfl rfl ?q9 ?qa; case q9 => intro w; go_simp; try with_reducible rfl
       try simp only [Act.put, sq1, sq2, sq3]
       refine tP 12 ?qb rfl rfl ?qc ?qd; case qc => intro w; go_simp; try with_reducible rfl
       try simp only [Act.put, sq1, sq2, sq3]
       refine jL rfl (fun K hK => ?_)
       go_simp
       try go_wp2_with fail
       refine hK.out _ _ ?qe; clear hK K
       try simp only [Act.put, sq1, sq2, sq3]
       refine dL ?_
       refine NoPanic.normal ?_
       obtain ⟨a8, p8, J9, E9, LL9⟩ := CqI.copied HJ.out hltj (show 1 < 3 by omega) bwa HOA.out HSM.out
       generalize wa.setCell ⟨h, j * 3 + 1, none⟩ (.slice av y.loc.length pv) = W9 at *
       clear hS3 hD hDA OE HLa hF HLL HSM hxl hbh nc nf HOA bwa hra
       have HJ0 := HJ
       clear HJ J
       have HJ := D.zA0 J9
       have n1 := J9.o.cellAt (j * 3 + 2) (by omega)
       rw [zA7 J9.k j hltj 2 (by omega), K.setRow, if_pos rfl, HROW.out] at n1
       have cx := J9.X.cell 8
       simp at n1 cx
       have hbh := J9.o.lt h rfl
       have hxl := J9.X.lt
       have HLL := D.zA0 (HL2.out.below (HI0.out.B.trans (J9.B.mono HI0.out.B.size)) (fun _ _ h => h))
       have HSM := D.zA0 (fun s hs => LAt.small HL2.out s hs)
       clear J9
       go_upto_region 15 with (fail)
       have hS3 : Hid (∀ W, Below W9.heap.size W9 W → W.cell? ⟨Wq.heap.size, 8, none⟩ = some (.slice (some ⟨h, 0, none⟩) x.rs.length pz) ∧ W.cell? ⟨h, j * 3 + 2, none⟩ = some (.slice os y.stk.length cs)) := fun W b => ⟨cell_later b cx, cell_later b n1⟩
       have hD : Hid (Below W9.heap.size W9 W9.drew) := (Below.refl _ _).drew
       have hDA : Hid (Below W9.heap.size W9 (W9.alloc (.cells #[] 9)).drew) := ((Below.refl _ _).alloc (Nat.le_refl _) _).drew
       have OE : Hid (OwnT (W9.alloc (.cells #[] 9)).drew W9.heap.size (.slice (some ⟨W9.heap.size, 0, none⟩) 0 0) []) := World.ownsRow_made W9 #[] 0 (Nat.le_refl _) (by unfold maxLen; omega) rfl
       have HLa := D.zA0 (HLL.out.below hDA.out (fun _ _ h => h))
       have hF : Hid (∀ W, Below W9.heap.size W9 W → W.frozen? ⟨h, j * 3 + 2, none⟩ = false) := fun W b => (HJ.out.below b).o.frozenAt (j * 3 + 2)
       clear cx n1
       refine wp_region_noPanic ?_
       refine rL (fun W => W.cell? ⟨Wq.heap.size, 8, none⟩ = some (.slice (some ⟨h, 0, none⟩) x.rs.length pz) ∧ W.cell? ⟨h, j * 3 + 2, none⟩ = some (.slice os y.stk.length cs)) 13 ?_ (fun hHeld => ?_)
       · (try dsimp only); exact hS3.out _ hD.out
       refine tP 0 ?vt1 rfl rfl ?yt1 ?rt1; case yt1 => intro w; go_simp; try with_reducible rfl
       try simp only [Act.put, sq1, sq2, sq3]
       refine tL 1 ?vt2 rfl rfl ?yt2 ?rt2; case yt2 => intro w hSw; go_simp; try with_reducible rfl
       try simp only [Act.put, sq1, sq2, sq3]
       refine tP 2 ?vt3 rfl rfl ?yt3 ?rt3; case yt3 => intro w; go_simp; try with_reducible rfl
       try simp only [Act.put, sq1, sq2, sq3]
       refine tP 4 ?vt4 rfl rfl ?yt4 ?rt4; case yt4 => intro w; go_simp; try with_reducible rfl
       try simp only [Act.put, sq1, sq2, sq3]
       refine tL 5 ?vt5 rfl rfl ?yt5 ?rt5; case yt5 => intro w hSw; go_simp; try with_reducible rfl
       try simp only [Act.put, sq1, sq2, sq3]
       refine tP 6 ?vt6 rfl rfl ?yt6 ?rt6; case yt6 => intro w; go_simp; try with_reducible rfl
       try simp only [Act.put, sq1, sq2, sq3]
       refine tP 7 ?vt7 rfl rfl ?yt7 ?rt7; case yt7 => intro w; go_simp; try with_reducible rfl
       try simp only [Act.put, sq1, sq2, sq3]
       refine tP 8 ?vt8 rfl rfl ?yt8 ?rt8; case yt8 => intro w; go_simp; try with_reducible rfl
       try simp only [Act.put, sq1, sq2, sq3]
       refine tL 9 ?vt9 rfl rfl ?yt9 ?rt9; case yt9 => intro w hSw; go_simp; try with_reducible rfl
       try simp only [Act.put, sq1, sq2, sq3]
       refine sL 3 rfl (fun K hK => ?_)
       go_simp
       try go_wp2_with fail
       refine hK.out _ _ ?qf ?qg; case qf => (try dsimp only); first | exact hS3.out _ hDA.out | exact hS3.out _ bwa
       clear hK K hHeld; intro hHeld
       try simp only [Act.put, sq1, sq2, sq3]
       refine sL 10 rfl (fun K hK => ?_)
       obtain ⟨va, wa, hra, oa, ba⟩ := zHi (w := (W9.alloc (.cells #[] 9)).drew) 47 W9.heap.size (.slice (some ⟨W9.heap.size, 0, none⟩) 0 0) [] y.stk os cs OE.out HLa.out (by simp; omega) (by simp)
       rw [List.nil_append] at oa
       have bwa : Below W9.heap.size W9 wa := hDA.out.trans ba
       have HOA := D.zA0 oa
       have nc := (hS3.out _ bwa).2
       have nf := hF.out _ bwa
       obtain ⟨av, pv, ea⟩ := zA4 oa
       subst ea
       clear oa ba
       refine zBr rfl rfl rfl rfl hra ?_
       refine hK.out _ _ ?qh ?qi; case qh => (try dsimp only); first | exact hS3.out _ hDA.out | exact hS3.out _ bwa
       clear hK K hHeld; intro hHeld
       try simp only [Act.put, sq1, sq2, sq3]
       refine tP 11 ?qj rfl rfl ?qk ?ql; case qk => intro w; go_simp; try with_reducible rfl
       try simp only [Act.put, sq1, sq2, sq3]
       refine tP 12 ?qm rfl rfl ?qn ?qo; case qn => intro w; go_simp; try with_reducible rfl
       try simp only [Act.put, sq1, sq2, sq3]
       refine jL rfl (fun K hK => ?_)
       go_simp
       try go_wp2_with fail
       refine hK.out _ _ ?qp; clear hK K
       try simp only [Act.put, sq1, sq2, sq3]
       refine dL ?_
       refine NoPanic.normal ?_
       obtain ⟨a10, p10, J11, E11, LL11⟩ := CqI.copied HJ.out hltj (show 2 < 3 by omega) bwa HOA.out HSM.out
       generalize wa.setCell ⟨h, j * 3 + 2, none⟩ (.slice av y.stk.length pv) = wc at *
       clear hS3 hD hDA OE HLa hF HLL HSM hxl hbh
       have EE := E9.trans E11
       have LL9' := LAt.ext LL9 E11 (fun _ _ h => h)
       have RJ' : ∀ t z, x.rs[t]? = some z → if t < j + 1 then zAx (K.seen (zAc (Wq.heap.size + 1) (.slice (some ⟨h, 0, none⟩) x.rs.length pz)) wc) (K.setRow (K.setRow rj j 1 (.slice a8 y.loc.length p8)) j 2 (.slice a10 y.stk.length p10) t) z else zAx w (K.setRow (K.setRow rj j 1 (.slice a8 y.loc.length p8)) j 2 (.slice a10 y.stk.length p10) t) z := by
        intro t z hz
        by_cases ej : t = j
        · subst ej
          rw [HY.out] at hz
          cases hz
          rw [if_pos (by omega)]
          simp only [K.setRow, if_true, HROW.out]
          exact ⟨_, _, _, _, rfl, LL9', LL11⟩
        · have := HRJ.out t z hz
          simp only [K.setRow, if_neg ej]
          by_cases hji : t < j
          · rw [if_pos hji] at this; rw [if_pos (by omega)]; exact zAx.ext EE this
          · rw [if_neg hji] at this; rw [if_neg (by omega)]; exact this
       have HEND := D.zA0 (And.intro J11 RJ')
       clear RJ' EE LL9' LL9 LL11 E9 E11 J11 HJ HRJ HJ0 HL2 HROW HY
       go_wp2_with fail
       exact ⟨⟨j + 1, _, by go_num, by omega, HEND.out.1, HEND.out.2⟩, by simp [intOf]; omega⟩
     · have hltj' : ¬ (j : Int) < (x.rs.length : Int) := by omega
       obtain rfl : j = x.rs.length := by omega
       have hb := J.B
       have I8 := HI0.out.below hb
       have hM : zB1 (K.seen (zAc (w.heap.size + 2) (.slice (some ⟨g, 0, none⟩) ms.length p6)) wr) [.string x.nm, .string x.ds, .bool x.st, .bool x.nat, .int .i64 x.stk, .int .i64 x.loc, .slice aa x.code.length pa, .slice ab x.hs.length pb, .slice ac x.rs.length pz] x := by
        obtain ⟨ac', pzz, ec, l1, l2, hr⟩ := zB6 J.o J.k
        cases ec
        have hz := I8.o.lt g rfl
        have hgq := (HI0.out.o.lt g rfl).2
        have hwq := HI0.out.B.size
        have hw2 := HI0.out.Y.lt
        have En : Ext (K.seen (newB (Wq.heap.size + 1)) wr) (K.seen (zAc (w.heap.size + 2) (.slice (some ⟨g, 0, none⟩) ms.length p6)) wr) := zI2 (by omega) (fun g' hg' => by simp [Value.ownBlock] at hg'; omega)
        have Eb : Ext (K.seen (zAc (Wq.heap.size + 1) (.slice ac x.rs.length pz)) wr) (K.seen (zAc (w.heap.size + 2) (.slice (some ⟨g, 0, none⟩) ms.length p6)) wr) := (zMq (Nat.le_refl _)).trans En
        refine ⟨aa, pa, ab, pb, ac, pz, rfl, t1, t2, View.ext J.V Eb, LAt.ext J.L Eb (fun _ _ h => h), l1, l2, rj, zAk.ext hr En, fun t z hz => ?_⟩
        have := RJ t z hz
        rw [if_pos (List.getElem?_eq_some_iff.1 hz).1] at this
        exact zAx.ext Eb this
       have EE0 := zAe (lo := w.heap.size + 2) (v := .slice (some ⟨g, 0, none⟩) ms.length p6) hb
       have E9 := zLx (lo := w.heap.size + 2) (w := wr) (v := .slice (some ⟨g, 0, none⟩) ms.length p6) (g := g) rfl (i * 9) (.string x.nm) (.string x.ds) (.bool x.st) (.bool x.nat) (.int .i64 x.stk) (.int .i64 x.loc) (.slice aa x.code.length pa) (.slice ab x.hs.length pb) (.slice ac x.rs.length pz)
       have I11 := I8.set9 hlt (.string x.nm) (.string x.ds) (.bool x.st) (.bool x.nat) (.int .i64 x.stk) (.int .i64 x.loc) (.slice aa x.code.length pa) (.slice ab x.hs.length pb) (.slice ac x.rs.length pz)
       have RI' : ∀ j y, ms[j]? = some y → if j < i + 1 then zB1 (K.seen (zAc (w.heap.size + 2) (.slice (some ⟨g, 0, none⟩) ms.length p6)) (set9 wr g (i * 9) (.string x.nm) (.string x.ds) (.bool x.st) (.bool x.nat) (.int .i64 x.stk) (.int .i64 x.loc) (.slice aa x.code.length pa) (.slice ab x.hs.length pb) (.slice ac x.rs.length pz))) (putR rows i [.string x.nm, .string x.ds, .bool x.st, .bool x.nat, .int .i64 x.stk, .int .i64 x.loc, .slice aa x.code.length pa, .slice ab x.hs.length pb, .slice ac x.rs.length pz] j) y else zB1 w (putR rows i [.string x.nm, .string x.ds, .bool x.st, .bool x.nat, .int .i64 x.stk, .int .i64 x.loc, .slice aa x.code.length pa, .slice ab x.hs.length pb, .slice ac x.rs.length pz] j) y := by
        intro j y hy
        by_cases ej : j = i
        · subst ej
          rw [HX0.out] at hy
          cases hy
          rw [if_pos (by omega)]
          simp only [putR, if_true]
          exact zB1.ext E9 hM
        · have := HRI.out j y hy
          simp only [putR, if_neg ej]
          by_cases hji : j < i
          · rw [if_pos hji] at this; rw [if_pos (by omega)]; exact zB1.ext (EE0.trans E9) this
          · rw [if_neg hji] at this; rw [if_neg (by omega)]; exact this
       have HEND := D.zA0 (And.intro I11 RI')
       have cx := I8.X.cell 4
       have n0 := I8.o.cellAt (i * 9) (by have := HI.out; omega)
       have z0 := I8.o.frozenAt (i * 9)
       have f0 := J.X.cell 0
       have n1 := I8.o.cellAt (i * 9 + 1) (by have := HI.out; omega)
       have z1 := I8.o.frozenAt (i * 9 + 1)
       have f1 := J.X.cell 1
       have n2 := I8.o.cellAt (i * 9 + 2) (by have := HI.out; omega)
       have z2 := I8.o.frozenAt (i * 9 + 2)
       have f2 := J.X.cell 2
       have n3 := I8.o.cellAt (i * 9 + 3) (by have := HI.out; omega)
       have z3 := I8.o.frozenAt (i * 9 + 3)
       have f3 := J.X.cell 3
       have n4 := I8.o.cellAt (i * 9 + 4) (by have := HI.out; omega)
       have z4 := I8.o.frozenAt (i * 9 + 4)
       have f4 := J.X.cell 4
       have n5 := I8.o.cellAt (i * 9 + 5) (by have := HI.out; omega)
       have z5 := I8.o.frozenAt (i * 9 + 5)
       have f5 := J.X.cell 5
       have n6 := I8.o.cellAt (i * 9 + 6) (by have := HI.out; omega)
       have z6 := I8.o.frozenAt (i * 9 + 6)
       have f6 := J.X.cell 6
       have n7 := I8.o.cellAt (i * 9 + 7) (by have := HI.out; omega)
       have z7 := I8.o.frozenAt (i * 9 + 7)
       have f7 := J.X.cell 7
       have n8 := I8.o.cellAt (i * 9 + 8) (by have := HI.out; omega)
       have z8 := I8.o.frozenAt (i * 9 + 8)
       have f8 := J.X.cell 8
       rw [show i * 9 = i * 9 + 0 from rfl, zA7 I8.k i hlt 0 (by omega), hrow] at n0
       rw [zA7 I8.k i hlt 1 (by omega), hrow] at n1
       rw [zA7 I8.k i hlt 2 (by omega), hrow] at n2
       rw [zA7 I8.k i hlt 3 (by omega), hrow] at n3
       rw [zA7 I8.k i hlt 4 (by omega), hrow] at n4
       rw [zA7 I8.k i hlt 5 (by omega), hrow] at n5
       rw [zA7 I8.k i hlt 6 (by omega), hrow] at n6
       rw [zA7 I8.k i hlt 7 (by omega), hrow] at n7
       rw [zA7 I8.k i hlt 8 (by omega), hrow] at n8
       simp at cx n0 n1 n2 n3 n4 n5 n6 n7 n8 f0 f1 f2 f3 f4 f5 f6 f7 f8
       clear RI' I11 E9 EE0 hM I8 hb J RJ HJ HRJ HRI II HI0 HX0
       go_wp2_with fail
       go_roundw
       case rel => exact ⟨i + 1, _, by go_num, by omega, HEND.out.1, HEND.out.2⟩
       case measure => simp [intOf]; omega
  · have hlt' : ¬ (i : Int) < (ms.length : Int) := by omega
    have : i = ms.length := by omega
    subst this
    have y0 := I.X.cell 0
    have y1 := I.X.cell 1
    have y2 := I.X.cell 2
    have y3 := I.X.cell 3
    have y4 := I.X.cell 4
    simp at y0 y1 y2 y3 y4
    have hY := I.Y
    have I := II.out
    go_wp2_with (refine wpList_store_row rfl 31 _ _ rfl (w.heap.size + 1) #[.string nm, .string sup, .slice a1 pool.length p1, .slice a4 fs.length p4, .slice a6 ms.length p6] rfl rfl 31 _ hY (by kernel_rfl) rfl (by simp [Value.oneCell']) ?_)
    refine bodyPost_ret (results_cell_row rfl _ _ (w.heap.size + 1) 31 _ (0, 0) _ rfl (setRow_heap _ _ _ _ _ _ hY) Tryz.underlying31 rfl (by kernel_rfl)) rfl ?_
    have Eb : Ext (K.seen (zAc (w.heap.size + 2) (.slice a6 ms.length p6)) wr) (K.seen (newB w.heap.size) (wr.setRow (w.heap.size + 1) #[.string nm, .string sup, .slice a1 pool.length p1, .slice a4 fs.length p4, .slice a6 ms.length p6])) :=
     zAl (by simp [World.setRow]) (fun b _ hb => by
      simp only [zAc, Bool.and_eq_true, decide_eq_true_eq] at hb
      exact ⟨by simp [newB]; omega, setRow_other _ _ _ _ (by omega)⟩)
    have En : Ext (K.seen (newB (w.heap.size + 2)) wr) (K.seen (newB w.heap.size) (wr.setRow (w.heap.size + 1) #[.string nm, .string sup, .slice a1 pool.length p1, .slice a4 fs.length p4, .slice a6 ms.length p6])) :=
     zAl (by simp [World.setRow]) (fun b _ hb => by
      simp only [newB, decide_eq_true_eq] at hb
      exact ⟨by simp [newB]; omega, setRow_other _ _ _ _ (by omega)⟩)
    obtain ⟨a6', p6', e6, l1, l2, hr⟩ := zB6 I.o I.k
    cases e6
    refine ⟨zBn I.B (by omega) _, _, rfl, a1, p1, a4, p4, a6, p6, rfl, s1, s2, LAt.ext I.V Eb (fun _ _ h => h), LAt.ext I.L Eb (fun _ _ h => h), l1, l2, rows, zAk.ext hr En, fun j x hx => ?_⟩
    have := HRI.out j x hx
    rw [if_pos (List.getElem?_eq_some_iff.1 hx).1] at this
    exact zB1.ext Eb this
end Go.Proofs.YtpehimfnkmepnaaGreat.Fr
