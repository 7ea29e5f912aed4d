import Derived.Test.YtpehimfnkmepnaaGreatBz31
import Derived.RangeFuncBox
import Derived.Lib.OwnKind
import Derived.OneCell
set_option maxRecDepth 8000
set_option maxHeartbeats 40000000
namespace Go.Proofs.YtpehimfnkmepnaaGreat.K
open Go.RowKit Q Q.D
def Blk (W : World) (b : Nat) (row : Array Value) (t : TypeId) : Prop := W.heap[b]? = some (.cells row t (0, 0))
theorem Blk.lt {W : World} {b : Nat} {row : Array Value} {t : TypeId} (h : Blk W b row t) : b < W.heap.size := (Array.getElem?_eq_some_iff.1 h).1
theorem Blk.cell {W : World} {b : Nat} {row : Array Value} {t : TypeId} (h : Blk W b row t) (i : Nat) : W.cell? ⟨b, i, none⟩ = row[i]? := by simp [World.cell?, show W.heap[b]? = _ from h]
theorem Blk.frozen {W : World} {b : Nat} {row : Array Value} {t : TypeId} (h : Blk W b row t) (i : Nat) : W.frozen? ⟨b, i, none⟩ = false := by simp [World.frozen?, show W.heap[b]? = _ from h]
theorem Blk.new (W : World) (row : Array Value) (t : TypeId) : Blk (W.alloc (.cells row t)) W.heap.size row t := World.alloc_heap_new W _
theorem Blk.below {X Y : World} {b : Nat} {row : Array Value} {t : TypeId} (h : Blk X b row t) (hb : Below X.heap.size X Y) : Blk Y b row t := (hb.block _ h.lt).trans h
theorem Blk.alloc {X : World} {b : Nat} {row : Array Value} {t : TypeId} (h : Blk X b row t) (o : Obj) : Blk (X.alloc o) b row t := h.below (zA9 X o)
theorem Blk.set {W : World} {b : Nat} {row : Array Value} {t : TypeId} (h : Blk W b row t) (i : Nat) (v : Value) : Blk (W.setCell ⟨b, i, none⟩ v) b (row.setIfInBounds i v) t := by
 obtain ⟨hlt, hk⟩ := Array.getElem?_eq_some_iff.1 h
 show (W.heap.modify b _)[b]? = _
 rw [Array.getElem?_eq_getElem (by rw [Array.size_modify]; exact hlt), Array.getElem_modify_self, hk]
 rfl
theorem Blk.other {W : World} {b b' : Nat} {row : Array Value} {t : TypeId} (h : Blk W b row t) (hne : b ≠ b') (i : Nat) (v : Value) : Blk (W.setCell ⟨b', i, none⟩ v) b row t := by
 show (W.heap.modify b' _)[b]? = _
 rw [Array.getElem?_modify]
 rw [if_neg (fun e => hne e.symm)]
 exact h
theorem zAd {B : Nat} {w W : World} (h : Below B w W) {b : Nat} (hb : B ≤ b) (i : Nat) (v : Value) : Below B w (W.setCell ⟨b, i, none⟩ v) := h.setCell (p := ⟨b, i, none⟩) hb v
theorem zBn {B : Nat} {w W : World} (h : Below B w W) {b : Nat} (hb : B ≤ b) (cs : Array Value) : Below B w (W.setRow b cs) :=
 ⟨h.os, h.tape, h.output, by simp [World.setRow]; exact h.size, fun k hk => (setRow_other _ _ _ _ (by omega)).trans (h.block k hk)⟩
theorem zC1 {w : World} {B B' : Nat} {e : TypeId} {k : Nat} {v : Value} {n : Nat} {xs : List Value} (h : w.ownsRow B e k v n xs) (hb : B' ≤ B) : w.ownsRow B' e k v n xs :=
 ⟨h.1, h.2.imp id (fun ⟨g, cap, cur, e, hB, r⟩ => ⟨g, cap, cur, e, Nat.le_trans hb hB, r⟩)⟩
theorem zC0 {w w' : World} {B : Nat} {e : TypeId} {k : Nat} {v : Value} {n : Nat} {xs : List Value} (h : w.ownsRow B e k v n xs) (hb : Below w.heap.size w w') : w'.ownsRow B e k v n xs :=
 ⟨h.1, h.2.imp id (fun ⟨g, cap, cur, e, hB, hg, r⟩ => ⟨g, cap, cur, e, hB, (hb.block _ (Array.getElem?_eq_some_iff.1 hg).1).trans hg, r⟩)⟩
theorem zCv {w : World} {B : Nat} {e : TypeId} {k : Nat} {v : Value} {n : Nat} {xs : List Value} (h : w.ownsRow B e k v n xs) (hn : 0 < n) : ∃ g cap, v = .slice (some ⟨g, 0, none⟩) n cap := by
 rcases h.2 with ⟨_, h0⟩ | ⟨g, cap, _, e, _⟩
 · omega
 · exact ⟨g, cap, e⟩
theorem zBc {w : World} {B : Nat} {e : TypeId} {k : Nat} {v : Value} {n : Nat} {xs : List Value} (h : w.ownsRow B e k v n xs) {b : Nat} {row : Array Value} {t : TypeId} (hb : Blk w b row t) (ht : t ≠ e) : v.ownBlock ≠ some b := fun eb => by
 obtain ⟨c, fz, h'⟩ := Lib.ownsRow_kind h b eb
 rw [show w.heap[b]? = _ from hb] at h'
 simp only [Option.some.injEq, Obj.cells.injEq] at h'
 exact ht h'.2.1
def zAc (lo : Nat) (v : Value) (b : Nat) : Bool := decide (lo ≤ b) && (v.ownBlock != some b)
theorem zMq {lo B : Nat} {v : Value} (h : B ≤ lo) {w : World} : Ext (seen (zAc lo v) w) (seen (newB B) w) := zAl (Nat.le_refl _) (fun b _ hb => by
 simp only [zAc, Bool.and_eq_true, decide_eq_true_eq] at hb
 exact ⟨by simp [newB]; omega, rfl⟩)
theorem zAe {lo : Nat} {v : Value} {w w' : World} (h : Below w.heap.size w w') : Ext (seen (zAc lo v) w) (seen (zAc lo v) w') := zAl h.size (fun b hb hx => ⟨hx, h.block b hb⟩)
theorem zAt {lo : Nat} {v : Value} {w : World} {b : Nat} (hb : b < lo ∨ v.ownBlock = some b) (i : Nat) (u : Value) : Ext (seen (zAc lo v) w) (seen (zAc lo v) (w.setCell ⟨b, i, none⟩ u)) := zAl (by simp) (fun x _ hx => ⟨hx, by
 simp only [zAc, Bool.and_eq_true, decide_eq_true_eq, bne_iff_ne] at hx
 refine heap_setCell_other w ⟨b, i, none⟩ x u (fun e => ?_)
 rcases hb with h | h
 · simp at e; omega
 · exact hx.2 (by rw [h]; simpa using e.symm)⟩)
theorem View.seen_own {w : World} {B : Nat} {v : Value} {l : List Int} {X : Nat → Bool} (h : w.ownsRow B 5 1 v l.length (zAj l)) (hb : zAq l) (hX : ∀ g, v.ownBlock = some g → X g = true) : View (seen X w) v l := by
 obtain ⟨ao, cap, rfl, hc, hm, hy, hl⟩ := Q.View.of_own h hb
 refine ⟨ao, cap, rfl, hc, hm, hy, ?_⟩
 rcases hl with h | ⟨g, off, rfl, hl⟩
 · exact .inl h
 · have hz : ufz w g = true := by
    rcases h.2 with ⟨e, _⟩ | ⟨g', cap', cur', e, _, hg, _⟩
    · cases e
    · cases e; exact zGx hg
   exact .inr ⟨g, off, rfl, fun j x hj => zBe.2 ⟨hX g rfl, hl j x hj, hz⟩⟩
theorem LAt.seen_own {α : Type} {B : Nat} {e : TypeId} {k : Nat} {R : World → List Value → α → Prop} {w : World} {v : Value} {l : List α} {rows : Nat → List Value} {X : Nat → Bool} (h : w.ownsRow B e k v l.length (zAw rows l.length)) (hk : ∀ j, j < l.length → (rows j).length = k)
 (hX : ∀ g, v.ownBlock = some g → X g = true) (hR : ∀ i x, l[i]? = some x → R (seen X w) (rows i) x) : ∃ ao c, v = .slice ao l.length c ∧ LAt k R (seen X w) ao c l := by
 obtain ⟨ao, c, rfl, h1, h2, hr⟩ := zB6 h hk
 refine ⟨ao, c, rfl, h1, h2, rows, fun hn => ?_, hR⟩
 obtain ⟨b, off, rfl, hlt, hc⟩ := hr hn
 refine ⟨b, off, rfl, by rw [zDq] at hlt ⊢; exact hlt, fun j hj i u hu => zBe.2 ⟨hX b rfl, (zBe.1 (hc j hj i u hu)).2⟩⟩
structure CpI (w W : World) (nm ds : ByteArray) (st nat : Bool) (stk loc : Int) (code : List Int) (hh : List HD) (rr : List RD) (a1 : Option Addr) (p1 : Nat) (a4 : Option Addr) (p4 : Nat) (a6 : Option Addr) (p6 : Nat) (rows : Nat → List Value) : Prop where
 X : Blk W w.heap.size #[.string nm, .string ds, .bool st, .bool nat, .int .i64 stk, .int .i64 loc, .slice a1 code.length p1, .slice a4 hh.length p4, .slice a6 rr.length p6] 39
 Y : Blk W (w.heap.size + 1) #[.string ⟨#[]⟩, .string ⟨#[]⟩, .bool false, .bool false, .int .i64 0, .int .i64 0, .slice none 0 0, .slice none 0 0, .slice none 0 0] 39
 B : Below w.heap.size w W
 V : View (seen (zAc (w.heap.size + 2) (.slice a6 rr.length p6)) W) (.slice a1 code.length p1) code
 L : LAt 4 zHl (seen (zAc (w.heap.size + 2) (.slice a6 rr.length p6)) W) a4 p4 hh
 o : W.ownsRow (w.heap.size + 2) 67 3 (.slice a6 rr.length p6) rr.length (zAw rows rr.length)
 k : ∀ j, j < rr.length → (rows j).length = 3
theorem CpI.below {w W W' : World} {nm ds : ByteArray} {st nat : Bool} {stk loc : Int} {code : List Int} {hh : List HD} {rr : List RD} {a1 : Option Addr} {p1 : Nat} {a4 : Option Addr} {p4 : Nat} {a6 : Option Addr} {p6 : Nat} {rows : Nat → List Value}
 (I : CpI w W nm ds st nat stk loc code hh rr a1 p1 a4 p4 a6 p6 rows) (h : Below W.heap.size W W') : CpI w W' nm ds st nat stk loc code hh rr a1 p1 a4 p4 a6 p6 rows :=
 ⟨I.X.below h, I.Y.below h, I.B.trans (h.mono I.B.size), View.ext I.V (zAe h), LAt.ext I.L (zAe h) (fun _ _ h => h), zC0 I.o h, I.k⟩
def setRow (rows : Nat → List Value) (i t : Nat) (u : Value) (j : Nat) : List Value := if j = i then (rows i).set t u else rows j
theorem zDo {rows : Nat → List Value} {k n i t : Nat} {u : Value} (h : ∀ j, j < n → (rows j).length = k) (hi : i < n) : ∀ j, j < n → (setRow rows i t u j).length = k := by
 intro j hj
 unfold setRow
 split
 · rw [List.length_set]; exact h i hi
 · exact h j hj
theorem zHa {rows : Nat → List Value} {k n i t : Nat} {u : Value} (h : ∀ j, j < n → (rows j).length = k) (hi : i < n) (ht : t < k) : (zAw rows n).set (i * k + t) u = zAw (setRow rows i t u) n := by
 have hl := zB4 h
 have hl' := zB4 (zDo (t := t) (u := u) h hi)
 have hlt : i * k + t < n * k := by
  have h1 : (i + 1) * k ≤ n * k := Nat.mul_le_mul_right k (by omega)
  rw [Nat.add_mul] at h1; omega
 refine List.ext_getElem? (fun y => ?_)
 by_cases hy : y < n * k
 · have hk : 0 < k := by omega
   have hq : y / k < n := (Nat.div_lt_iff_lt_mul hk).2 hy
   have hm := Nat.mod_lt y hk
   have e : y / k * k + y % k = y := by rw [Nat.mul_comm]; exact Nat.div_add_mod y k
   have A := zA7 h (y / k) hq (y % k) hm
   have A' := zA7 (zDo (t := t) (u := u) h hi) (y / k) hq (y % k) hm
   rw [e] at A A'
   rw [A', List.getElem?_set]
   unfold setRow
   by_cases e1 : i * k + t = y
   · have e2 : y / k = i := by rw [← e1, Nat.mul_comm, Nat.mul_add_div hk, Nat.div_eq_of_lt ht, Nat.add_zero]
     have e3 : y % k = t := by rw [← e1, Nat.mul_comm, Nat.mul_add_mod, Nat.mod_eq_of_lt ht]
     rw [if_pos e1, if_pos e2, e3, List.getElem?_set_self (by rw [h i hi]; exact ht), if_pos (by rw [hl]; exact hlt)]
   · rw [if_neg e1, A]
     by_cases e2 : y / k = i
     · rw [if_pos e2, List.getElem?_set_ne (fun e3 => e1 (by rw [← e, e2, ← e3])), e2]
     · rw [if_neg e2]
 · rw [List.getElem?_eq_none (by rw [List.length_set, hl]; omega), List.getElem?_eq_none (by rw [hl']; omega)]
theorem CpI.set {w W : World} {nm ds : ByteArray} {st nat : Bool} {stk loc : Int} {code : List Int} {hh : List HD} {rr : List RD} {a1 : Option Addr} {p1 : Nat} {a4 : Option Addr} {p4 : Nat} {g p6 : Nat} {rows : Nat → List Value}
 (I : CpI w W nm ds st nat stk loc code hh rr a1 p1 a4 p4 (some ⟨g, 0, none⟩) p6 rows) {i t : Nat} (hi : i < rr.length) (ht : t < 3) (u : Value) :
 CpI w (W.setCell ⟨g, i * 3 + t, none⟩ u) nm ds st nat stk loc code hh rr a1 p1 a4 p4 (some ⟨g, 0, none⟩) p6 (setRow rows i t u) ∧ Ext (seen (zAc (w.heap.size + 2) (.slice (some ⟨g, 0, none⟩) rr.length p6)) W) (seen (zAc (w.heap.size + 2) (.slice (some ⟨g, 0, none⟩) rr.length p6)) (W.setCell ⟨g, i * 3 + t, none⟩ u)) := by
 have hg := (I.o.lt g rfl).1
 have E := zAt (w := W) (lo := w.heap.size + 2) (v := .slice (some ⟨g, 0, none⟩) rr.length p6) (.inr rfl) (i * 3 + t) u
 refine ⟨⟨I.X.other (by omega) _ _, I.Y.other (by omega) _ _, zAd I.B (by omega) _ _, View.ext I.V E, LAt.ext I.L E (fun _ _ h => h), ?_, zDo I.k hi⟩, E⟩
 rw [← zHa I.k hi ht]
 exact (I.o.stored _ _).1
def MSm (m : MD) : Prop := m.code.length ≤ 100000 ∧ m.hs.length ≤ 100000 ∧ m.rs.length ≤ 100000 ∧ ∀ r ∈ m.rs, r.loc.length ≤ 100000 ∧ r.stk.length ≤ 100000
theorem zE9 {α : Type} {k : Nat} {R : World → List Value → α → Prop} {w : World} {ao : Option Addr} {c : Nat} {l : List α} (h : LAt k R w ao c l) (hk : ∀ r x, R w r x → r.length = k) : ∃ rows : Nat → List Value, zAk k w ao l.length rows ∧ (∀ j, j < l.length → (rows j).length = k) ∧ ∀ i x, l[i]? = some x → R w (rows i) x := by
 obtain ⟨_, _, rows, h3, h4⟩ := h
 exact ⟨rows, h3, fun j hj => hk _ _ (h4 j l[j] (List.getElem?_eq_getElem hj)), h4⟩
theorem copyM (m : MD) (row : List Value) (w : World) (hm : zB1 w row m) (hs : MSm m) :
 Calls Tryz.prog 61 #[.agg row.toArray] w fun e w' => Below w.heap.size w w' ∧ ∃ row' : List Value, e = .returned (.agg row'.toArray) ∧ zB1 (seen (newB w.heap.size) w') row' m := by
 obtain ⟨o1, c1, o2, c2, o3, c3, rfl, s1, s2, k1, k2, k3⟩ := hm
 obtain ⟨nm, ds, st, nat, stk, loc, code, hh, rr⟩ := m
 obtain ⟨m1, m2, m3, m4⟩ := hs
 simp only at *
 have B2 : Below w.heap.size w ((w.alloc (.cells #[.string nm, .string ds, .bool st, .bool nat, .int .i64 stk, .int .i64 loc, .slice o1 code.length c1, .slice o2 hh.length c2, .slice o3 rr.length c3] 39)).alloc (.cells #[.string ⟨#[]⟩, .string ⟨#[]⟩, .bool false, .bool false, .int .i64 0, .int .i64 0, .slice none 0 0, .slice none 0 0, .slice none 0 0] 39)) := ((Below.refl _ w).alloc (Nat.le_refl _) _).alloc (by simp) _
 have X2 : Blk ((w.alloc (.cells #[.string nm, .string ds, .bool st, .bool nat, .int .i64 stk, .int .i64 loc, .slice o1 code.length c1, .slice o2 hh.length c2, .slice o3 rr.length c3] 39)).alloc (.cells #[.string ⟨#[]⟩, .string ⟨#[]⟩, .bool false, .bool false, .int .i64 0, .int .i64 0, .slice none 0 0, .slice none 0 0, .slice none 0 0] 39)) w.heap.size #[.string nm, .string ds, .bool st, .bool nat, .int .i64 stk, .int .i64 loc, .slice o1 code.length c1, .slice o2 hh.length c2, .slice o3 rr.length c3] 39 := (Blk.new w _ _).alloc _
 have Y2 := Blk.new (w.alloc (.cells #[.string nm, .string ds, .bool st, .bool nat, .int .i64 stk, .int .i64 loc, .slice o1 code.length c1, .slice o2 hh.length c2, .slice o3 rr.length c3] 39)) #[.string ⟨#[]⟩, .string ⟨#[]⟩, .bool false, .bool false, .int .i64 0, .int .i64 0, .slice none 0 0, .slice none 0 0, .slice none 0 0] 39
 rw [World.size_alloc] at Y2
 have hC := D.zA0 (zNj _ code _ (k1.below B2) (by omega))
 have hb1 : zAq code := by obtain ⟨_, _, _, _, _, hy, _⟩ := k1; exact hy
 go_enter Tryz.func61, Tryz.ntmps61
 go_wp2_with fail
 generalize (w.alloc (.cells #[.string nm, .string ds, .bool st, .bool nat, .int .i64 stk, .int .i64 loc, .slice o1 code.length c1, .slice o2 hh.length c2, .slice o3 rr.length c3] 39)).alloc (.cells #[.string ⟨#[]⟩, .string ⟨#[]⟩, .bool false, .bool false, .int .i64 0, .int .i64 0, .slice none 0 0, .slice none 0 0, .slice none 0 0] 39) = W2 at *
 refine hC.out.mono ?_
 rintro e w1 ⟨b1, v1, rfl, ow1⟩
 obtain ⟨a1, p1, rfl⟩ := Q.zA4 ow1
 have hsz := B2.size
 have hY2 := Y2.lt
 have ow1 := zC1 ow1 (show w.heap.size + 2 ≤ W2.heap.size by omega)
 have X3 := (X2.below b1).set 6 (.slice a1 code.length p1)
 have Y3 := (Y2.below b1).other (b' := w.heap.size) (by omega) 6 (.slice a1 code.length p1)
 have c6 := (X2.below b1).cell 6
 have f6 := (X2.below b1).frozen 6
 have c7 := X3.cell 7
 have ow3 := ownsRow_setCell_other (a := ⟨w.heap.size, 6, none⟩) ow1 (zBc ow1 (X2.below b1) (by decide)) (.slice a1 code.length p1)
 have B3 := zAd (B2.trans (b1.mono B2.size)) (Nat.le_refl w.heap.size) 6 (.slice a1 code.length p1)
 simp at c6 c7
 clear hC
 go_wp2_with fail
 generalize w1.setCell ⟨w.heap.size, 6, none⟩ (.slice a1 code.length p1) = W3 at *
 obtain ⟨rowsH, r1, r2, r3⟩ := zE9 k2 (fun r x h => by rw [h.1]; rfl)
 refine (cloneH W3 o2 hh.length c2 rowsH (zAk.below r1 B3) r2 (fun j hj u hu => ?one) m2).mono ?_
 case one =>
  have := (r3 j hh[j] (List.getElem?_eq_getElem hj)).1
  rw [this] at hu
  simp at hu
  rcases hu with rfl | rfl | rfl | rfl <;> rfl
 rintro e w4 ⟨b4, v4, rfl, ow4⟩
 obtain ⟨a4, p4, rfl, _⟩ := zB6 ow4 r2
 have hY3 := Y3.lt
 have ow4 := zC1 ow4 (show w.heap.size + 2 ≤ W3.heap.size by omega)
 have X5 := (X3.below b4).set 7 (.slice a4 hh.length p4)
 have Y5 := (Y3.below b4).other (b' := w.heap.size) (by omega) 7 (.slice a4 hh.length p4)
 have c7 := (X3.below b4).cell 7
 have f7 := (X3.below b4).frozen 7
 have c8 := X5.cell 8
 have ow3 := zC0 ow3 b4
 have ow5 := ownsRow_setCell_other (a := ⟨w.heap.size, 7, none⟩) ow3 (zBc ow3 (X3.below b4) (by decide)) (.slice a4 hh.length p4)
 have ow6 := ownsRow_setCell_other (a := ⟨w.heap.size, 7, none⟩) ow4 (zBc ow4 (X3.below b4) (by decide)) (.slice a4 hh.length p4)
 have B5 := zAd (B3.trans (b4.mono B3.size)) (Nat.le_refl w.heap.size) 7 (.slice a4 hh.length p4)
 simp at c7 c8
 go_wp2_with fail
 generalize w4.setCell ⟨w.heap.size, 7, none⟩ (.slice a4 hh.length p4) = W5 at *
 obtain ⟨rowsR, q1, q2, q3⟩ := zE9 k3 (fun r x h => by obtain ⟨_, _, _, _, e, _⟩ := h; rw [e]; rfl)
 refine (cloneR W5 o3 rr.length c3 rowsR (zAk.below q1 B5) q2 (fun j hj u hu => ?one) m3).mono ?_
 case one =>
  obtain ⟨_, _, _, _, this, _⟩ := q3 j rr[j] (List.getElem?_eq_getElem hj)
  rw [this] at hu
  simp at hu
  rcases hu with rfl | rfl | rfl <;> rfl
 rintro e w6 ⟨b6, v6, rfl, ow7⟩
 obtain ⟨a6, p6, rfl, hp6, hm6, _⟩ := zB6 ow7 q2
 have hY5 := Y5.lt
 have hnew : ∀ g, (Value.slice a6 rr.length p6).ownBlock = some g → W5.heap.size ≤ g := fun g hg => (ow7.lt g hg).1
 have ow7 := zC1 ow7 (show w.heap.size + 2 ≤ W5.heap.size by omega)
 have X7 := (X5.below b6).set 8 (.slice a6 rr.length p6)
 have Y7 := (Y5.below b6).other (b' := w.heap.size) (by omega) 8 (.slice a6 rr.length p6)
 have c8 := (X5.below b6).cell 8
 have f8 := (X5.below b6).frozen 8
 have ow7' := ownsRow_setCell_other (a := ⟨w.heap.size, 8, none⟩) ow7 (zBc ow7 (X5.below b6) (by decide)) (.slice a6 rr.length p6)
 have V7 : View (seen (zAc (w.heap.size + 2) (.slice a6 rr.length p6)) (w6.setCell ⟨w.heap.size, 8, none⟩ (.slice a6 rr.length p6))) (.slice a1 code.length p1) code := by
  refine View.ext (View.seen_own (X := zAc (w.heap.size + 2) (.slice a6 rr.length p6)) ow5 hb1 (fun g hg => ?_)) ((zAe b6).trans (zAt (.inl (by omega)) 8 _))
  obtain ⟨l1, l2⟩ := ow5.lt g hg
  simp only [zAc, Bool.and_eq_true, decide_eq_true_eq, bne_iff_ne]
  exact ⟨by omega, fun e => by have := hnew g e; omega⟩
 obtain ⟨a4', p4', e4, L7⟩ : ∃ ao c, Value.slice a4 hh.length p4 = .slice ao hh.length c ∧ LAt 4 zHl (seen (zAc (w.heap.size + 2) (.slice a6 rr.length p6)) W5) ao c hh := LAt.seen_own ow6 r2 (fun g hg => by
  obtain ⟨l1, l2⟩ := ow6.lt g hg
  simp only [zAc, Bool.and_eq_true, decide_eq_true_eq, bne_iff_ne]
  exact ⟨by omega, fun e => by have := hnew g e; omega⟩) (fun i x hx => r3 i x hx)
 cases e4
 have L7 := LAt.ext L7 ((zAe b6).trans (zAt (w := w6) (.inl (show w.heap.size < w.heap.size + 2 by omega)) 8 (.slice a6 rr.length p6))) (fun _ _ h => h)
 have B7 := zAd (B5.trans (b6.mono B5.size)) (Nat.le_refl w.heap.size) 8 (.slice a6 rr.length p6)
 simp at c8
 go_wp2_with fail
 generalize w6.setCell ⟨w.heap.size, 8, none⟩ (.slice a6 rr.length p6) = W7 at *
 have I0 : CpI w W7 nm ds st nat stk loc code hh rr a1 p1 a4 p4 a6 p6 rowsR := ⟨X7, Y7, B7, V7, L7, ow7', q2⟩
 have R0 : ∀ j x, rr[j]? = some x → if j < 0 then zAx (seen (zAc (w.heap.size + 2) (.slice a6 rr.length p6)) W7) (rowsR j) x else zAx w (rowsR j) x := fun j x hx => by simp; exact q3 j x hx
 clear X7 Y7 B7 V7 L7 ow7' ow7 hnew c8 f8 c7 f7 c6 f6 X5 Y5 X3 Y3 X2 Y2 ow5 ow6 ow4 ow3 ow1 b6 B5 b4 B3 b1 B2 r1 r2 r3 q1 q2 q3 k1 k2 k3 hY2 hY3 hY5 hsz
 go_loopw [20] (fun iv wr => ∃ (i : Nat) (rows : Nat → List Value), iv = .int .i64 (i : Int) ∧ i ≤ rr.length ∧ CpI w wr nm ds st nat stk loc code hh rr a1 p1 a4 p4 a6 p6 rows ∧ ∀ j x, rr[j]? = some x → if j < i then zAx (seen (zAc (w.heap.size + 2) (.slice a6 rr.length p6)) wr) (rows j) x else zAx w (rows j) x) (fun iv _ => rr.length - (intOf iv).toNat)
 case atStart => exact ⟨0, rowsR, rfl, Nat.zero_le _, I0, R0⟩
 case round =>
  obtain ⟨i, rows, rfl, hi, I, RI⟩ := hrel
  clear I0 R0
  by_cases hlt : i < rr.length
  · have hlt' : (i : Int) < (rr.length : Int) := by omega
    obtain ⟨x, hx⟩ : ∃ x, rr[i]? = some x := ⟨_, List.getElem?_eq_getElem hlt⟩
    have hf := RI i x hx
    rw [if_neg (Nat.lt_irrefl i)] at hf
    obtain ⟨ol, cl, os, cs, hrow, L1, L2⟩ := hf
    obtain ⟨g, p6', e6⟩ := zCv I.o (by omega)
    cases e6
    have n0 := I.o.cellAt (i * 3) (by omega)
    have n1 := I.o.cellAt (i * 3 + 1) (by omega)
    have n2 := I.o.cellAt (i * 3 + 2) (by omega)
    rw [show i * 3 = i * 3 + 0 from rfl, zA7 I.k i hlt 0 (by omega), hrow] at n0
    rw [zA7 I.k i hlt 1 (by omega), hrow] at n1
    rw [zA7 I.k i hlt 2 (by omega), hrow] at n2
    simp at n0 n1 n2
    have cx := I.X.cell 8
    simp at cx
    have I8 := I.below (zA9 wr (.cells #[.int .i64 x.aT, .slice ol x.loc.length cl, .slice os x.stk.length cs] 67))
    have F8 := Blk.new wr #[.int .i64 x.aT, .slice ol x.loc.length cl, .slice os x.stk.length cs] 67
    have E8 := zAe (lo := w.heap.size + 2) (v := .slice (some ⟨g, 0, none⟩) rr.length p6) (zA9 wr (.cells #[.int .i64 x.aT, .slice ol x.loc.length cl, .slice os x.stk.length cs] 67))
    have hs8 : wr.heap.size < (wr.alloc (.cells #[.int .i64 x.aT, .slice ol x.loc.length cl, .slice os x.stk.length cs] 67)).heap.size := by simp
    have hgbf := (I.o.lt g rfl).2
    go_wp2_with fail
    generalize wr.alloc (.cells #[.int .i64 x.aT, .slice ol x.loc.length cl, .slice os x.stk.length cs] 67) = W8 at *
    generalize wr.heap.size = bf at *
    obtain ⟨zQ3, t1, t2, t3⟩ := zE9 L1 (fun r x h => by rw [h.1]; rfl)
    have hcl := D.zA0 (zM7 W8.drew ol x.loc.length cl zQ3 (zAk.below t1 I8.B.drew) t2 (fun j hj u hu => by rw [(t3 j _ (List.getElem?_eq_getElem hj)).1] at hu; simp at hu; subst hu; rfl) (m4 x (List.mem_of_getElem? hx)).1)
    have cx := I8.X.cell 8
    have cf := F8.cell 1
    simp at cx cf
    have I8d := I8.below (Below.refl _ W8).drew
    have E8d := E8.trans (zAe (lo := w.heap.size + 2) (v := .slice (some ⟨g, 0, none⟩) rr.length p6) (Below.refl _ W8).drew)
    have F8d : Blk W8.drew bf #[.int .i64 x.aT, .slice ol x.loc.length cl, .slice os x.stk.length cs] 67 := F8
    have hgB := (I8.o.lt g rfl).1
    go_region_with (go_at_call 62; refine hcl.out.mono ?_; rintro e w8 ⟨b8, v8, rfl, ow8⟩; obtain ⟨a8, p8, rfl, _⟩ := zB6 ow8 t2; have cx8 := (I8d.X.below b8).cell 8; have cf8 := (F8d.below b8).cell 2; have ns := (I8d.below b8).o.cellAt (i * 3 + 1) (by omega); have nf := (I8d.below b8).o.frozenAt (i * 3 + 1); rw [zA7 I8.k i hlt 1 (by omega), hrow] at ns; simp at cx8 cf8 ns)
    all_goals
     have hW8 : W8.drew.heap.size = W8.heap.size := rfl
     have hb8 := b8.size
     obtain ⟨I9, E9⟩ := (I8d.below b8).set hlt (t := 1) (by omega) (.slice a8 x.loc.length p8)
     obtain ⟨a8', p8', e8, LL⟩ : ∃ ao c, Value.slice a8 x.loc.length p8 = .slice ao x.loc.length c ∧ LAt 1 zDm (seen (zAc (w.heap.size + 2) (.slice (some ⟨g, 0, none⟩) rr.length p6)) w8) ao c x.loc := LAt.seen_own ow8 t2 (fun g' hg' => by
      obtain ⟨l1, l2⟩ := ow8.lt g' hg'
      simp only [zAc, Bool.and_eq_true, decide_eq_true_eq, bne_iff_ne]
      exact ⟨by omega, fun e => by simp [Value.ownBlock] at e; omega⟩) (fun i x hx => t3 i x hx)
     cases e8
     replace LL := LAt.ext LL E9 (fun _ _ h => h)
     have E9 := (E8d.trans (zAe b8)).trans E9
     have F9 := (F8d.below b8).other (b' := g) (by omega) (i * 3 + 1) (.slice a8 x.loc.length p8)
     have hs9 : W8.heap.size ≤ (w8.setCell ⟨g, i * 3 + 1, none⟩ (.slice a8 x.loc.length p8)).heap.size := by simp; omega
     clear cx8 cf8 ns nf
     go_wp2_with fail
     generalize w8.setCell ⟨g, i * 3 + 1, none⟩ (.slice a8 x.loc.length p8) = W9 at *
     obtain ⟨rowsK, u1, u2, u3⟩ := zE9 L2 (fun r x h => by rw [h.1]; rfl)
     have hcl := D.zA0 (zM7 W9.drew os x.stk.length cs rowsK (zAk.below u1 I9.B.drew) u2 (fun j hj u hu => by rw [(u3 j _ (List.getElem?_eq_getElem hj)).1] at hu; simp at hu; subst hu; rfl) (m4 x (List.mem_of_getElem? hx)).2)
     have cx := I9.X.cell 8
     have cf := F9.cell 2
     simp at cx cf
     have I9d := I9.below (Below.refl _ W9).drew
     have F9d : Blk W9.drew bf #[.int .i64 x.aT, .slice ol x.loc.length cl, .slice os x.stk.length cs] 67 := F9
     clear hcl
     have hcl := D.zA0 (zM7 W9.drew os x.stk.length cs rowsK (zAk.below u1 I9.B.drew) u2 (fun j hj u hu => by rw [(u3 j _ (List.getElem?_eq_getElem hj)).1] at hu; simp at hu; subst hu; rfl) (m4 x (List.mem_of_getElem? hx)).2)
     go_region_with (go_at_call 62; refine hcl.out.mono ?_; rintro e w10 ⟨b10, v10, rfl, ow10⟩; obtain ⟨a10, p10, rfl, _⟩ := zB6 ow10 u2; have cx8 := (I9d.X.below b10).cell 8; have ns := (I9d.below b10).o.cellAt (i * 3 + 2) (by omega); have nf := (I9d.below b10).o.frozenAt (i * 3 + 2); rw [zA7 I9.k i hlt 2 (by omega), setRow, if_pos rfl, hrow] at ns; simp at cx8 ns)
     all_goals
      have hW9 : W9.drew.heap.size = W9.heap.size := rfl
      have hb10 := b10.size
      obtain ⟨I11, E11⟩ := (I9d.below b10).set hlt (t := 2) (by omega) (.slice a10 x.stk.length p10)
      obtain ⟨a10', p10', e10, LK⟩ : ∃ ao c, Value.slice a10 x.stk.length p10 = .slice ao x.stk.length c ∧ LAt 1 zDm (seen (zAc (w.heap.size + 2) (.slice (some ⟨g, 0, none⟩) rr.length p6)) w10) ao c x.stk := LAt.seen_own ow10 u2 (fun g' hg' => by
       obtain ⟨l1, l2⟩ := ow10.lt g' hg'
       simp only [zAc, Bool.and_eq_true, decide_eq_true_eq, bne_iff_ne]
       exact ⟨by omega, fun e => by simp [Value.ownBlock] at e; omega⟩) (fun i x hx => u3 i x hx)
      cases e10
      have LK' := LAt.ext LK E11 (fun _ _ h => h)
      have Ed := zAe (lo := w.heap.size + 2) (v := .slice (some ⟨g, 0, none⟩) rr.length p6) (Below.refl _ W9).drew
      have E12 := (Ed.trans (zAe b10)).trans E11
      have LL' := LAt.ext LL E12 (fun _ _ h => h)
      have EE := E9.trans E12
      have RI' : ∀ j y, rr[j]? = some y → if j < i + 1 then zAx (seen (zAc (w.heap.size + 2) (.slice (some ⟨g, 0, none⟩) rr.length p6)) (w10.setCell ⟨g, i * 3 + 2, none⟩ (.slice a10 x.stk.length p10))) (setRow (setRow rows i 1 (.slice a8 x.loc.length p8)) i 2 (.slice a10 x.stk.length p10) j) y else zAx w (setRow (setRow rows i 1 (.slice a8 x.loc.length p8)) i 2 (.slice a10 x.stk.length p10) j) y := by
       intro j y hy
       by_cases ej : j = i
       · subst ej
         rw [hx] at hy
         cases hy
         rw [if_pos (by omega)]
         simp only [setRow, if_true, hrow]
         exact ⟨_, _, _, _, rfl, LL', LK'⟩
       · have := RI j y hy
         simp only [setRow, if_neg ej]
         by_cases hji : j < i
         · rw [if_pos hji] at this; rw [if_pos (by omega)]; exact zAx.ext EE this
         · rw [if_neg hji] at this; rw [if_neg (by omega)]; exact this
      clear cx8 ns nf cx cf
      go_wp2
      go_roundw
      case rel => exact ⟨i + 1, _, by go_num, by omega, I11, RI'⟩
      case measure => simp [intOf]; omega
  · have hlt' : ¬ (i : Int) < (rr.length : Int) := by omega
    have : i = rr.length := by omega
    subst this
    have y0 := I.X.cell 0
    have y1 := I.X.cell 1
    have y2 := I.X.cell 2
    have y3 := I.X.cell 3
    have y4 := I.X.cell 4
    have y5 := I.X.cell 5
    have y6 := I.X.cell 6
    have y7 := I.X.cell 7
    have y8 := I.X.cell 8
    simp at y0 y1 y2 y3 y4 y5 y6 y7 y8
    go_wp2_with (refine wpList_store_row rfl 39 _ _ rfl (w.heap.size + 1) #[.string nm, .string ds, .bool st, .bool nat, .int .i64 stk, .int .i64 loc, .slice a1 code.length p1, .slice a4 hh.length p4, .slice a6 rr.length p6] rfl rfl 39 _ I.Y (by kernel_rfl) rfl (by simp [Value.oneCell']) ?_)
    have hY := I.Y
    refine bodyPost_ret (results_cell_row rfl _ _ (w.heap.size + 1) 39 _ (0, 0) _ rfl (setRow_heap _ _ _ _ _ _ hY) Tryz.underlying39 rfl (by kernel_rfl)) rfl ?_
    have hgo := fun g hg => (I.o.lt g hg).1
    have Eb : Ext (seen (zAc (w.heap.size + 2) (.slice a6 rr.length p6)) wr) (seen (newB w.heap.size) (wr.setRow (w.heap.size + 1) #[.string nm, .string ds, .bool st, .bool nat, .int .i64 stk, .int .i64 loc, .slice a1 code.length p1, .slice a4 hh.length p4, .slice a6 rr.length p6])) :=
     zAl (by simp [World.setRow]) (fun b _ hb => by
      simp only [zAc, Bool.and_eq_true, decide_eq_true_eq] at hb
      exact ⟨by simp [newB]; omega, setRow_other _ _ _ _ (by omega)⟩)
    have En : Ext (seen (newB (w.heap.size + 2)) wr) (seen (newB w.heap.size) (wr.setRow (w.heap.size + 1) #[.string nm, .string ds, .bool st, .bool nat, .int .i64 stk, .int .i64 loc, .slice a1 code.length p1, .slice a4 hh.length p4, .slice a6 rr.length p6])) :=
     zAl (by simp [World.setRow]) (fun b _ hb => by
      simp only [newB, decide_eq_true_eq] at hb
      exact ⟨by simp [newB]; omega, setRow_other _ _ _ _ (by omega)⟩)
    obtain ⟨a6', p6', e6, l1, l2, hr⟩ := zB6 I.o I.k
    cases e6
    refine ⟨zBn I.B (by omega) _, _, rfl, a1, p1, a4, p4, a6, p6, rfl, s1, s2, View.ext I.V Eb, LAt.ext I.L Eb (fun _ _ h => h), l1, l2, rows, zAk.ext hr En, fun j x hx => ?_⟩
    have := RI j x hx
    rw [if_pos (List.getElem?_eq_some_iff.1 hx).1] at this
    exact zAx.ext Eb this
end Go.Proofs.YtpehimfnkmepnaaGreat.K
