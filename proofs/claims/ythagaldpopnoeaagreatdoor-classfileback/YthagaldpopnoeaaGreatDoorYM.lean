import Derived.Test.YthagaldpopnoeaaGreatDoorYL

/- A method, read: walked. -/
namespace Go.Proofs.YthagaldpopnoeaaGreatDoor
open Go.RowKit D

theorem row9 {w : World} {g : Nat} {b0 b1 b2 b3 b4 b5 b6 b7 b8 : Value} {T : TypeId} (h : w.heap[g]? = some (.cells #[b0, b1, b2, b3, b4, b5, b6, b7, b8] T (0, 0))) :
    w.cell? ⟨g, 0, none⟩ = some b0 ∧ w.cell? ⟨g, 1, none⟩ = some b1 ∧ w.cell? ⟨g, 2, none⟩ = some b2 ∧ w.cell? ⟨g, 3, none⟩ = some b3 ∧ w.cell? ⟨g, 4, none⟩ = some b4 ∧ w.cell? ⟨g, 5, none⟩ = some b5 ∧ w.cell? ⟨g, 6, none⟩ = some b6 ∧ w.cell? ⟨g, 7, none⟩ = some b7 ∧ w.cell? ⟨g, 8, none⟩ = some b8 ∧ ∀ x, w.frozen? ⟨g, x, none⟩ = false :=
  ⟨cell_row h 0 rfl, cell_row h 1 rfl, cell_row h 2 rfl, cell_row h 3 rfl, cell_row h 4 rfl, cell_row h 5 rfl, cell_row h 6 rfl, cell_row h 7 rfl, cell_row h 8 rfl, fun x => frozen_row h x⟩
theorem set9T {w : World} {g : Nat} {T : TypeId} {b0 b1 b2 b3 b4 b5 b6 b7 b8 : Value} (v0 v1 v2 v3 v4 v5 v6 v7 v8 : Value) (h : w.heap[g]? = some (.cells #[b0, b1, b2, b3, b4, b5, b6, b7, b8] T (0, 0))) :
    (((((((((w.setCell ⟨g, 0, none⟩ v0).setCell ⟨g, 1, none⟩ v1).setCell ⟨g, 2, none⟩ v2).setCell ⟨g, 3, none⟩ v3).setCell ⟨g, 4, none⟩ v4).setCell ⟨g, 5, none⟩ v5).setCell ⟨g, 6, none⟩ v6).setCell ⟨g, 7, none⟩ v7).setCell ⟨g, 8, none⟩ v8).heap[g]? = some (.cells #[v0, v1, v2, v3, v4, v5, v6, v7, v8] T (0, 0)) := by
  have h1 : (w.setCell ⟨g, 0, none⟩ v0).heap[g]? = some (.cells #[v0, b1, b2, b3, b4, b5, b6, b7, b8] T (0, 0)) := gset_row (j := 0) (u := v0) h
  have h2 : ((w.setCell ⟨g, 0, none⟩ v0).setCell ⟨g, 1, none⟩ v1).heap[g]? = some (.cells #[v0, v1, b2, b3, b4, b5, b6, b7, b8] T (0, 0)) := gset_row (j := 1) (u := v1) h1
  have h3 : (((w.setCell ⟨g, 0, none⟩ v0).setCell ⟨g, 1, none⟩ v1).setCell ⟨g, 2, none⟩ v2).heap[g]? = some (.cells #[v0, v1, v2, b3, b4, b5, b6, b7, b8] T (0, 0)) := gset_row (j := 2) (u := v2) h2
  have h4 : ((((w.setCell ⟨g, 0, none⟩ v0).setCell ⟨g, 1, none⟩ v1).setCell ⟨g, 2, none⟩ v2).setCell ⟨g, 3, none⟩ v3).heap[g]? = some (.cells #[v0, v1, v2, v3, b4, b5, b6, b7, b8] T (0, 0)) := gset_row (j := 3) (u := v3) h3
  have h5 : (((((w.setCell ⟨g, 0, none⟩ v0).setCell ⟨g, 1, none⟩ v1).setCell ⟨g, 2, none⟩ v2).setCell ⟨g, 3, none⟩ v3).setCell ⟨g, 4, none⟩ v4).heap[g]? = some (.cells #[v0, v1, v2, v3, v4, b5, b6, b7, b8] T (0, 0)) := gset_row (j := 4) (u := v4) h4
  have h6 : ((((((w.setCell ⟨g, 0, none⟩ v0).setCell ⟨g, 1, none⟩ v1).setCell ⟨g, 2, none⟩ v2).setCell ⟨g, 3, none⟩ v3).setCell ⟨g, 4, none⟩ v4).setCell ⟨g, 5, none⟩ v5).heap[g]? = some (.cells #[v0, v1, v2, v3, v4, v5, b6, b7, b8] T (0, 0)) := gset_row (j := 5) (u := v5) h5
  have h7 : (((((((w.setCell ⟨g, 0, none⟩ v0).setCell ⟨g, 1, none⟩ v1).setCell ⟨g, 2, none⟩ v2).setCell ⟨g, 3, none⟩ v3).setCell ⟨g, 4, none⟩ v4).setCell ⟨g, 5, none⟩ v5).setCell ⟨g, 6, none⟩ v6).heap[g]? = some (.cells #[v0, v1, v2, v3, v4, v5, v6, b7, b8] T (0, 0)) := gset_row (j := 6) (u := v6) h6
  have h8 : ((((((((w.setCell ⟨g, 0, none⟩ v0).setCell ⟨g, 1, none⟩ v1).setCell ⟨g, 2, none⟩ v2).setCell ⟨g, 3, none⟩ v3).setCell ⟨g, 4, none⟩ v4).setCell ⟨g, 5, none⟩ v5).setCell ⟨g, 6, none⟩ v6).setCell ⟨g, 7, none⟩ v7).heap[g]? = some (.cells #[v0, v1, v2, v3, v4, v5, v6, v7, b8] T (0, 0)) := gset_row (j := 7) (u := v7) h7
  have h9 : (((((((((w.setCell ⟨g, 0, none⟩ v0).setCell ⟨g, 1, none⟩ v1).setCell ⟨g, 2, none⟩ v2).setCell ⟨g, 3, none⟩ v3).setCell ⟨g, 4, none⟩ v4).setCell ⟨g, 5, none⟩ v5).setCell ⟨g, 6, none⟩ v6).setCell ⟨g, 7, none⟩ v7).setCell ⟨g, 8, none⟩ v8).heap[g]? = some (.cells #[v0, v1, v2, v3, v4, v5, v6, v7, v8] T (0, 0)) := gset_row (j := 8) (u := v8) h8
  exact h9
theorem off9 {w : World} {g b : Nat} {u : Value} (v0 v1 v2 v3 v4 v5 v6 v7 v8 : Value) (hne : b ≠ g) (h : w.cell? ⟨b, 0, none⟩ = some u) :
    (((((((((w.setCell ⟨g, 0, none⟩ v0).setCell ⟨g, 1, none⟩ v1).setCell ⟨g, 2, none⟩ v2).setCell ⟨g, 3, none⟩ v3).setCell ⟨g, 4, none⟩ v4).setCell ⟨g, 5, none⟩ v5).setCell ⟨g, 6, none⟩ v6).setCell ⟨g, 7, none⟩ v7).setCell ⟨g, 8, none⟩ v8).cell? ⟨b, 0, none⟩ = some u := by
  rw [World.cell?_of_block (a := ⟨b, 0, none⟩) (w := w), h]
  rw [Below.heap_setCell _ _ _ _ hne, Below.heap_setCell _ _ _ _ hne, Below.heap_setCell _ _ _ _ hne, Below.heap_setCell _ _ _ _ hne, Below.heap_setCell _ _ _ _ hne, Below.heap_setCell _ _ _ _ hne, Below.heap_setCell _ _ _ _ hne, Below.heap_setCell _ _ _ _ hne, Below.heap_setCell _ _ _ _ hne]
theorem put9R {pr g : Nat} {w0 w : World} {v : Value} {l : List Int} {a0 a : Nat} {y0 y : Int} (v0 v1 v2 v3 v4 v5 v6 v7 v8 : Value) (h0 : IsR pr w0 v l a0 y0) (ho : Only pr w0 w) (h : IsR pr w v l a y) (hp : w0.heap.size ≤ g) :
    IsR pr (((((((((w.setCell ⟨g, 0, none⟩ v0).setCell ⟨g, 1, none⟩ v1).setCell ⟨g, 2, none⟩ v2).setCell ⟨g, 3, none⟩ v3).setCell ⟨g, 4, none⟩ v4).setCell ⟨g, 5, none⟩ v5).setCell ⟨g, 6, none⟩ v6).setCell ⟨g, 7, none⟩ v7).setCell ⟨g, 8, none⟩ v8) v l a y ∧ Only pr w0 (((((((((w.setCell ⟨g, 0, none⟩ v0).setCell ⟨g, 1, none⟩ v1).setCell ⟨g, 2, none⟩ v2).setCell ⟨g, 3, none⟩ v3).setCell ⟨g, 4, none⟩ v4).setCell ⟨g, 5, none⟩ v5).setCell ⟨g, 6, none⟩ v6).setCell ⟨g, 7, none⟩ v7).setCell ⟨g, 8, none⟩ v8) := by
  have r1 := h0.put (o := 0) (u := v0) ho h hp
  have o1 := ho.put (o := 0) (u := v0) hp
  have r2 := h0.put (o := 1) (u := v1) o1 r1 hp
  have o2 := o1.put (o := 1) (u := v1) hp
  have r3 := h0.put (o := 2) (u := v2) o2 r2 hp
  have o3 := o2.put (o := 2) (u := v2) hp
  have r4 := h0.put (o := 3) (u := v3) o3 r3 hp
  have o4 := o3.put (o := 3) (u := v3) hp
  have r5 := h0.put (o := 4) (u := v4) o4 r4 hp
  have o5 := o4.put (o := 4) (u := v4) hp
  have r6 := h0.put (o := 5) (u := v5) o5 r5 hp
  have o6 := o5.put (o := 5) (u := v5) hp
  have r7 := h0.put (o := 6) (u := v6) o6 r6 hp
  have o7 := o6.put (o := 6) (u := v6) hp
  have r8 := h0.put (o := 7) (u := v7) o7 r7 hp
  have o8 := o7.put (o := 7) (u := v7) hp
  have r9 := h0.put (o := 8) (u := v8) o8 r8 hp
  have o9 := o8.put (o := 8) (u := v8) hp
  exact ⟨r9, o9⟩
theorem same9 {w : World} {g : Nat} {U T : TypeId} {b0 b1 b2 b3 b4 b5 b6 b7 b8 : Value} (v0 v1 v2 v3 v4 v5 v6 v7 v8 : Value) (h : w.heap[g]? = some (.cells #[b0, b1, b2, b3, b4, b5, b6, b7, b8] U (0, 0))) (hT : T ≠ U) : Same T w (((((((((w.setCell ⟨g, 0, none⟩ v0).setCell ⟨g, 1, none⟩ v1).setCell ⟨g, 2, none⟩ v2).setCell ⟨g, 3, none⟩ v3).setCell ⟨g, 4, none⟩ v4).setCell ⟨g, 5, none⟩ v5).setCell ⟨g, 6, none⟩ v6).setCell ⟨g, 7, none⟩ v7).setCell ⟨g, 8, none⟩ v8) := by
  have h1 := gset_row (j := 0) (u := v0) h
  have h2 := gset_row (j := 1) (u := v1) h1
  have h3 := gset_row (j := 2) (u := v2) h2
  have h4 := gset_row (j := 3) (u := v3) h3
  have h5 := gset_row (j := 4) (u := v4) h4
  have h6 := gset_row (j := 5) (u := v5) h5
  have h7 := gset_row (j := 6) (u := v6) h6
  have h8 := gset_row (j := 7) (u := v7) h7
  have h9 := gset_row (j := 8) (u := v8) h8
  exact (Same.of_set h 0 v0 hT).trans ((Same.of_set h1 1 v1 hT).trans ((Same.of_set h2 2 v2 hT).trans ((Same.of_set h3 3 v3 hT).trans ((Same.of_set h4 4 v4 hT).trans ((Same.of_set h5 5 v5 hT).trans ((Same.of_set h6 6 v6 hT).trans ((Same.of_set h7 7 v7 hT).trans ((Same.of_set h8 8 v8 hT)))))))))
theorem HandR.any {w w' : World} {r : List Value} {x : HD} (h : HandR w r x) : HandR w' r x := h
/-- Where a method is being read: its box, the reader's, the answer's. -/
structure MSt (pr : Nat) (v : Value) (l : List Int) (w wx : World) (g : Nat) (b2 b3 b4 b5 b6 b7 b8 : Value) (nm ds : ByteArray) (a : Nat) (y : Int) : Prop where
  g : wx.heap[g]? = some (.cells #[.string nm, .string ds, b2, b3, b4, b5, b6, b7, b8] 26)
  b : wx.heap[w.heap.size]? = some (.cells #[.pointer (some ⟨pr, 0, none⟩)] 79)
  z : wx.heap[w.heap.size + 1]? = some (.cells #[.string ⟨#[]⟩, .string ⟨#[]⟩, .bool false, .bool false, .int .i64 0, .int .i64 0, .slice none 0 0, .slice none 0 0, .slice none 0 0] 26)
  r : IsR pr wx v l a y
  o : Only pr w wx
theorem MSt.call {pr : Nat} {v : Value} {l : List Int} {w wx wy : World} {g : Nat} {b2 b3 b4 b5 b6 b7 b8 : Value} {nm ds : ByteArray} {a a' : Nat} {y y' : Int} (h : MSt pr v l w wx g b2 b3 b4 b5 b6 b7 b8 nm ds a y) (hg : g ≠ pr) (hr : IsR pr wy v l a' y') (ho : Only pr wx wy) (hp : pr < w.heap.size) : MSt pr v l w wy g b2 b3 b4 b5 b6 b7 b8 nm ds a' y' :=
  ⟨(ho.block _ (Array.getElem?_eq_some_iff.1 h.g).1 hg).trans h.g, (ho.block _ (Array.getElem?_eq_some_iff.1 h.b).1 (by omega)).trans h.b, (ho.block _ (Array.getElem?_eq_some_iff.1 h.z).1 (by omega)).trans h.z, hr, h.o.trans ho⟩
theorem MSt.c {pr : Nat} {v : Value} {l : List Int} {w wx : World} {g : Nat} {b2 b3 b4 b5 b6 b7 b8 : Value} {nm ds : ByteArray} {a : Nat} {y : Int} (h : MSt pr v l w wx g b2 b3 b4 b5 b6 b7 b8 nm ds a y) : wx.cell? ⟨w.heap.size, 0, none⟩ = some (.pointer (some ⟨pr, 0, none⟩)) := cell_row h.b 0 rfl
theorem MSt.set2 {pr : Nat} {v : Value} {l : List Int} {w wx : World} {g : Nat} {b2 b3 b4 b5 b6 b7 b8 : Value} {nm ds : ByteArray} {a a0 : Nat} {y y0 : Int} (h : MSt pr v l w wx g b2 b3 b4 b5 b6 b7 b8 nm ds a y) (h0 : w.heap.size ≠ g) (h1 : w.heap.size + 1 ≠ g) (hg : w.heap.size ≤ g) (hr : IsR pr w v l a0 y0) (u : Value) : MSt pr v l w (wx.setCell ⟨g, 2, none⟩ u) g u b3 b4 b5 b6 b7 b8 nm ds a y :=
  ⟨gset_row (j := 2) (u := u) h.g, (Below.heap_setCell _ _ _ _ h0).trans h.b, (Below.heap_setCell _ _ _ _ h1).trans h.z, hr.put h.o h.r hg, h.o.put hg⟩
theorem MSt.set3 {pr : Nat} {v : Value} {l : List Int} {w wx : World} {g : Nat} {b2 b3 b4 b5 b6 b7 b8 : Value} {nm ds : ByteArray} {a a0 : Nat} {y y0 : Int} (h : MSt pr v l w wx g b2 b3 b4 b5 b6 b7 b8 nm ds a y) (h0 : w.heap.size ≠ g) (h1 : w.heap.size + 1 ≠ g) (hg : w.heap.size ≤ g) (hr : IsR pr w v l a0 y0) (u : Value) : MSt pr v l w (wx.setCell ⟨g, 3, none⟩ u) g b2 u b4 b5 b6 b7 b8 nm ds a y :=
  ⟨gset_row (j := 3) (u := u) h.g, (Below.heap_setCell _ _ _ _ h0).trans h.b, (Below.heap_setCell _ _ _ _ h1).trans h.z, hr.put h.o h.r hg, h.o.put hg⟩
theorem MSt.set4 {pr : Nat} {v : Value} {l : List Int} {w wx : World} {g : Nat} {b2 b3 b4 b5 b6 b7 b8 : Value} {nm ds : ByteArray} {a a0 : Nat} {y y0 : Int} (h : MSt pr v l w wx g b2 b3 b4 b5 b6 b7 b8 nm ds a y) (h0 : w.heap.size ≠ g) (h1 : w.heap.size + 1 ≠ g) (hg : w.heap.size ≤ g) (hr : IsR pr w v l a0 y0) (u : Value) : MSt pr v l w (wx.setCell ⟨g, 4, none⟩ u) g b2 b3 u b5 b6 b7 b8 nm ds a y :=
  ⟨gset_row (j := 4) (u := u) h.g, (Below.heap_setCell _ _ _ _ h0).trans h.b, (Below.heap_setCell _ _ _ _ h1).trans h.z, hr.put h.o h.r hg, h.o.put hg⟩
theorem MSt.set5 {pr : Nat} {v : Value} {l : List Int} {w wx : World} {g : Nat} {b2 b3 b4 b5 b6 b7 b8 : Value} {nm ds : ByteArray} {a a0 : Nat} {y y0 : Int} (h : MSt pr v l w wx g b2 b3 b4 b5 b6 b7 b8 nm ds a y) (h0 : w.heap.size ≠ g) (h1 : w.heap.size + 1 ≠ g) (hg : w.heap.size ≤ g) (hr : IsR pr w v l a0 y0) (u : Value) : MSt pr v l w (wx.setCell ⟨g, 5, none⟩ u) g b2 b3 b4 u b6 b7 b8 nm ds a y :=
  ⟨gset_row (j := 5) (u := u) h.g, (Below.heap_setCell _ _ _ _ h0).trans h.b, (Below.heap_setCell _ _ _ _ h1).trans h.z, hr.put h.o h.r hg, h.o.put hg⟩
theorem MSt.set6 {pr : Nat} {v : Value} {l : List Int} {w wx : World} {g : Nat} {b2 b3 b4 b5 b6 b7 b8 : Value} {nm ds : ByteArray} {a a0 : Nat} {y y0 : Int} (h : MSt pr v l w wx g b2 b3 b4 b5 b6 b7 b8 nm ds a y) (h0 : w.heap.size ≠ g) (h1 : w.heap.size + 1 ≠ g) (hg : w.heap.size ≤ g) (hr : IsR pr w v l a0 y0) (u : Value) : MSt pr v l w (wx.setCell ⟨g, 6, none⟩ u) g b2 b3 b4 b5 u b7 b8 nm ds a y :=
  ⟨gset_row (j := 6) (u := u) h.g, (Below.heap_setCell _ _ _ _ h0).trans h.b, (Below.heap_setCell _ _ _ _ h1).trans h.z, hr.put h.o h.r hg, h.o.put hg⟩
theorem MSt.set7 {pr : Nat} {v : Value} {l : List Int} {w wx : World} {g : Nat} {b2 b3 b4 b5 b6 b7 b8 : Value} {nm ds : ByteArray} {a a0 : Nat} {y y0 : Int} (h : MSt pr v l w wx g b2 b3 b4 b5 b6 b7 b8 nm ds a y) (h0 : w.heap.size ≠ g) (h1 : w.heap.size + 1 ≠ g) (hg : w.heap.size ≤ g) (hr : IsR pr w v l a0 y0) (u : Value) : MSt pr v l w (wx.setCell ⟨g, 7, none⟩ u) g b2 b3 b4 b5 b6 u b8 nm ds a y :=
  ⟨gset_row (j := 7) (u := u) h.g, (Below.heap_setCell _ _ _ _ h0).trans h.b, (Below.heap_setCell _ _ _ _ h1).trans h.z, hr.put h.o h.r hg, h.o.put hg⟩
theorem MSt.set8 {pr : Nat} {v : Value} {l : List Int} {w wx : World} {g : Nat} {b2 b3 b4 b5 b6 b7 b8 : Value} {nm ds : ByteArray} {a a0 : Nat} {y y0 : Int} (h : MSt pr v l w wx g b2 b3 b4 b5 b6 b7 b8 nm ds a y) (h0 : w.heap.size ≠ g) (h1 : w.heap.size + 1 ≠ g) (hg : w.heap.size ≤ g) (hr : IsR pr w v l a0 y0) (u : Value) : MSt pr v l w (wx.setCell ⟨g, 8, none⟩ u) g b2 b3 b4 b5 b6 b7 u nm ds a y :=
  ⟨gset_row (j := 8) (u := u) h.g, (Below.heap_setCell _ _ _ _ h0).trans h.b, (Below.heap_setCell _ _ _ _ h1).trans h.z, hr.put h.o h.r hg, h.o.put hg⟩
/-- A method, read. -/
def rdM (l : List Int) (a : Nat) (y : Int) : MD × Nat × Int :=
  let t1 := rtext l a y
  let t2 := rtext l t1.2.1 t1.2.2
  let t3 := rdG 3 l t2.2.1 t2.2.2
  let t4 := tk l t3.2.1 t3.2.2 1
  let t5 := tk l t4.2.1 t4.2.2 1
  let t6 := tk l t5.2.1 t5.2.2 2
  let t7 := tk l t6.2.1 t6.2.2 (beVal t6.1)
  let t8 := rdLs l (rdH l) t7.2.1 t7.2.2
  let t9 := rdLs l (rdR l) t8.2.1 t8.2.2
  (⟨t1.1, t2.1, decide (t3.1 % 2 = 1), decide (t3.1 / 2 % 2 = 1), beVal t4.1, beVal t5.1, t7.1, t8.1, t9.1⟩, t9.2.1, t9.2.2)
set_option maxRecDepth 8000 in
set_option maxHeartbeats 8000000 in
theorem one_rdM (pr : Nat) (v : Value) (l : List Int) (hlen : l.length ≤ 140737488355328) (a : Nat) (y : Int) (w : World) (h : IsR pr w v l a y) :
    Calls Tryz.prog 72 #[rv pr] w fun e w' => (∃ r, e = .returned (.agg r.toArray) ∧ MethQ w' r (rdM l a y).1) ∧ IsR pr w' v l (rdM l a y).2.1 (rdM l a y).2.2 ∧ Only pr w w' := by
  have hby : AllBytes l := by obtain ⟨_, _, _, _, _, h, _⟩ := h.view; exact h
  rcases h1 : rtext l a y with ⟨nm, a1, y1⟩
  rcases h2 : rtext l a1 y1 with ⟨ds, a2, y2⟩
  rcases h3 : rdG 3 l a2 y2 with ⟨fn, a3, y3⟩
  rcases h4 : tk l a3 y3 1 with ⟨t4, a4, y4⟩
  rcases h5 : tk l a4 y4 1 with ⟨t5, a5, y5⟩
  rcases h6 : tk l a5 y5 2 with ⟨t6, a6, y6⟩
  rcases h7 : tk l a6 y6 (beVal t6) with ⟨bs, a7, y7⟩
  rcases h8 : rdLs l (rdH l) a7 y7 with ⟨hs, a8, y8⟩
  rcases h9 : rdLs l (rdR l) a8 y8 with ⟨rs, a9, y9⟩
  have HD : rdM l a y = (⟨nm, ds, decide (fn % 2 = 1), decide (fn / 2 % 2 = 1), beVal t4, beVal t5, bs, hs, rs⟩, a9, y9) := by simp only [rdM, h1, h2, h3, h4, h5, h6, h7, h8, h9]
  rw [HD]
  have g1 := fun W (h : IsR pr W v l a y) => D.hidIt (rtext_any pr v l a y W h)
  have g2 := fun W (h : IsR pr W v l a1 y1) => D.hidIt (rtext_any pr v l a1 y1 W h)
  have g3 := fun W (h : IsR pr W v l a2 y2) => D.hidIt (rdG_any pr v l a2 y2 3 W h)
  have g4 := fun W (h : IsR pr W v l a3 y3) => D.hidIt (rd_byte pr v l a3 y3 W h)
  have g5 := fun W (h : IsR pr W v l a4 y4) => D.hidIt (rd_byte pr v l a4 y4 W h)
  have g6 := fun W (h : IsR pr W v l a5 y5) => D.hidIt (rd_pair pr v l a5 y5 W h)
  have g7 := fun W (h : IsR pr W v l a6 y6) => D.hidIt (rbytes_any pr v l a6 y6 (beVal t6) W h hlen)
  have g8 := fun W (h : IsR pr W v l a7 y7) => D.hidIt (rd_listH pr v l (rdH l) (fun W a y h => one_rdH pr v l a y W h) a7 y7 W h)
  have g9 := fun W (h : IsR pr W v l a8 y8) => D.hidIt (rd_listR pr v l (rdR l) (fun W a y h => one_rdR pr v l a y W h) a8 y8 W h)
  have hs1 := rtext_small l a y hby
  have hs2 := rtext_small l a1 y1 hby
  obtain ⟨hn0, hn1⟩ := rdG_range 3 l a2 y2 hby
  have hbb := tk_bytes l a6 y6 (beVal t6) hby
  rw [h1] at g1 hs1
  rw [h2] at g2 hs2
  rw [h3] at g3 hn0 hn1
  rw [h4] at g4
  rw [h5] at g5
  rw [h6] at g6
  rw [h7] at g7 hbb
  rw [h8] at g8
  rw [h9] at g9
  clear h1 h2 h3 h4 h5 h6 h7 h8 h9 HD hby hlen
  simp only at g1 g2 g3 g4 g5 g6 g7 g8 g9 hs1 hs2 hn0 hn1 hbb ⊢
  generalize beVal t4 = n4 at *
  generalize beVal t5 = n5 at *
  generalize beVal t6 = n6 at *
  have HS1 : Hid (nm.size ≤ 9223372036854775807) := by show _ ≤ _; omega
  have HS2 : Hid (ds.size ≤ 9223372036854775807) := by show _ ≤ _; omega
  have HBB := D.hidIt hbb
  obtain ⟨x1, hx1⟩ : ∃ x : Int, bits .and .i64 fn 1 = x := ⟨_, rfl⟩
  obtain ⟨x2, hx2⟩ : ∃ x : Int, bits .and .i64 fn 2 = x := ⟨_, rfl⟩
  have HX : Hid (decide (fn % 2 = 1) = (x1 != 0) ∧ decide (fn / 2 % 2 = 1) = (x2 != 0)) := by
    have e1 := and_one fn hn0 hn1
    have e2 := and_two fn hn0 hn1
    rw [hx1] at e1
    rw [hx2] at e2
    constructor
    · rw [show (x1 != 0) = decide (¬ x1 = 0) by by_cases h : x1 = 0 <;> simp [h]]; exact decide_eq_decide.2 (by omega)
    · rw [show (x2 != 0) = decide (¬ x2 = 0) by by_cases h : x2 = 0 <;> simp [h]]; exact decide_eq_decide.2 (by omega)
  clear hs1 hs2 hbb hn0 hn1
  have hlt := h.lt
  have HL : Hid (l.length ≤ l.length) := Nat.le_refl _
  have O0 := D.hidIt ((only_alloc pr w (.cells #[.pointer (some ⟨pr, 0, none⟩)] 79)).trans (only_alloc pr _ (.cells #[.string ⟨#[]⟩, .string ⟨#[]⟩, .bool false, .bool false, .int .i64 0, .int .i64 0, .slice none 0 0, .slice none 0 0, .slice none 0 0] 26)))
  have R0 := D.hidIt ((h.below (balloc w (.cells #[.pointer (some ⟨pr, 0, none⟩)] 79))).below (balloc _ (.cells #[.string ⟨#[]⟩, .string ⟨#[]⟩, .bool false, .bool false, .int .i64 0, .int .i64 0, .slice none 0 0, .slice none 0 0, .slice none 0 0] 26)))
  have bx1 : Hid (((w.alloc (.cells #[.pointer (some ⟨pr, 0, none⟩)] 79)).alloc (.cells #[.string ⟨#[]⟩, .string ⟨#[]⟩, .bool false, .bool false, .int .i64 0, .int .i64 0, .slice none 0 0, .slice none 0 0, .slice none 0 0] 26)).heap[w.heap.size]? = some (.cells #[.pointer (some ⟨pr, 0, none⟩)] 79)) := by
    show _ = _
    rw [Below.heap_alloc _ _ _ (by simp)]; exact heap_alloc_new _ _
  have bx2 : Hid (((w.alloc (.cells #[.pointer (some ⟨pr, 0, none⟩)] 79)).alloc (.cells #[.string ⟨#[]⟩, .string ⟨#[]⟩, .bool false, .bool false, .int .i64 0, .int .i64 0, .slice none 0 0, .slice none 0 0, .slice none 0 0] 26)).heap[w.heap.size + 1]? = some (.cells #[.string ⟨#[]⟩, .string ⟨#[]⟩, .bool false, .bool false, .int .i64 0, .int .i64 0, .slice none 0 0, .slice none 0 0, .slice none 0 0] 26)) := by
    show _ = _
    have := heap_alloc_new (w.alloc (.cells #[.pointer (some ⟨pr, 0, none⟩)] 79)) (.cells #[.string ⟨#[]⟩, .string ⟨#[]⟩, .bool false, .bool false, .int .i64 0, .int .i64 0, .slice none 0 0, .slice none 0 0, .slice none 0 0] 26)
    simpa using this
  have H00 := D.hidIt h
  clear h
  unfold rv at *
  go_enter Tryz.func72, Tryz.ntmps72
  go_upto_region 1 with fail
  generalize (w.alloc (.cells #[.pointer (some ⟨pr, 0, none⟩)] 79)).alloc (.cells #[.string ⟨#[]⟩, .string ⟨#[]⟩, .bool false, .bool false, .int .i64 0, .int .i64 0, .slice none 0 0, .slice none 0 0, .slice none 0 0] 26) = X at *
  have QS : Hid (∀ W, Only pr X.drew W → W.cell? ⟨w.heap.size, 0, none⟩ = some (.pointer (some ⟨pr, 0, none⟩))) := fun W ho => cell_row ((((Only.drewN pr X 1).trans ho).block w.heap.size (Array.getElem?_eq_some_iff.1 bx1.out).1 (by omega)).trans bx1.out) 0 rfl
  have QH : Hid (∀ W, Only pr X.drew W → W.heap[w.heap.size + 1]? = some (.cells #[.string ⟨#[]⟩, .string ⟨#[]⟩, .bool false, .bool false, .int .i64 0, .int .i64 0, .slice none 0 0, .slice none 0 0, .slice none 0 0] 26)) := fun W ho => (((Only.drewN pr X 1).trans ho).block (w.heap.size + 1) (Array.getElem?_eq_some_iff.1 bx2.out).1 (by omega)).trans bx2.out
  have R2 : IsR pr X.drew v l a y := R0.out.below (below_drewN (Below.refl _ _) 1)
  have HNE : Hid (w.heap.size ≠ w.heap.size + 1) := by show _ ≠ _; omega
  have N2 : Only pr X.drew X.drew := Only.refl _ _
  have BX1 := bx1
  have BX2 := bx2
  have RX := R0
  have hX : w.heap.size + 2 ≤ X.heap.size := by have := (Array.getElem?_eq_some_iff.1 bx2.out).1; omega
  clear bx1 bx2 R0
  go_cut [3] from 5 to 11 (fun p wx => ∃ g : Nat, p = .pointer (some ⟨g, 0, none⟩) ∧ X.heap.size ≤ g ∧ wx.heap[g]? = some (.cells #[.string nm, .string ds, .bool false, .bool false, .int .i64 0, .int .i64 0, .slice none 0 0, .slice none 0 0, .slice none 0 0] 26) ∧ IsR pr wx v l a2 y2 ∧ Only pr X wx)
  case first =>
    clear g3 g4 g5 g6 g7 g8 g9
    refine wp_region_noPanic ?_
    refine wp_region_held_drew (S := (fun W' => W'.cell? ⟨w.heap.size, 0, none⟩ = some (.pointer (some ⟨pr, 0, none⟩)))) (by kernel_rfl) ?_ (fun hHeld => ?_)
    · (try dsimp only); (first | (with_reducible exact QS.out _ N2) | (with_reducible exact KK.out) | (with_reducible exact off9 _ _ _ _ _ _ _ _ _ HNG.out KK.out))
    refine wpAnyH_take (i := 0) (oi := { dst := some 5, op := Go.Op.fieldAddr 79 (Go.Operand.tmp 1) 0, type := 0, pos := "bytes.go:133", after := #[], guard := none }) (v := ?vb1) rfl (by kernel_rfl) (by kernel_rfl) (by kernel_rfl) (fun _ _ _ h => h) (Or.inl ⟨by rfl, ?hyb1⟩) (by assumption) ?restb1
    case hyb1 => intro w hSw; (try dsimp only at hSw); go_simp; try with_reducible rfl
    try simp only [Act.put, List.setIfInBounds_toArray, List.set_cons_zero, List.set_cons_succ]
    refine wpAnyH_take (i := 1) (oi := { dst := some 6, op := Go.Op.load 76 (Go.Operand.tmp 5), type := 76, pos := "bytes.go:133", after := #[{ on := 0, ground := Go.Ground.data }], guard := none }) (v := ?vb2) rfl (by kernel_rfl) (by kernel_rfl) (by kernel_rfl) (fun _ _ _ h => h) (Or.inl ⟨by rfl, ?hyb2⟩) (by assumption) ?restb2
    case hyb2 => intro w hSw; (try dsimp only at hSw); go_simp; try with_reducible rfl
    try simp only [Act.put, List.setIfInBounds_toArray, List.set_cons_zero, List.set_cons_succ]
    refine wpAnyH_take (i := 3) (oi := { dst := some 8, op := Go.Op.fieldAddr 79 (Go.Operand.tmp 1) 0, type := 0, pos := "bytes.go:133", after := #[], guard := none }) (v := ?vb3) rfl (by kernel_rfl) (by kernel_rfl) (by kernel_rfl) (fun _ _ _ h => h) (Or.inl ⟨by rfl, ?hyb3⟩) (by assumption) ?restb3
    case hyb3 => intro w hSw; (try dsimp only at hSw); go_simp; try with_reducible rfl
    try simp only [Act.put, List.setIfInBounds_toArray, List.set_cons_zero, List.set_cons_succ]
    refine wpAnyH_take (i := 4) (oi := { dst := some 9, op := Go.Op.load 76 (Go.Operand.tmp 8), type := 76, pos := "bytes.go:133", after := #[{ on := 3, ground := Go.Ground.data }], guard := none }) (v := ?vb4) rfl (by kernel_rfl) (by kernel_rfl) (by kernel_rfl) (fun _ _ _ h => h) (Or.inl ⟨by rfl, ?hyb4⟩) (by assumption) ?restb4
    case hyb4 => intro w hSw; (try dsimp only at hSw); go_simp; try with_reducible rfl
    try simp only [Act.put, List.setIfInBounds_toArray, List.set_cons_zero, List.set_cons_succ]
    refine wpAnyH_ready (rs := [2, 7]) (by kernel_rfl) (by simp) ?_
    refine AllReadyH.cons (o := { dst := some 7, op := Go.Op.call { callee := Go.Callee.value (Go.Operand.func 68), args := #[Go.Operand.tmp 6], argTypes := #[76] }, type := 9, pos := "bytes.go:133", after := #[{ on := 1, ground := Go.Ground.data }], guard := none }) rfl (fun K hK => ?_) (AllReadyH.cons (o := { dst := some 3, op := Go.Op.alloc 26, type := 0, pos := "bytes.go:133", after := #[], guard := none }) rfl (fun K hK => ?_) (AllReadyH.nil))
    · go_simp
      refine (g1 _ R2).out.mono ?_; rintro e w3 ⟨rfl, R3, on3⟩; have N3 := N2.trans on3
      try go_wp2_with fail
      refine hK.out _ _ ?hSb5 ?restb5
      case hSb5 => (try dsimp only); (first | (with_reducible exact QS.out _ N2) | (with_reducible exact QS.out _ N3) | (with_reducible exact KK.out) | (with_reducible exact off9 _ _ _ _ _ _ _ _ _ HNG.out KK.out))
      clear hK K hHeld
      intro hHeld
      try simp only [Act.put, List.setIfInBounds_toArray, List.set_cons_zero, List.set_cons_succ]
      refine wpAnyH_ready (rs := [5, 7]) (by kernel_rfl) (by simp) ?_
      refine AllReadyH.cons (o := { dst := some 10, op := Go.Op.call { callee := Go.Callee.value (Go.Operand.func 68), args := #[Go.Operand.tmp 9], argTypes := #[76] }, type := 9, pos := "bytes.go:133", after := #[{ on := 4, ground := Go.Ground.data }, { on := 2, ground := Go.Ground.chain }], guard := none }) rfl (fun K hK => ?_) (AllReadyH.cons (o := { dst := some 3, op := Go.Op.alloc 26, type := 0, pos := "bytes.go:133", after := #[], guard := none }) rfl (fun K hK => ?_) (AllReadyH.nil))
      · go_simp
        refine (g2 _ R3).out.mono ?_; rintro e w4 ⟨rfl, R4, on4⟩; have N4 := N3.trans on4
        try go_wp2_with fail
        refine hK.out _ _ ?hSb6 ?restb6
        case hSb6 => (try dsimp only); (first | (with_reducible exact QS.out _ N2) | (with_reducible exact QS.out _ N3) | (with_reducible exact QS.out _ N4) | (with_reducible exact KK.out) | (with_reducible exact off9 _ _ _ _ _ _ _ _ _ HNG.out KK.out))
        clear hK K hHeld
        intro hHeld
        try simp only [Act.put, List.setIfInBounds_toArray, List.set_cons_zero, List.set_cons_succ]
        refine wpAnyH_take (i := 6) (oi := { dst := some 11, op := Go.Op.build 26 #[(0, Go.Operand.tmp 7), (1, Go.Operand.tmp 10)], type := 26, pos := "bytes.go:133", after := #[{ on := 2, ground := Go.Ground.data }, { on := 5, ground := Go.Ground.data }], guard := none }) (v := ?vb7) rfl (by kernel_rfl) (by kernel_rfl) (by kernel_rfl) (fun _ _ _ h => h) (Or.inl ⟨by rfl, ?hyb7⟩) (by assumption) ?restb7
        case hyb7 => intro w hSw; (try dsimp only at hSw); go_simp; try with_reducible rfl
        try simp only [Act.put, List.setIfInBounds_toArray, List.set_cons_zero, List.set_cons_succ]
        refine wpAnyH_ready (rs := [7]) (by kernel_rfl) (by simp) ?_
        refine AllReadyH.cons (o := { dst := some 3, op := Go.Op.alloc 26, type := 0, pos := "bytes.go:133", after := #[], guard := none }) rfl (fun K hK => ?_) (AllReadyH.nil)
        go_simp
        have NA : Only pr X.drew (w4.alloc (.cells #[.string ⟨#[]⟩, .string ⟨#[]⟩, .bool false, .bool false, .int .i64 0, .int .i64 0, .slice none 0 0, .slice none 0 0, .slice none 0 0] 26)) := N4.trans (only_alloc pr w4 (.cells #[.string ⟨#[]⟩, .string ⟨#[]⟩, .bool false, .bool false, .int .i64 0, .int .i64 0, .slice none 0 0, .slice none 0 0, .slice none 0 0] 26)); have RA : IsR pr (w4.alloc (.cells #[.string ⟨#[]⟩, .string ⟨#[]⟩, .bool false, .bool false, .int .i64 0, .int .i64 0, .slice none 0 0, .slice none 0 0, .slice none 0 0] 26)) v l _ _ := R4.below (balloc w4 (.cells #[.string ⟨#[]⟩, .string ⟨#[]⟩, .bool false, .bool false, .int .i64 0, .int .i64 0, .slice none 0 0, .slice none 0 0, .slice none 0 0] 26)); have GA : Hid ((w4.alloc (.cells #[.string ⟨#[]⟩, .string ⟨#[]⟩, .bool false, .bool false, .int .i64 0, .int .i64 0, .slice none 0 0, .slice none 0 0, .slice none 0 0] 26)).heap[w4.heap.size]? = some (.cells #[.string ⟨#[]⟩, .string ⟨#[]⟩, .bool false, .bool false, .int .i64 0, .int .i64 0, .slice none 0 0, .slice none 0 0, .slice none 0 0] 26)) := heap_alloc_new w4 (.cells #[.string ⟨#[]⟩, .string ⟨#[]⟩, .bool false, .bool false, .int .i64 0, .int .i64 0, .slice none 0 0, .slice none 0 0, .slice none 0 0] 26); have hge : X.heap.size ≤ w4.heap.size := N4.size
        try go_wp2_with fail
        refine hK.out _ _ ?hSb8 ?restb8
        case hSb8 => (try dsimp only); (first | (with_reducible exact QS.out _ N2) | (with_reducible exact QS.out _ N3) | (with_reducible exact QS.out _ N4) | (with_reducible exact QS.out _ NA) | (with_reducible exact KK.out) | (with_reducible exact off9 _ _ _ _ _ _ _ _ _ HNG.out KK.out))
        clear hK K hHeld
        intro hHeld
        try simp only [Act.put, List.setIfInBounds_toArray, List.set_cons_zero, List.set_cons_succ]
        refine wpAnyH_ready (rs := [8]) (by kernel_rfl) (by simp) ?_
        refine AllReadyH.cons (o := { dst := none, op := Go.Op.store 26 (Go.Operand.tmp 3) (Go.Operand.tmp 11), type := 0, pos := "bytes.go:133", after := #[{ on := 7, ground := Go.Ground.data }, { on := 6, ground := Go.Ground.data }, { on := 5, ground := Go.Ground.chain }, { on := 0, ground := Go.Ground.phase }, { on := 1, ground := Go.Ground.phase }, { on := 2, ground := Go.Ground.phase }, { on := 3, ground := Go.Ground.phase }, { on := 4, ground := Go.Ground.phase }, { on := 5, ground := Go.Ground.phase }, { on := 6, ground := Go.Ground.phase }, { on := 7, ground := Go.Ground.phase }], guard := none }) rfl (fun K hK => ?_) (AllReadyH.nil)
        go_simp
        have KK := D.hidIt (QS.out _ (N4.trans (only_alloc pr w4 (.cells #[.string nm, .string ds, .bool false, .bool false, .int .i64 0, .int .i64 0, .slice none 0 0, .slice none 0 0, .slice none 0 0] 26))))
        try go_wp2_with fail
        refine hK.out _ _ ?hSb9 ?restb9
        case hSb9 => (try dsimp only); (first | (with_reducible exact QS.out _ N2) | (with_reducible exact QS.out _ N3) | (with_reducible exact QS.out _ N4) | (with_reducible exact QS.out _ NA) | (with_reducible exact KK.out) | (with_reducible exact off9 _ _ _ _ _ _ _ _ _ HNG.out KK.out))
        clear hK K hHeld
        intro hHeld
        try simp only [Act.put, List.setIfInBounds_toArray, List.set_cons_zero, List.set_cons_succ]
        refine wpAnyH_done (by kernel_rfl) ?_ _
        refine NoPanic.normal ?_
        go_wp2
        go_meet
        exact ⟨w4.heap.size, rfl, hge, heap_alloc_new w4 (.cells #[.string nm, .string ds, .bool false, .bool false, .int .i64 0, .int .i64 0, .slice none 0 0, .slice none 0 0, .slice none 0 0] 26), R4.below (balloc w4 (.cells #[.string nm, .string ds, .bool false, .bool false, .int .i64 0, .int .i64 0, .slice none 0 0, .slice none 0 0, .slice none 0 0] 26)), (Only.drewN pr X 1).trans (N4.trans (only_alloc pr w4 (.cells #[.string nm, .string ds, .bool false, .bool false, .int .i64 0, .int .i64 0, .slice none 0 0, .slice none 0 0, .slice none 0 0] 26)))⟩
      · go_simp
        have NA : Only pr X.drew (w3.alloc (.cells #[.string ⟨#[]⟩, .string ⟨#[]⟩, .bool false, .bool false, .int .i64 0, .int .i64 0, .slice none 0 0, .slice none 0 0, .slice none 0 0] 26)) := N3.trans (only_alloc pr w3 (.cells #[.string ⟨#[]⟩, .string ⟨#[]⟩, .bool false, .bool false, .int .i64 0, .int .i64 0, .slice none 0 0, .slice none 0 0, .slice none 0 0] 26)); have RA : IsR pr (w3.alloc (.cells #[.string ⟨#[]⟩, .string ⟨#[]⟩, .bool false, .bool false, .int .i64 0, .int .i64 0, .slice none 0 0, .slice none 0 0, .slice none 0 0] 26)) v l _ _ := R3.below (balloc w3 (.cells #[.string ⟨#[]⟩, .string ⟨#[]⟩, .bool false, .bool false, .int .i64 0, .int .i64 0, .slice none 0 0, .slice none 0 0, .slice none 0 0] 26)); have GA : Hid ((w3.alloc (.cells #[.string ⟨#[]⟩, .string ⟨#[]⟩, .bool false, .bool false, .int .i64 0, .int .i64 0, .slice none 0 0, .slice none 0 0, .slice none 0 0] 26)).heap[w3.heap.size]? = some (.cells #[.string ⟨#[]⟩, .string ⟨#[]⟩, .bool false, .bool false, .int .i64 0, .int .i64 0, .slice none 0 0, .slice none 0 0, .slice none 0 0] 26)) := heap_alloc_new w3 (.cells #[.string ⟨#[]⟩, .string ⟨#[]⟩, .bool false, .bool false, .int .i64 0, .int .i64 0, .slice none 0 0, .slice none 0 0, .slice none 0 0] 26); have hge : X.heap.size ≤ w3.heap.size := N3.size
        try go_wp2_with fail
        refine hK.out _ _ ?hSb10 ?restb10
        case hSb10 => (try dsimp only); (first | (with_reducible exact QS.out _ N2) | (with_reducible exact QS.out _ N3) | (with_reducible exact QS.out _ NA) | (with_reducible exact KK.out) | (with_reducible exact off9 _ _ _ _ _ _ _ _ _ HNG.out KK.out))
        clear hK K hHeld
        intro hHeld
        try simp only [Act.put, List.setIfInBounds_toArray, List.set_cons_zero, List.set_cons_succ]
        refine wpAnyH_ready (rs := [5]) (by kernel_rfl) (by simp) ?_
        refine AllReadyH.cons (o := { dst := some 10, op := Go.Op.call { callee := Go.Callee.value (Go.Operand.func 68), args := #[Go.Operand.tmp 9], argTypes := #[76] }, type := 9, pos := "bytes.go:133", after := #[{ on := 4, ground := Go.Ground.data }, { on := 2, ground := Go.Ground.chain }], guard := none }) rfl (fun K hK => ?_) (AllReadyH.nil)
        go_simp
        refine (g2 _ RA).out.mono ?_; rintro e w4 ⟨rfl, R4, on4⟩; have N4 := NA.trans on4; have G4 : Hid (w4.heap[w3.heap.size]? = some (.cells #[.string ⟨#[]⟩, .string ⟨#[]⟩, .bool false, .bool false, .int .i64 0, .int .i64 0, .slice none 0 0, .slice none 0 0, .slice none 0 0] 26)) := (on4.block _ (by exact (Array.getElem?_eq_some_iff.1 GA.out).1) (by have := R3.lt; have hz : w3.heap.size = w3.heap.size := rfl; omega)).trans GA.out
        try go_wp2_with fail
        refine hK.out _ _ ?hSb11 ?restb11
        case hSb11 => (try dsimp only); (first | (with_reducible exact QS.out _ N2) | (with_reducible exact QS.out _ N3) | (with_reducible exact QS.out _ NA) | (with_reducible exact QS.out _ N4) | (with_reducible exact KK.out) | (with_reducible exact off9 _ _ _ _ _ _ _ _ _ HNG.out KK.out))
        clear hK K hHeld
        intro hHeld
        try simp only [Act.put, List.setIfInBounds_toArray, List.set_cons_zero, List.set_cons_succ]
        refine wpAnyH_take (i := 6) (oi := { dst := some 11, op := Go.Op.build 26 #[(0, Go.Operand.tmp 7), (1, Go.Operand.tmp 10)], type := 26, pos := "bytes.go:133", after := #[{ on := 2, ground := Go.Ground.data }, { on := 5, ground := Go.Ground.data }], guard := none }) (v := ?vb12) rfl (by kernel_rfl) (by kernel_rfl) (by kernel_rfl) (fun _ _ _ h => h) (Or.inl ⟨by rfl, ?hyb12⟩) (by assumption) ?restb12
        case hyb12 => intro w hSw; (try dsimp only at hSw); go_simp; try with_reducible rfl
        try simp only [Act.put, List.setIfInBounds_toArray, List.set_cons_zero, List.set_cons_succ]
        refine wpAnyH_ready (rs := [8]) (by kernel_rfl) (by simp) ?_
        refine AllReadyH.cons (o := { dst := none, op := Go.Op.store 26 (Go.Operand.tmp 3) (Go.Operand.tmp 11), type := 0, pos := "bytes.go:133", after := #[{ on := 7, ground := Go.Ground.data }, { on := 6, ground := Go.Ground.data }, { on := 5, ground := Go.Ground.chain }, { on := 0, ground := Go.Ground.phase }, { on := 1, ground := Go.Ground.phase }, { on := 2, ground := Go.Ground.phase }, { on := 3, ground := Go.Ground.phase }, { on := 4, ground := Go.Ground.phase }, { on := 5, ground := Go.Ground.phase }, { on := 6, ground := Go.Ground.phase }, { on := 7, ground := Go.Ground.phase }], guard := none }) rfl (fun K hK => ?_) (AllReadyH.nil)
        go_simp
        obtain ⟨f0, f1, f2, f3, f4, f5, f6, f7, f8, ff⟩ := row9 G4.out; have KK := D.hidIt (QS.out _ N4); have HNG : Hid (w.heap.size ≠ w3.heap.size) := by (show _ ≠ _; omega)
        try go_wp2_with fail
        refine hK.out _ _ ?hSb13 ?restb13
        case hSb13 => (try dsimp only); (first | (with_reducible exact QS.out _ N2) | (with_reducible exact QS.out _ N3) | (with_reducible exact QS.out _ NA) | (with_reducible exact QS.out _ N4) | (with_reducible exact KK.out) | (with_reducible exact off9 _ _ _ _ _ _ _ _ _ HNG.out KK.out))
        clear hK K hHeld
        intro hHeld
        try simp only [Act.put, List.setIfInBounds_toArray, List.set_cons_zero, List.set_cons_succ]
        refine wpAnyH_done (by kernel_rfl) ?_ _
        refine NoPanic.normal ?_
        have FIN := D.hidIt (put9R (g := w3.heap.size) (.string nm) (.string ds) (.bool false) (.bool false) (.int .i64 0) (.int .i64 0) (.slice none 0 0) (.slice none 0 0) (.slice none 0 0) RX.out ((Only.drewN pr X 1).trans N4) R4 hge)
        have H5 := D.hidIt (set9T (.string nm) (.string ds) (.bool false) (.bool false) (.int .i64 0) (.int .i64 0) (.slice none 0 0) (.slice none 0 0) (.slice none 0 0) G4.out)
        clear f0 f1 f2 f3 f4 f5 f6 f7 f8 ff
        go_wp2
        go_meet
        exact ⟨w3.heap.size, rfl, hge, H5.out, FIN.out.1, FIN.out.2⟩
        refine hK.out _ _ ?hSb13z ?restb13z
        case hSb13z => (try dsimp only); (first | (with_reducible exact QS.out _ N2) | (with_reducible exact QS.out _ N3) | (with_reducible exact QS.out _ NA) | (with_reducible exact QS.out _ N4) | (with_reducible exact KK.out) | (with_reducible exact off9 _ _ _ _ _ _ _ _ _ HNG.out KK.out))
        clear hK K hHeld
        intro hHeld
        try simp only [Act.put, List.setIfInBounds_toArray, List.set_cons_zero, List.set_cons_succ]
        refine wpAnyH_done (by kernel_rfl) ?_ _
        refine NoPanic.normal ?_
        have FIN := D.hidIt (put9R (g := w3.heap.size) (.string nm) (.string ds) (.bool false) (.bool false) (.int .i64 0) (.int .i64 0) (.slice none 0 0) (.slice none 0 0) (.slice none 0 0) RX.out ((Only.drewN pr X 1).trans N4) R4 hge)
        have H5 := D.hidIt (set9T (.string nm) (.string ds) (.bool false) (.bool false) (.int .i64 0) (.int .i64 0) (.slice none 0 0) (.slice none 0 0) (.slice none 0 0) G4.out)
        clear f0 f1 f2 f3 f4 f5 f6 f7 f8 ff
        go_wp2
        go_meet
        exact ⟨w3.heap.size, rfl, hge, H5.out, FIN.out.1, FIN.out.2⟩
    · go_simp
      have NA : Only pr X.drew (X.alloc (.cells #[.string ⟨#[]⟩, .string ⟨#[]⟩, .bool false, .bool false, .int .i64 0, .int .i64 0, .slice none 0 0, .slice none 0 0, .slice none 0 0] 26)).drew := N2.trans (only_alloc pr X.drew (.cells #[.string ⟨#[]⟩, .string ⟨#[]⟩, .bool false, .bool false, .int .i64 0, .int .i64 0, .slice none 0 0, .slice none 0 0, .slice none 0 0] 26)); have RA : IsR pr (X.alloc (.cells #[.string ⟨#[]⟩, .string ⟨#[]⟩, .bool false, .bool false, .int .i64 0, .int .i64 0, .slice none 0 0, .slice none 0 0, .slice none 0 0] 26)).drew v l _ _ := R2.below (balloc X.drew (.cells #[.string ⟨#[]⟩, .string ⟨#[]⟩, .bool false, .bool false, .int .i64 0, .int .i64 0, .slice none 0 0, .slice none 0 0, .slice none 0 0] 26)); have GA : Hid ((X.alloc (.cells #[.string ⟨#[]⟩, .string ⟨#[]⟩, .bool false, .bool false, .int .i64 0, .int .i64 0, .slice none 0 0, .slice none 0 0, .slice none 0 0] 26)).drew.heap[X.heap.size]? = some (.cells #[.string ⟨#[]⟩, .string ⟨#[]⟩, .bool false, .bool false, .int .i64 0, .int .i64 0, .slice none 0 0, .slice none 0 0, .slice none 0 0] 26)) := heap_alloc_new X.drew (.cells #[.string ⟨#[]⟩, .string ⟨#[]⟩, .bool false, .bool false, .int .i64 0, .int .i64 0, .slice none 0 0, .slice none 0 0, .slice none 0 0] 26); have hge : X.heap.size ≤ X.heap.size := N2.size
      try go_wp2_with fail
      refine hK.out _ _ ?hSb14 ?restb14
      case hSb14 => (try dsimp only); (first | (with_reducible exact QS.out _ N2) | (with_reducible exact QS.out _ NA) | (with_reducible exact KK.out) | (with_reducible exact off9 _ _ _ _ _ _ _ _ _ HNG.out KK.out))
      clear hK K hHeld
      intro hHeld
      try simp only [Act.put, List.setIfInBounds_toArray, List.set_cons_zero, List.set_cons_succ]
      refine wpAnyH_ready (rs := [2]) (by kernel_rfl) (by simp) ?_
      refine AllReadyH.cons (o := { dst := some 7, op := Go.Op.call { callee := Go.Callee.value (Go.Operand.func 68), args := #[Go.Operand.tmp 6], argTypes := #[76] }, type := 9, pos := "bytes.go:133", after := #[{ on := 1, ground := Go.Ground.data }], guard := none }) rfl (fun K hK => ?_) (AllReadyH.nil)
      go_simp
      refine (g1 _ RA).out.mono ?_; rintro e w3 ⟨rfl, R3, on3⟩; have N3 := NA.trans on3; have G3 : Hid (w3.heap[X.heap.size]? = some (.cells #[.string ⟨#[]⟩, .string ⟨#[]⟩, .bool false, .bool false, .int .i64 0, .int .i64 0, .slice none 0 0, .slice none 0 0, .slice none 0 0] 26)) := (on3.block _ (by exact (Array.getElem?_eq_some_iff.1 GA.out).1) (by have := R2.lt; have hz : X.drew.heap.size = X.heap.size := rfl; omega)).trans GA.out
      try go_wp2_with fail
      refine hK.out _ _ ?hSb15 ?restb15
      case hSb15 => (try dsimp only); (first | (with_reducible exact QS.out _ N2) | (with_reducible exact QS.out _ NA) | (with_reducible exact QS.out _ N3) | (with_reducible exact KK.out) | (with_reducible exact off9 _ _ _ _ _ _ _ _ _ HNG.out KK.out))
      clear hK K hHeld
      intro hHeld
      try simp only [Act.put, List.setIfInBounds_toArray, List.set_cons_zero, List.set_cons_succ]
      refine wpAnyH_ready (rs := [5]) (by kernel_rfl) (by simp) ?_
      refine AllReadyH.cons (o := { dst := some 10, op := Go.Op.call { callee := Go.Callee.value (Go.Operand.func 68), args := #[Go.Operand.tmp 9], argTypes := #[76] }, type := 9, pos := "bytes.go:133", after := #[{ on := 4, ground := Go.Ground.data }, { on := 2, ground := Go.Ground.chain }], guard := none }) rfl (fun K hK => ?_) (AllReadyH.nil)
      go_simp
      refine (g2 _ R3).out.mono ?_; rintro e w4 ⟨rfl, R4, on4⟩; have N4 := N3.trans on4; have G4 : Hid (w4.heap[X.heap.size]? = some (.cells #[.string ⟨#[]⟩, .string ⟨#[]⟩, .bool false, .bool false, .int .i64 0, .int .i64 0, .slice none 0 0, .slice none 0 0, .slice none 0 0] 26)) := (on4.block _ (by exact (Array.getElem?_eq_some_iff.1 G3.out).1) (by have := R2.lt; have hz : X.drew.heap.size = X.heap.size := rfl; omega)).trans G3.out
      try go_wp2_with fail
      refine hK.out _ _ ?hSb16 ?restb16
      case hSb16 => (try dsimp only); (first | (with_reducible exact QS.out _ N2) | (with_reducible exact QS.out _ NA) | (with_reducible exact QS.out _ N3) | (with_reducible exact QS.out _ N4) | (with_reducible exact KK.out) | (with_reducible exact off9 _ _ _ _ _ _ _ _ _ HNG.out KK.out))
      clear hK K hHeld
      intro hHeld
      try simp only [Act.put, List.setIfInBounds_toArray, List.set_cons_zero, List.set_cons_succ]
      refine wpAnyH_take (i := 6) (oi := { dst := some 11, op := Go.Op.build 26 #[(0, Go.Operand.tmp 7), (1, Go.Operand.tmp 10)], type := 26, pos := "bytes.go:133", after := #[{ on := 2, ground := Go.Ground.data }, { on := 5, ground := Go.Ground.data }], guard := none }) (v := ?vb17) rfl (by kernel_rfl) (by kernel_rfl) (by kernel_rfl) (fun _ _ _ h => h) (Or.inl ⟨by rfl, ?hyb17⟩) (by assumption) ?restb17
      case hyb17 => intro w hSw; (try dsimp only at hSw); go_simp; try with_reducible rfl
      try simp only [Act.put, List.setIfInBounds_toArray, List.set_cons_zero, List.set_cons_succ]
      refine wpAnyH_ready (rs := [8]) (by kernel_rfl) (by simp) ?_
      refine AllReadyH.cons (o := { dst := none, op := Go.Op.store 26 (Go.Operand.tmp 3) (Go.Operand.tmp 11), type := 0, pos := "bytes.go:133", after := #[{ on := 7, ground := Go.Ground.data }, { on := 6, ground := Go.Ground.data }, { on := 5, ground := Go.Ground.chain }, { on := 0, ground := Go.Ground.phase }, { on := 1, ground := Go.Ground.phase }, { on := 2, ground := Go.Ground.phase }, { on := 3, ground := Go.Ground.phase }, { on := 4, ground := Go.Ground.phase }, { on := 5, ground := Go.Ground.phase }, { on := 6, ground := Go.Ground.phase }, { on := 7, ground := Go.Ground.phase }], guard := none }) rfl (fun K hK => ?_) (AllReadyH.nil)
      go_simp
      obtain ⟨f0, f1, f2, f3, f4, f5, f6, f7, f8, ff⟩ := row9 G4.out; have KK := D.hidIt (QS.out _ N4); have HNG : Hid (w.heap.size ≠ X.heap.size) := by (show _ ≠ _; omega)
      try go_wp2_with fail
      refine hK.out _ _ ?hSb18 ?restb18
      case hSb18 => (try dsimp only); (first | (with_reducible exact QS.out _ N2) | (with_reducible exact QS.out _ NA) | (with_reducible exact QS.out _ N3) | (with_reducible exact QS.out _ N4) | (with_reducible exact KK.out) | (with_reducible exact off9 _ _ _ _ _ _ _ _ _ HNG.out KK.out))
      clear hK K hHeld
      intro hHeld
      try simp only [Act.put, List.setIfInBounds_toArray, List.set_cons_zero, List.set_cons_succ]
      refine wpAnyH_done (by kernel_rfl) ?_ _
      refine NoPanic.normal ?_
      have FIN := D.hidIt (put9R (g := X.heap.size) (.string nm) (.string ds) (.bool false) (.bool false) (.int .i64 0) (.int .i64 0) (.slice none 0 0) (.slice none 0 0) (.slice none 0 0) RX.out ((Only.drewN pr X 1).trans N4) R4 hge)
      have H5 := D.hidIt (set9T (.string nm) (.string ds) (.bool false) (.bool false) (.int .i64 0) (.int .i64 0) (.slice none 0 0) (.slice none 0 0) (.slice none 0 0) G4.out)
      clear f0 f1 f2 f3 f4 f5 f6 f7 f8 ff
      go_wp2
      go_meet
      exact ⟨X.heap.size, rfl, hge, H5.out, FIN.out.1, FIN.out.2⟩
      refine hK.out _ _ ?hSb18z ?restb18z
      case hSb18z => (try dsimp only); (first | (with_reducible exact QS.out _ N2) | (with_reducible exact QS.out _ NA) | (with_reducible exact QS.out _ N3) | (with_reducible exact QS.out _ N4) | (with_reducible exact KK.out) | (with_reducible exact off9 _ _ _ _ _ _ _ _ _ HNG.out KK.out))
      clear hK K hHeld
      intro hHeld
      try simp only [Act.put, List.setIfInBounds_toArray, List.set_cons_zero, List.set_cons_succ]
      refine wpAnyH_done (by kernel_rfl) ?_ _
      refine NoPanic.normal ?_
      have FIN := D.hidIt (put9R (g := X.heap.size) (.string nm) (.string ds) (.bool false) (.bool false) (.int .i64 0) (.int .i64 0) (.slice none 0 0) (.slice none 0 0) (.slice none 0 0) RX.out ((Only.drewN pr X 1).trans N4) R4 hge)
      have H5 := D.hidIt (set9T (.string nm) (.string ds) (.bool false) (.bool false) (.int .i64 0) (.int .i64 0) (.slice none 0 0) (.slice none 0 0) (.slice none 0 0) G4.out)
      clear f0 f1 f2 f3 f4 f5 f6 f7 f8 ff
      go_wp2
      go_meet
      exact ⟨X.heap.size, rfl, hge, H5.out, FIN.out.1, FIN.out.2⟩
  case rest =>
    obtain ⟨g, rfl, hg, G3, R3, O3⟩ := hcut
    clear g1 g2 QS QH R2 HNE N2 RX
    have hgp : g ≠ pr := by omega
    have gw0 : w.heap.size ≠ g := by omega
    have gw1 : w.heap.size + 1 ≠ g := by omega
    have bx1 := (O3.block _ (Array.getElem?_eq_some_iff.1 BX1.out).1 (by omega)).trans BX1.out
    have bx2 := (O3.block _ (Array.getElem?_eq_some_iff.1 BX2.out).1 (by omega)).trans BX2.out
    have c1 := cell_row bx1 0 rfl
    have S3 : Hid (MSt pr v l w wc g (.bool false) (.bool false) (.int .i64 0) (.int .i64 0) (.slice none 0 0) (.slice none 0 0) (.slice none 0 0) nm ds a2 y2) := ⟨G3, bx1, bx2, R3, O0.out.trans O3⟩
    clear O3 bx1 bx2 G3 R3 BX1 BX2
    go_wp2_with fail
    refine (g3 _ S3.out.r).out.mono ?_
    rintro e w4 ⟨rfl, R4, on4⟩
    have S4 := D.hidIt (S3.out.call hgp R4 on4 hlt)
    clear R4 on4 S3 g3 c1
    obtain ⟨e0, e1, e2, e3, e4, e5, e6, e7, e8, ef⟩ := row9 S4.out.g
    have ef2 := ef 2
    have S5 := D.hidIt (S4.out.set2 gw0 gw1 (by omega) H00.out (.bool (x1 != 0)))
    obtain ⟨p0, p1, p2, p3, p4, p5, p6, p7, p8, pf⟩ := row9 S5.out.g
    have pf3 := pf 3
    have S6 := D.hidIt (S5.out.set3 gw0 gw1 (by omega) H00.out (.bool (x2 != 0)))
    clear ef pf e0 e1 e4 e5 e6 e7 e8 p0 p1 p2 p4 p5 p6 p7 p8
    go_wp2_with fail
    generalize ((w4.setCell ⟨g, 2, none⟩ (.bool (x1 != 0))).setCell ⟨g, 3, none⟩ (.bool (x2 != 0))) = w6 at S6 ⊢
    have T6 : Hid (MSt pr v l w w6.drew g _ _ _ _ _ _ _ nm ds _ _) := S6.out.call hgp (S6.out.r.below (below_drewN (Below.refl _ _) 1)) (Only.drewN pr w6 1) hlt
    clear S4 S5 S6 e2 e3 ef2 p3 pf3 hx1 hx2
    refine wp_region_noPanic ?_
    refine wp_region_held_drew (S := (fun W' => W'.cell? ⟨w.heap.size, 0, none⟩ = some (.pointer (some ⟨pr, 0, none⟩)))) (by kernel_rfl) ?_ (fun hHeld => ?_)
    · (try dsimp only); (first | (with_reducible exact T6.out.c) | (with_reducible exact T7.out.c) | (with_reducible exact T8.out.c) | (with_reducible exact T9.out.c) | (with_reducible exact T10.out.c))
    refine wpAnyH_take (i := 0) (oi := { dst := some 22, op := Go.Op.load 79 (Go.Operand.tmp 1), type := 79, pos := "bytes.go:136", after := #[], guard := none }) (v := ?vc1) rfl (by kernel_rfl) (by kernel_rfl) (by kernel_rfl) (fun _ _ _ h => h) (Or.inl ⟨by rfl, ?hyc1⟩) (by assumption) ?restc1
    case hyc1 => intro w hSw; (try dsimp only at hSw); go_simp; try with_reducible rfl
    try simp only [Act.put, List.setIfInBounds_toArray, List.set_cons_zero, List.set_cons_succ]
    refine wpAnyH_take (i := 2) (oi := { dst := some 24, op := Go.Op.load 79 (Go.Operand.tmp 1), type := 79, pos := "bytes.go:136", after := #[], guard := none }) (v := ?vc2) rfl (by kernel_rfl) (by kernel_rfl) (by kernel_rfl) (fun _ _ _ h => h) (Or.inl ⟨by rfl, ?hyc2⟩) (by assumption) ?restc2
    case hyc2 => intro w hSw; (try dsimp only at hSw); go_simp; try with_reducible rfl
    try simp only [Act.put, List.setIfInBounds_toArray, List.set_cons_zero, List.set_cons_succ]
    refine wpAnyH_ready (rs := [1]) (by kernel_rfl) (by simp) ?_
    refine AllReadyH.cons (o := { dst := some 23, op := Go.Op.call { callee := Go.Callee.value (Go.Operand.func 112), args := #[Go.Operand.tmp 22], argTypes := #[79] }, type := 3, pos := "bytes.go:136", after := #[{ on := 0, ground := Go.Ground.data }], guard := none }) rfl (fun K hK => ?_) AllReadyH.nil
    go_simp
    refine (g4 _ T6.out.r).out.mono ?_; rintro e w7 ⟨rfl, R7, on7⟩; have T7 := D.hidIt (T6.out.call hgp R7 on7 hlt)
    try go_wp2_with fail
    refine hK.out _ _ ?hSc3 ?restc3
    case hSc3 => (try dsimp only); (first | (with_reducible exact T6.out.c) | (with_reducible exact T7.out.c) | (with_reducible exact T8.out.c) | (with_reducible exact T9.out.c) | (with_reducible exact T10.out.c))
    clear hK K hHeld
    intro hHeld
    try simp only [Act.put, List.setIfInBounds_toArray, List.set_cons_zero, List.set_cons_succ]
    refine wpAnyH_take (i := 4) (oi := { dst := some 26, op := Go.Op.fieldAddr 26 (Go.Operand.tmp 3) 4, type := 0, pos := "bytes.go:136", after := #[{ on := 0, ground := Go.Ground.phase }, { on := 1, ground := Go.Ground.phase }, { on := 2, ground := Go.Ground.textOnly Go.Departure.lateStores }, { on := 3, ground := Go.Ground.textOnly Go.Departure.lateStoresUnsure }], guard := none }) (v := ?vc4) rfl (by kernel_rfl) (by kernel_rfl) (by kernel_rfl) (fun _ _ _ h => h) (Or.inl ⟨by rfl, ?hyc4⟩) (by assumption) ?restc4
    case hyc4 => intro w hSw; (try dsimp only at hSw); go_simp; try with_reducible rfl
    try simp only [Act.put, List.setIfInBounds_toArray, List.set_cons_zero, List.set_cons_succ]
    refine wpAnyH_ready (rs := [3]) (by kernel_rfl) (by simp) ?_
    refine AllReadyH.cons (o := { dst := some 25, op := Go.Op.call { callee := Go.Callee.value (Go.Operand.func 112), args := #[Go.Operand.tmp 24], argTypes := #[79] }, type := 3, pos := "bytes.go:136", after := #[{ on := 2, ground := Go.Ground.data }, { on := 1, ground := Go.Ground.chain }], guard := none }) rfl (fun K hK => ?_) AllReadyH.nil
    go_simp
    refine (g5 _ T7.out.r).out.mono ?_; rintro e w8 ⟨rfl, R8, on8⟩; have T8 := D.hidIt (T7.out.call hgp R8 on8 hlt); have T9 := D.hidIt (T8.out.set4 gw0 gw1 (by omega) H00.out (.int .i64 n4)); have T10 := D.hidIt (T9.out.set5 gw0 gw1 (by omega) H00.out (.int .i64 n5)); obtain ⟨-, -, -, -, e4, -, -, -, -, ef⟩ := row9 T8.out.g; have ef4 := ef 4; obtain ⟨-, -, -, -, -, e5, -, -, -, ef'⟩ := row9 T9.out.g; have ef5 := ef' 5; clear ef ef'
    try go_wp2_with fail
    refine hK.out _ _ ?hSc5 ?restc5
    case hSc5 => (try dsimp only); (first | (with_reducible exact T6.out.c) | (with_reducible exact T7.out.c) | (with_reducible exact T8.out.c) | (with_reducible exact T9.out.c) | (with_reducible exact T10.out.c))
    clear hK K hHeld
    intro hHeld
    try simp only [Act.put, List.setIfInBounds_toArray, List.set_cons_zero, List.set_cons_succ]
    refine wpAnyH_ready (rs := [5]) (by kernel_rfl) (by simp) ?_
    refine AllReadyH.cons (o := { dst := none, op := Go.Op.store 3 (Go.Operand.tmp 26) (Go.Operand.tmp 23), type := 0, pos := "bytes.go:136", after := #[{ on := 4, ground := Go.Ground.data }, { on := 1, ground := Go.Ground.data }, { on := 3, ground := Go.Ground.chain }, { on := 0, ground := Go.Ground.phase }, { on := 1, ground := Go.Ground.phase }, { on := 2, ground := Go.Ground.textOnly Go.Departure.lateStores }, { on := 3, ground := Go.Ground.textOnly Go.Departure.lateStoresUnsure }], guard := none }) rfl (fun K hK => ?_) AllReadyH.nil
    go_simp
    try go_wp2_with fail
    refine hK.out _ _ ?hSc6 ?restc6
    case hSc6 => (try dsimp only); (first | (with_reducible exact T6.out.c) | (with_reducible exact T7.out.c) | (with_reducible exact T8.out.c) | (with_reducible exact T9.out.c) | (with_reducible exact T10.out.c))
    clear hK K hHeld
    intro hHeld
    try simp only [Act.put, List.setIfInBounds_toArray, List.set_cons_zero, List.set_cons_succ]
    refine wpAnyH_take (i := 6) (oi := { dst := some 27, op := Go.Op.fieldAddr 26 (Go.Operand.tmp 3) 5, type := 0, pos := "bytes.go:136", after := #[{ on := 0, ground := Go.Ground.phase }, { on := 1, ground := Go.Ground.phase }, { on := 2, ground := Go.Ground.phase }, { on := 3, ground := Go.Ground.phase }, { on := 4, ground := Go.Ground.phase }, { on := 5, ground := Go.Ground.phase }], guard := none }) (v := ?vc7) rfl (by kernel_rfl) (by kernel_rfl) (by kernel_rfl) (fun _ _ _ h => h) (Or.inl ⟨by rfl, ?hyc7⟩) (by assumption) ?restc7
    case hyc7 => intro w hSw; (try dsimp only at hSw); go_simp; try with_reducible rfl
    try simp only [Act.put, List.setIfInBounds_toArray, List.set_cons_zero, List.set_cons_succ]
    refine wpAnyH_ready (rs := [7]) (by kernel_rfl) (by simp) ?_
    refine AllReadyH.cons (o := { dst := none, op := Go.Op.store 3 (Go.Operand.tmp 27) (Go.Operand.tmp 25), type := 0, pos := "bytes.go:136", after := #[{ on := 6, ground := Go.Ground.data }, { on := 3, ground := Go.Ground.data }, { on := 5, ground := Go.Ground.chain }, { on := 0, ground := Go.Ground.phase }, { on := 1, ground := Go.Ground.phase }, { on := 2, ground := Go.Ground.phase }, { on := 3, ground := Go.Ground.phase }, { on := 4, ground := Go.Ground.phase }, { on := 5, ground := Go.Ground.phase }], guard := none }) rfl (fun K hK => ?_) AllReadyH.nil
    go_simp
    try go_wp2_with fail
    refine hK.out _ _ ?hSc8 ?restc8
    case hSc8 => (try dsimp only); (first | (with_reducible exact T6.out.c) | (with_reducible exact T7.out.c) | (with_reducible exact T8.out.c) | (with_reducible exact T9.out.c) | (with_reducible exact T10.out.c))
    clear hK K hHeld
    intro hHeld
    try simp only [Act.put, List.setIfInBounds_toArray, List.set_cons_zero, List.set_cons_succ]
    refine wpAnyH_done (by kernel_rfl) ?_ _
    refine NoPanic.normal ?_
    clear T6 T7 T8 T9 R7 on7 R8 on8 e4 e5 ef4 ef5 hHeld g4 g5
    go_wp2_with fail
    generalize ((w8.setCell ⟨g, 4, none⟩ (.int .i64 n4)).setCell ⟨g, 5, none⟩ (.int .i64 n5)) = w10 at T10 ⊢
    have U6 : Hid (MSt pr v l w w10.drew g _ _ _ _ _ _ _ nm ds _ _) := T10.out.call hgp (T10.out.r.below (below_drewN (Below.refl _ _) 1)) (Only.drewN pr w10 1) hlt
    clear T10
    refine wp_region_noPanic ?_
    refine wp_region_held_drew (S := (fun W' => W'.cell? ⟨w.heap.size, 0, none⟩ = some (.pointer (some ⟨pr, 0, none⟩)))) (by kernel_rfl) ?_ (fun hHeld => ?_)
    · (try dsimp only); (first | (with_reducible exact U6.out.c) | (with_reducible exact U7.out.c) | (with_reducible exact U8.out.c) | (with_reducible exact U9.out.c))
    refine wpAnyH_take (i := 0) (oi := { dst := some 28, op := Go.Op.fieldAddr 79 (Go.Operand.tmp 1) 0, type := 0, pos := "bytes.go:137", after := #[], guard := none }) (v := ?vd1) rfl (by kernel_rfl) (by kernel_rfl) (by kernel_rfl) (fun _ _ _ h => h) (Or.inl ⟨by rfl, ?hyd1⟩) (by assumption) ?restd1
    case hyd1 => intro w hSw; (try dsimp only at hSw); go_simp; try with_reducible rfl
    try simp only [Act.put, List.setIfInBounds_toArray, List.set_cons_zero, List.set_cons_succ]
    refine wpAnyH_take (i := 1) (oi := { dst := some 29, op := Go.Op.load 76 (Go.Operand.tmp 28), type := 76, pos := "bytes.go:137", after := #[{ on := 0, ground := Go.Ground.data }], guard := none }) (v := ?vd2) rfl (by kernel_rfl) (by kernel_rfl) (by kernel_rfl) (fun _ _ _ h => h) (Or.inl ⟨by rfl, ?hyd2⟩) (by assumption) ?restd2
    case hyd2 => intro w hSw; (try dsimp only at hSw); go_simp; try with_reducible rfl
    try simp only [Act.put, List.setIfInBounds_toArray, List.set_cons_zero, List.set_cons_succ]
    refine wpAnyH_take (i := 2) (oi := { dst := some 30, op := Go.Op.load 79 (Go.Operand.tmp 1), type := 79, pos := "bytes.go:137", after := #[], guard := none }) (v := ?vd3) rfl (by kernel_rfl) (by kernel_rfl) (by kernel_rfl) (fun _ _ _ h => h) (Or.inl ⟨by rfl, ?hyd3⟩) (by assumption) ?restd3
    case hyd3 => intro w hSw; (try dsimp only at hSw); go_simp; try with_reducible rfl
    try simp only [Act.put, List.setIfInBounds_toArray, List.set_cons_zero, List.set_cons_succ]
    refine wpAnyH_ready (rs := [3]) (by kernel_rfl) (by simp) ?_
    refine AllReadyH.cons (o := { dst := some 31, op := Go.Op.call { callee := Go.Callee.value (Go.Operand.func 114), args := #[Go.Operand.tmp 30], argTypes := #[79] }, type := 3, pos := "bytes.go:137", after := #[{ on := 2, ground := Go.Ground.data }], guard := none }) rfl (fun K hK => ?_) AllReadyH.nil
    go_simp
    refine (g6 _ U6.out.r).out.mono ?_; rintro e w11 ⟨rfl, R7, on7⟩; have U7 := D.hidIt (U6.out.call hgp R7 on7 hlt)
    try go_wp2_with fail
    refine hK.out _ _ ?hSd4 ?restd4
    case hSd4 => (try dsimp only); (first | (with_reducible exact U6.out.c) | (with_reducible exact U7.out.c) | (with_reducible exact U8.out.c) | (with_reducible exact U9.out.c))
    clear hK K hHeld
    intro hHeld
    try simp only [Act.put, List.setIfInBounds_toArray, List.set_cons_zero, List.set_cons_succ]
    refine wpAnyH_ready (rs := [4]) (by kernel_rfl) (by simp) ?_
    refine AllReadyH.cons (o := { dst := some 32, op := Go.Op.call { callee := Go.Callee.value (Go.Operand.func 65), args := #[Go.Operand.tmp 29, Go.Operand.tmp 31], argTypes := #[76, 3] }, type := 22, pos := "bytes.go:137", after := #[{ on := 1, ground := Go.Ground.data }, { on := 3, ground := Go.Ground.data }, { on := 3, ground := Go.Ground.chain }], guard := none }) rfl (fun K hK => ?_) AllReadyH.nil
    go_simp
    refine (g7 _ U7.out.r).out.mono ?_; rintro e w12 ⟨vc, rfl, oc, R8, on8⟩; have U8 := D.hidIt (U7.out.call hgp R8 on8 hlt); obtain ⟨aoc, cc, rfl⟩ := own_slice oc; have OC := D.hidIt oc; have U9 := D.hidIt (U8.out.set6 gw0 gw1 (by omega) H00.out (.slice aoc bs.length cc)); obtain ⟨-, -, -, -, -, -, e6, -, -, ef⟩ := row9 U8.out.g; have ef6 := ef 6; clear ef oc
    try go_wp2_with fail
    refine hK.out _ _ ?hSd5 ?restd5
    case hSd5 => (try dsimp only); (first | (with_reducible exact U6.out.c) | (with_reducible exact U7.out.c) | (with_reducible exact U8.out.c) | (with_reducible exact U9.out.c))
    clear hK K hHeld
    intro hHeld
    try simp only [Act.put, List.setIfInBounds_toArray, List.set_cons_zero, List.set_cons_succ]
    refine wpAnyH_take (i := 5) (oi := { dst := some 33, op := Go.Op.fieldAddr 26 (Go.Operand.tmp 3) 6, type := 0, pos := "bytes.go:137", after := #[{ on := 0, ground := Go.Ground.phase }, { on := 1, ground := Go.Ground.phase }, { on := 2, ground := Go.Ground.phase }, { on := 3, ground := Go.Ground.phase }, { on := 4, ground := Go.Ground.phase }], guard := none }) (v := ?vd6) rfl (by kernel_rfl) (by kernel_rfl) (by kernel_rfl) (fun _ _ _ h => h) (Or.inl ⟨by rfl, ?hyd6⟩) (by assumption) ?restd6
    case hyd6 => intro w hSw; (try dsimp only at hSw); go_simp; try with_reducible rfl
    try simp only [Act.put, List.setIfInBounds_toArray, List.set_cons_zero, List.set_cons_succ]
    refine wpAnyH_ready (rs := [6]) (by kernel_rfl) (by simp) ?_
    refine AllReadyH.cons (o := { dst := none, op := Go.Op.store 22 (Go.Operand.tmp 33) (Go.Operand.tmp 32), type := 0, pos := "bytes.go:137", after := #[{ on := 5, ground := Go.Ground.data }, { on := 4, ground := Go.Ground.data }, { on := 4, ground := Go.Ground.chain }, { on := 0, ground := Go.Ground.phase }, { on := 1, ground := Go.Ground.phase }, { on := 2, ground := Go.Ground.phase }, { on := 3, ground := Go.Ground.phase }, { on := 4, ground := Go.Ground.phase }], guard := none }) rfl (fun K hK => ?_) AllReadyH.nil
    go_simp
    try go_wp2_with fail
    refine hK.out _ _ ?hSd7 ?restd7
    case hSd7 => (try dsimp only); (first | (with_reducible exact U6.out.c) | (with_reducible exact U7.out.c) | (with_reducible exact U8.out.c) | (with_reducible exact U9.out.c))
    clear hK K hHeld
    intro hHeld
    try simp only [Act.put, List.setIfInBounds_toArray, List.set_cons_zero, List.set_cons_succ]
    refine wpAnyH_done (by kernel_rfl) ?_ _
    refine NoPanic.normal ?_
    have OC9 := D.hidIt (own_same OC.out (Same.of_set U8.out.g 6 (.slice aoc bs.length cc) (by decide)))
    clear U6 U7 U8 R7 on7 R8 on8 e6 ef6 hHeld g6 g7 OC
    generalize (w12.setCell ⟨g, 6, none⟩ (.slice aoc bs.length cc)) = w13 at U9 OC9 ⊢
    have c13 := U9.out.c
    go_wp2_with fail
    refine (g8 _ U9.out.r).out.mono ?_
    rintro e w14 ⟨vh, rfl, oh, R14, on14⟩
    obtain ⟨aoh, ch, rfl⟩ := oh.slice
    have V1 := D.hidIt (U9.out.call hgp R14 on14 hlt)
    have V2 := D.hidIt (V1.out.set7 gw0 gw1 (by omega) H00.out (.slice aoh hs.length ch))
    have OC10 := D.hidIt (own_same OC9.out ((Same.of_only U9.out.r on14 (by decide)).trans (Same.of_set V1.out.g 7 (.slice aoh hs.length ch) (by decide))))
    have OH := D.hidIt (oh.same (Same.of_set V1.out.g 7 (.slice aoh hs.length ch) (by decide)) (fun _ _ h => h.any))
    obtain ⟨-, -, -, -, -, -, -, e7, -, ef⟩ := row9 V1.out.g
    have ef7 := ef 7
    clear ef oh R14 on14 U9 OC9 g8 c13
    have c15 := V2.out.c
    go_wp2_with fail
    refine (g9 _ V2.out.r).out.mono ?_
    rintro e w16 ⟨vr, rfl, orr, R16, on16⟩
    obtain ⟨aor, cr, rfl⟩ := orr.slice
    have V3 := D.hidIt (V2.out.call hgp R16 on16 hlt)
    have V4 := D.hidIt (V3.out.set8 gw0 gw1 (by omega) H00.out (.slice aor rs.length cr))
    have OC11 := D.hidIt (own_same OC10.out ((Same.of_only V2.out.r on16 (by decide)).trans (Same.of_set V3.out.g 8 (.slice aor rs.length cr) (by decide))))
    have OH11 := D.hidIt (OH.out.same ((Same.of_only V2.out.r on16 (by decide)).trans (Same.of_set V3.out.g 8 (.slice aor rs.length cr) (by decide))) (fun _ _ h => h.any))
    have OR11 := D.hidIt (orr.same (Same.of_set V3.out.g 8 (.slice aor rs.length cr) (by decide)) (fun _ _ h => h.same (Same.of_set V3.out.g 8 (.slice aor rs.length cr) (by decide))))
    obtain ⟨-, -, -, -, -, -, -, -, e8, ef⟩ := row9 V3.out.g
    have ef8 := ef 8
    clear ef orr R16 on16 V1 V2 OC10 OH g9 c15 e7 ef7
    obtain ⟨k0, k1, k2, k3, k4, k5, k6, k7, k8, -⟩ := row9 V4.out.g
    obtain ⟨z0, z1, z2, z3, z4, z5, z6, z7, z8, zf⟩ := row9 V4.out.z
    have FIN := D.hidIt (put9R (g := w.heap.size + 1) (.string nm) (.string ds) (.bool (x1 != 0)) (.bool (x2 != 0)) (.int .i64 n4) (.int .i64 n5) (.slice aoc bs.length cc) (.slice aoh hs.length ch) (.slice aor rs.length cr) H00.out V4.out.o V4.out.r (by omega))
    have H5 := D.hidIt (set9T (.string nm) (.string ds) (.bool (x1 != 0)) (.bool (x2 != 0)) (.int .i64 n4) (.int .i64 n5) (.slice aoc bs.length cc) (.slice aoh hs.length ch) (.slice aor rs.length cr) V4.out.z)
    have SM : ∀ T : TypeId, T ≠ 26 → Hid (Same T _ _) := fun T hT => same9 (T := T) (.string nm) (.string ds) (.bool (x1 != 0)) (.bool (x2 != 0)) (.int .i64 n4) (.int .i64 n5) (.slice aoc bs.length cc) (.slice aoh hs.length ch) (.slice aor rs.length cr) V4.out.z hT
    have Q1 := D.hidIt (own_zero (own_same OC11.out (SM 5 (by decide)).out) (Nat.zero_le _))
    have Q2 := D.hidIt ((OH11.out.same (SM 71 (by decide)).out (fun _ _ h => h.any)).base (Nat.zero_le _))
    have Q3 := D.hidIt ((OR11.out.same (SM 74 (by decide)).out (fun _ _ h => h.same (SM 9 (by decide)).out)).base (Nat.zero_le _))
    clear SM OC11 OH11 OR11 V3 V4
    go_wp2
    refine bodyPost_ret (results_cell_row rfl _ _ (w.heap.size + 1) 26 _ (0, 0) _ rfl H5.out Tryz.underlying26 rfl (by kernel_rfl)) rfl ?_
    refine ⟨⟨[.string nm, .string ds, .bool (x1 != 0), .bool (x2 != 0), .int .i64 n4, .int .i64 n5, .slice aoc bs.length cc, .slice aoh hs.length ch, .slice aor rs.length cr], rfl, ?_⟩, FIN.out.1, FIN.out.2⟩
    rw [HX.out.1, HX.out.2]
    exact ⟨_, _, _, rfl, HS1.out, HS2.out, Q1.out, HBB.out, Q2.out, Q3.out⟩
end Go.Proofs.YthagaldpopnoeaaGreatDoor

/- A class, read: walked. -/
namespace Go.Proofs.YthagaldpopnoeaaGreatDoor
open Go.RowKit D

/-- A class as it was read. -/
def ClassQ (w : World) (v : Value) (k : KD) : Prop :=
  ∃ v1 v2 v3, v = .agg #[.string k.nm, .string k.sup, v1, v2, v3] ∧ k.nm.size ≤ 9223372036854775807 ∧ k.sup.size ≤ 9223372036854775807 ∧
    w.ownsRow 0 85 5 v1 k.pool.length (ccells k.pool) ∧ (∀ c ∈ k.pool, c.Ok) ∧ OL 0 63 3 FieldR w v2 k.fs ∧ OL 0 26 9 MethQ w v3 k.ms
theorem FieldR.any {w w' : World} {r : List Value} {x : FD} (h : FieldR w r x) : FieldR w' r x := h
def rdK (l : List Int) (a : Nat) (y : Int) : KD × Nat × Int :=
  let a1 := (tk l a y 6).2.1
  let y1 := hdY l a y
  let t2 := (rdP l a1 y1).2
  let t3 := rtext l t2.1 t2.2
  let t4 := rtext l t3.2.1 t3.2.2
  let t5 := rdLs l (rdF l) t4.2.1 t4.2.2
  let t6 := rdLs l (rdM l) t5.2.1 t5.2.2
  (⟨t3.1, t4.1, rdO l a1 y1, t5.1, t6.1⟩, t6.2.1, t6.2.2)
theorem rdL_oks (l : List Int) (hb : AllBytes l) : ∀ (k : Nat) (acc : List CD) (a : Nat) (y : Int), (∀ c ∈ acc, c.Ok) → ∀ c ∈ (rdL l k acc a y).1, c.Ok
  | 0, acc, a, y => fun h => h
  | k + 1, acc, a, y => fun h => by
    unfold rdL
    split
    · exact rdL_oks l hb k _ _ _ (fun c hc => by
        rcases List.mem_append.1 hc with h' | h'
        · exact h c h'
        · simp at h'; subst h'; exact rdC_ok l a y hb)
    · exact h
theorem rdO_oks (l : List Int) (hb : AllBytes l) (a : Nat) (y : Int) : ∀ c ∈ rdO l a y, c.Ok := by
  unfold rdO
  split
  · exact rdL_oks l hb _ _ _ _ (by simp)
  · simp
theorem class_stay {w w' : World} {B1 B2 B3 : Nat} {v1 v2 v3 : Value} {pool : List CD} {fs : List FD} {ms : List MD} (h1 : w.ownsRow B1 85 5 v1 pool.length (ccells pool)) (h2 : OL B2 63 3 FieldR w v2 fs) (h3 : OL B3 26 9 MethQ w v3 ms)
    (s : ∀ T, T ≠ 33 → Same T w w') : w'.ownsRow 0 85 5 v1 pool.length (ccells pool) ∧ OL 0 63 3 FieldR w' v2 fs ∧ OL 0 26 9 MethQ w' v3 ms :=
  ⟨own_zero (own_same h1 (s 85 (by decide))) (Nat.zero_le _), (h2.same (s 63 (by decide)) (fun _ _ h => h.any)).base (Nat.zero_le _), (h3.same (s 26 (by decide)) (fun _ _ h => h.same (s 5 (by decide)) (s 71 (by decide)) (s 74 (by decide)) (s 9 (by decide)))).base (Nat.zero_le _)⟩
theorem same5T {w : World} {g : Nat} {U T : TypeId} {b0 b1 b2 b3 b4 : Value} (v0 v1 v2 v3 v4 : Value) (h : w.heap[g]? = some (.cells #[b0, b1, b2, b3, b4] U (0, 0))) (hT : T ≠ U) : Same T w (((((w.setCell ⟨g, 0, none⟩ v0).setCell ⟨g, 1, none⟩ v1).setCell ⟨g, 2, none⟩ v2).setCell ⟨g, 3, none⟩ v3).setCell ⟨g, 4, none⟩ v4) := by
  have h1 := gset_row (j := 0) (u := v0) h
  have h2 := gset_row (j := 1) (u := v1) h1
  have h3 := gset_row (j := 2) (u := v2) h2
  have h4 := gset_row (j := 3) (u := v3) h3
  exact (Same.of_set h 0 v0 hT).trans ((Same.of_set h1 1 v1 hT).trans ((Same.of_set h2 2 v2 hT).trans ((Same.of_set h3 3 v3 hT).trans (Same.of_set h4 4 v4 hT))))
set_option maxRecDepth 8000 in
set_option maxHeartbeats 4000000 in
theorem class_any (pr : Nat) (v : Value) (l : List Int) (a : Nat) (y : Int) (w : World) (h : IsR pr w v l a y) (hlen : l.length ≤ 140737488355328) :
    Calls Tryz.prog 33 #[rv pr] w fun e w' => (∃ u, e = .returned u ∧ ClassQ w' u (rdK l a y).1) ∧ IsR pr w' v l (rdK l a y).2.1 (rdK l a y).2.2 ∧ Only pr w w' := by
  have hby : AllBytes l := by obtain ⟨_, _, _, _, _, h, _⟩ := h.view; exact h
  rcases e1 : (tk l a y 6).2.1 with a1
  have e1' : hdY l a y = hdY l a y := rfl
  generalize hY1 : hdY l a y = Y1 at e1'
  clear e1'
  have e1' := hY1
  rcases e2 : (rdP l a1 Y1).2 with ⟨a2, y2⟩
  rcases e3 : rtext l a2 y2 with ⟨nm, a3, y3⟩
  rcases e4 : rtext l a3 y3 with ⟨sup, a4, y4⟩
  rcases e5 : rdLs l (rdF l) a4 y4 with ⟨fs, a5, y5⟩
  rcases e6 : rdLs l (rdM l) a5 y5 with ⟨ms, a6, y6⟩
  have HD : rdK l a y = (⟨nm, sup, rdO l a1 Y1, fs, ms⟩, a6, y6) := by simp only [rdK, e1, hY1, e2, e3, e4, e5, e6]
  rw [HD]
  clear HD hY1
  have hs3 := rtext_small l a2 y2 hby
  have hs4 := rtext_small l a3 y3 hby
  rw [e3] at hs3
  rw [e4] at hs4
  have HS3 : Hid (nm.size ≤ 9223372036854775807) := by show _ ≤ _; simp only at hs3; omega
  have HS4 : Hid (sup.size ≤ 9223372036854775807) := by show _ ≤ _; simp only at hs4; omega
  have HPO := D.hidIt (rdO_oks l hby a1 Y1)
  clear hs3 hs4
  have gB := fun W (h : IsR pr W v l a y) => D.hidIt (rbytes_any pr v l a y 6 W h hlen)
  have gF := fun W (h : IsR pr W v l a1 (tk l a y 6).2.2) => D.hidIt (fail_any pr v l a1 _ 12 W h)
  have gP := fun W (h : IsR pr W v l a1 Y1) => D.hidIt (read_any pr v l a1 Y1 W h)
  have gN := fun W (h : IsR pr W v l a2 y2) => D.hidIt (rtext_any pr v l a2 y2 W h)
  have gS := fun W (h : IsR pr W v l a3 y3) => D.hidIt (rtext_any pr v l a3 y3 W h)
  have g5 := fun W (h : IsR pr W v l a4 y4) => D.hidIt (rd_listF pr v l (rdF l) (fun W a y h => one_rdF pr v l a y W h) a4 y4 W h)
  have g6 := fun W (h : IsR pr W v l a5 y5) => D.hidIt (rd_listM pr v l (rdM l) (fun W a y h => one_rdM pr v l hlen a y W h) a5 y5 W h)
  rw [e5] at g5
  rw [e6] at g6
  rw [e3] at gN
  rw [e4] at gS
  rw [e2] at gP
  rw [e1] at gB
  clear e5 e6
  simp only at g5 g6
  have HB := D.hidIt (tk_bytes l a y 6 hby)
  have E1 := D.hidIt e1'
  unfold hdY at E1
  clear e1 e1' e2 e3 e4 hby
  simp only at gN gS
  generalize (tk l a y 6).1 = bs at *
  generalize (tk l a y 6).2.2 = y1 at *
  have hp : pr ≠ w.heap.size ∧ pr ≠ w.heap.size + 1 := by have := h.lt; omega
  have hA := h.below (balloc w (.cells #[.pointer (some ⟨pr, 0, none⟩)] 79))
  have hZ := hA.below (balloc _ (.cells #[.string ⟨#[]⟩, .string ⟨#[]⟩, .slice none 0 0, .slice none 0 0, .slice none 0 0] 33))
  have HZ := D.hidIt hZ
  have O0 := D.hidIt ((only_alloc pr w (.cells #[.pointer (some ⟨pr, 0, none⟩)] 79)).trans (only_alloc pr _ (.cells #[.string ⟨#[]⟩, .string ⟨#[]⟩, .slice none 0 0, .slice none 0 0, .slice none 0 0] 33)))
  have bx1 : Hid (((w.alloc (.cells #[.pointer (some ⟨pr, 0, none⟩)] 79)).alloc (.cells #[.string ⟨#[]⟩, .string ⟨#[]⟩, .slice none 0 0, .slice none 0 0, .slice none 0 0] 33)).heap[w.heap.size]? = some (.cells #[.pointer (some ⟨pr, 0, none⟩)] 79)) := by
    show _ = _
    rw [Below.heap_alloc _ _ _ (by simp)]; exact heap_alloc_new _ _
  have bx2 : Hid (((w.alloc (.cells #[.pointer (some ⟨pr, 0, none⟩)] 79)).alloc (.cells #[.string ⟨#[]⟩, .string ⟨#[]⟩, .slice none 0 0, .slice none 0 0, .slice none 0 0] 33)).heap[w.heap.size + 1]? = some (.cells #[.string ⟨#[]⟩, .string ⟨#[]⟩, .slice none 0 0, .slice none 0 0, .slice none 0 0] 33)) := by
    show _ = _
    have := heap_alloc_new (w.alloc (.cells #[.pointer (some ⟨pr, 0, none⟩)] 79)) (.cells #[.string ⟨#[]⟩, .string ⟨#[]⟩, .slice none 0 0, .slice none 0 0, .slice none 0 0] 33)
    simpa using this
  have H00 := D.hidIt h
  clear hA hZ h
  unfold rv at *
  go_enter Tryz.func33, Tryz.ntmps33
  go_wp2_with fail
  refine (gB _ HZ.out).out.mono ?_
  rintro e w1 ⟨v1, rfl, o1, h1, on1⟩
  have V1 := View.of_own o1 HB.out
  have cs := run_string V1
  obtain ⟨ao1, cap1, rfl, -⟩ := id V1
  have H1 := D.hidIt h1
  have ON1 := D.hidIt on1
  clear o1 V1 h1 on1 gB HB
  have c1 := cell_row ((ON1.out.block w.heap.size (by simp; omega) (by omega)).trans bx1.out) 0 rfl
  generalize strOfNums bs = sb at *
  have KS : Hid (∀ W, Only pr ((w.alloc (.cells #[.pointer (some ⟨pr, 0, none⟩)] 79)).alloc (.cells #[.string ⟨#[]⟩, .string ⟨#[]⟩, .slice none 0 0, .slice none 0 0, .slice none 0 0] 33)) W → (W.cell? ⟨w.heap.size, 0, none⟩ = some (.pointer (some ⟨pr, 0, none⟩))) ∧ W.heap[w.heap.size + 1]? = some (.cells #[.string ⟨#[]⟩, .string ⟨#[]⟩, .slice none 0 0, .slice none 0 0, .slice none 0 0] 33)) := fun W ho =>
    ⟨cell_row ((ho.block w.heap.size (by simp; omega) (by omega)).trans bx1.out) 0 rfl, (ho.block (w.heap.size + 1) (by simp) (by omega)).trans bx2.out⟩
  clear bx1 bx2 HZ
  cases hh : sb.toList == [202, 254, 186, 190, 0, 1]
  case' true =>
    have hh' : sb.toList = [202, 254, 186, 190, 0, 1] := by simpa using hh
    have H2 : Hid (IsR pr w1 v l a1 Y1) := by
      have := E1.out
      rw [if_pos hh'] at this
      show IsR _ _ _ _ _ _
      rw [← this]; exact H1.out
    clear hh' H1 gF E1
    obtain ⟨w2, rfl⟩ : ∃ w2, w2 = w1 := ⟨_, rfl⟩
    have ON2 := ON1
    clear ON1
  case' false =>
    have hh' : ¬ sb.toList = [202, 254, 186, 190, 0, 1] := by simpa using hh
    have E2 : Hid (fl y1 12 = Y1) := by
      have := E1.out
      rw [if_neg hh'] at this
      exact this
    clear hh' E1
    go_wp2_with fail
    refine (gF _ H1.out).out.mono ?_
    rintro e w2 ⟨rfl, h2, on2⟩
    have H2 : Hid (IsR pr w2 v l a1 Y1) := by
      show IsR _ _ _ _ _ _
      rw [← E2.out]; exact h2
    have ON2 := D.hidIt (ON1.out.trans on2)
    clear h2 on2 H1 ON1 gF E2 c1
  · have d1 := (KS.out _ ON2.out).1
    have QS : Hid (∀ W, Only pr w2.drew W → W.cell? ⟨w.heap.size, 0, none⟩ = some (.pointer (some ⟨pr, 0, none⟩))) := fun W ho => (KS.out W (ON2.out.trans ((Only.drewN pr w2 1).trans ho))).1
    have QH : Hid (∀ W, Only pr w2.drew W → W.heap[w.heap.size + 1]? = some (.cells #[.string ⟨#[]⟩, .string ⟨#[]⟩, .slice none 0 0, .slice none 0 0, .slice none 0 0] 33)) := fun W ho => (KS.out W (ON2.out.trans ((Only.drewN pr w2 1).trans ho))).2
    have R2 : IsR pr w2.drew v l a1 Y1 := H2.out.below (below_drewN (Below.refl _ _) 1)
    have HNE : Hid (w.heap.size ≠ w.heap.size + 1) := by show _ ≠ _; omega
    have N2 : Only pr w2.drew w2.drew := Only.refl _ _
    go_wp2_with fail
    refine wp_region_noPanic ?_
    refine wp_region_held_drew (S := (fun W' => W'.cell? ⟨w.heap.size, 0, none⟩ = some (.pointer (some ⟨pr, 0, none⟩)))) (by kernel_rfl) ?_ (fun hHeld => ?_)
    · (try dsimp only); (first | (with_reducible exact QS.out _ N2) | (with_reducible exact QS.out _ N3) | (with_reducible exact QS.out _ N4) | (with_reducible exact QS.out _ N5) | (with_reducible exact QS.out _ N6) | (with_reducible exact QS.out _ N7) | (with_reducible exact off5 _ _ _ _ _ HNE.out K7.out))
    refine wpAnyH_take (i := 0) (oi := { dst := some 11, op := Go.Op.fieldAddr 79 (Go.Operand.tmp 1) 0, type := 0, pos := "bytes.go:117", after := #[], guard := none }) (v := ?va1) rfl (by kernel_rfl) (by kernel_rfl) (by kernel_rfl) (fun _ _ _ h => h) (Or.inl ⟨by rfl, ?hya1⟩) (by assumption) ?resta1
    case hya1 => intro w hSw; (try dsimp only at hSw); go_simp; try with_reducible rfl
    try simp only [Act.put, List.setIfInBounds_toArray, List.set_cons_zero, List.set_cons_succ]
    refine wpAnyH_take (i := 1) (oi := { dst := some 12, op := Go.Op.load 76 (Go.Operand.tmp 11), type := 76, pos := "bytes.go:117", after := #[{ on := 0, ground := Go.Ground.data }], guard := none }) (v := ?va2) rfl (by kernel_rfl) (by kernel_rfl) (by kernel_rfl) (fun _ _ _ h => h) (Or.inl ⟨by rfl, ?hya2⟩) (by assumption) ?resta2
    case hya2 => intro w hSw; (try dsimp only at hSw); go_simp; try with_reducible rfl
    try simp only [Act.put, List.setIfInBounds_toArray, List.set_cons_zero, List.set_cons_succ]
    refine wpAnyH_take (i := 3) (oi := { dst := some 14, op := Go.Op.fieldAddr 79 (Go.Operand.tmp 1) 0, type := 0, pos := "bytes.go:117", after := #[], guard := none }) (v := ?va3) rfl (by kernel_rfl) (by kernel_rfl) (by kernel_rfl) (fun _ _ _ h => h) (Or.inl ⟨by rfl, ?hya3⟩) (by assumption) ?resta3
    case hya3 => intro w hSw; (try dsimp only at hSw); go_simp; try with_reducible rfl
    try simp only [Act.put, List.setIfInBounds_toArray, List.set_cons_zero, List.set_cons_succ]
    refine wpAnyH_take (i := 4) (oi := { dst := some 15, op := Go.Op.load 76 (Go.Operand.tmp 14), type := 76, pos := "bytes.go:117", after := #[{ on := 3, ground := Go.Ground.data }], guard := none }) (v := ?va4) rfl (by kernel_rfl) (by kernel_rfl) (by kernel_rfl) (fun _ _ _ h => h) (Or.inl ⟨by rfl, ?hya4⟩) (by assumption) ?resta4
    case hya4 => intro w hSw; (try dsimp only at hSw); go_simp; try with_reducible rfl
    try simp only [Act.put, List.setIfInBounds_toArray, List.set_cons_zero, List.set_cons_succ]
    refine wpAnyH_take (i := 6) (oi := { dst := some 17, op := Go.Op.fieldAddr 79 (Go.Operand.tmp 1) 0, type := 0, pos := "bytes.go:117", after := #[], guard := none }) (v := ?va5) rfl (by kernel_rfl) (by kernel_rfl) (by kernel_rfl) (fun _ _ _ h => h) (Or.inl ⟨by rfl, ?hya5⟩) (by assumption) ?resta5
    case hya5 => intro w hSw; (try dsimp only at hSw); go_simp; try with_reducible rfl
    try simp only [Act.put, List.setIfInBounds_toArray, List.set_cons_zero, List.set_cons_succ]
    refine wpAnyH_take (i := 7) (oi := { dst := some 18, op := Go.Op.load 76 (Go.Operand.tmp 17), type := 76, pos := "bytes.go:117", after := #[{ on := 6, ground := Go.Ground.data }], guard := none }) (v := ?va6) rfl (by kernel_rfl) (by kernel_rfl) (by kernel_rfl) (fun _ _ _ h => h) (Or.inl ⟨by rfl, ?hya6⟩) (by assumption) ?resta6
    case hya6 => intro w hSw; (try dsimp only at hSw); go_simp; try with_reducible rfl
    try simp only [Act.put, List.setIfInBounds_toArray, List.set_cons_zero, List.set_cons_succ]
    refine wpAnyH_take (i := 9) (oi := { dst := some 20, op := Go.Op.load 79 (Go.Operand.tmp 1), type := 79, pos := "bytes.go:117", after := #[], guard := none }) (v := ?va7) rfl (by kernel_rfl) (by kernel_rfl) (by kernel_rfl) (fun _ _ _ h => h) (Or.inl ⟨by rfl, ?hya7⟩) (by assumption) ?resta7
    case hya7 => intro w hSw; (try dsimp only at hSw); go_simp; try with_reducible rfl
    try simp only [Act.put, List.setIfInBounds_toArray, List.set_cons_zero, List.set_cons_succ]
    refine wpAnyH_take (i := 10) (oi := { dst := some 21, op := Go.Op.load 79 (Go.Operand.tmp 1), type := 79, pos := "bytes.go:117", after := #[], guard := none }) (v := ?va8) rfl (by kernel_rfl) (by kernel_rfl) (by kernel_rfl) (fun _ _ _ h => h) (Or.inl ⟨by rfl, ?hya8⟩) (by assumption) ?resta8
    case hya8 => intro w hSw; (try dsimp only at hSw); go_simp; try with_reducible rfl
    try simp only [Act.put, List.setIfInBounds_toArray, List.set_cons_zero, List.set_cons_succ]
    refine wpAnyH_take (i := 11) (oi := { dst := some 22, op := Go.Op.makeFunc (Go.Fn.func 70) #[Go.Operand.tmp 21] #[], type := 127, pos := "bytes.go:117", after := #[{ on := 10, ground := Go.Ground.data }], guard := none }) (v := ?va9) rfl (by kernel_rfl) (by kernel_rfl) (by kernel_rfl) (fun _ _ _ h => h) (Or.inl ⟨by rfl, ?hya9⟩) (by assumption) ?resta9
    case hya9 => intro w hSw; (try dsimp only at hSw); go_simp; try with_reducible rfl
    try simp only [Act.put, List.setIfInBounds_toArray, List.set_cons_zero, List.set_cons_succ]
    refine wpAnyH_take (i := 13) (oi := { dst := some 24, op := Go.Op.load 79 (Go.Operand.tmp 1), type := 79, pos := "bytes.go:117", after := #[], guard := none }) (v := ?va10) rfl (by kernel_rfl) (by kernel_rfl) (by kernel_rfl) (fun _ _ _ h => h) (Or.inl ⟨by rfl, ?hya10⟩) (by assumption) ?resta10
    case hya10 => intro w hSw; (try dsimp only at hSw); go_simp; try with_reducible rfl
    try simp only [Act.put, List.setIfInBounds_toArray, List.set_cons_zero, List.set_cons_succ]
    refine wpAnyH_take (i := 14) (oi := { dst := some 25, op := Go.Op.load 79 (Go.Operand.tmp 1), type := 79, pos := "bytes.go:117", after := #[], guard := none }) (v := ?va11) rfl (by kernel_rfl) (by kernel_rfl) (by kernel_rfl) (fun _ _ _ h => h) (Or.inl ⟨by rfl, ?hya11⟩) (by assumption) ?resta11
    case hya11 => intro w hSw; (try dsimp only at hSw); go_simp; try with_reducible rfl
    try simp only [Act.put, List.setIfInBounds_toArray, List.set_cons_zero, List.set_cons_succ]
    refine wpAnyH_take (i := 15) (oi := { dst := some 26, op := Go.Op.makeFunc (Go.Fn.func 72) #[Go.Operand.tmp 25] #[], type := 129, pos := "bytes.go:117", after := #[{ on := 14, ground := Go.Ground.data }], guard := none }) (v := ?va12) rfl (by kernel_rfl) (by kernel_rfl) (by kernel_rfl) (fun _ _ _ h => h) (Or.inl ⟨by rfl, ?hya12⟩) (by assumption) ?resta12
    case hya12 => intro w hSw; (try dsimp only at hSw); go_simp; try with_reducible rfl
    try simp only [Act.put, List.setIfInBounds_toArray, List.set_cons_zero, List.set_cons_succ]
    refine wpAnyH_ready (rs := [2]) (by kernel_rfl) (by simp) ?_
    refine AllReadyH.cons (o := { dst := some 13, op := Go.Op.call { callee := Go.Callee.value (Go.Operand.func 67), args := #[Go.Operand.tmp 12], argTypes := #[76] }, type := 29, pos := "bytes.go:118", after := #[{ on := 1, ground := Go.Ground.data }], guard := none }) rfl (fun K hK => ?_) AllReadyH.nil
    go_simp
    refine (gP _ R2).out.mono ?_; rintro e w3 ⟨vp, rfl, op, R3, on3⟩; have N3 := N2.trans on3; obtain ⟨aop, cpp, rfl⟩ := slice_of_own op; have OP := D.hidIt op; clear op
    try go_wp2_with fail
    refine hK.out _ _ ?hSa13 ?resta13
    case hSa13 => (try dsimp only); (first | (with_reducible exact QS.out _ N2) | (with_reducible exact QS.out _ N3) | (with_reducible exact QS.out _ N4) | (with_reducible exact QS.out _ N5) | (with_reducible exact QS.out _ N6) | (with_reducible exact QS.out _ N7) | (with_reducible exact off5 _ _ _ _ _ HNE.out K7.out))
    clear hK K hHeld
    intro hHeld
    try simp only [Act.put, List.setIfInBounds_toArray, List.set_cons_zero, List.set_cons_succ]
    refine wpAnyH_ready (rs := [5]) (by kernel_rfl) (by simp) ?_
    refine AllReadyH.cons (o := { dst := some 16, op := Go.Op.call { callee := Go.Callee.value (Go.Operand.func 68), args := #[Go.Operand.tmp 15], argTypes := #[76] }, type := 9, pos := "bytes.go:119", after := #[{ on := 4, ground := Go.Ground.data }, { on := 2, ground := Go.Ground.chain }], guard := none }) rfl (fun K hK => ?_) AllReadyH.nil
    go_simp
    refine (gN _ R3).out.mono ?_; rintro e w4 ⟨rfl, R4, on4⟩; have N4 := N3.trans on4; have OP4 := D.hidIt (own_same OP.out (Same.of_only R3 on4 (by decide))); clear OP
    try go_wp2_with fail
    refine hK.out _ _ ?hSa14 ?resta14
    case hSa14 => (try dsimp only); (first | (with_reducible exact QS.out _ N2) | (with_reducible exact QS.out _ N3) | (with_reducible exact QS.out _ N4) | (with_reducible exact QS.out _ N5) | (with_reducible exact QS.out _ N6) | (with_reducible exact QS.out _ N7) | (with_reducible exact off5 _ _ _ _ _ HNE.out K7.out))
    clear hK K hHeld
    intro hHeld
    try simp only [Act.put, List.setIfInBounds_toArray, List.set_cons_zero, List.set_cons_succ]
    refine wpAnyH_ready (rs := [8]) (by kernel_rfl) (by simp) ?_
    refine AllReadyH.cons (o := { dst := some 19, op := Go.Op.call { callee := Go.Callee.value (Go.Operand.func 68), args := #[Go.Operand.tmp 18], argTypes := #[76] }, type := 9, pos := "bytes.go:120", after := #[{ on := 7, ground := Go.Ground.data }, { on := 5, ground := Go.Ground.chain }], guard := none }) rfl (fun K hK => ?_) AllReadyH.nil
    go_simp
    refine (gS _ R4).out.mono ?_; rintro e w5 ⟨rfl, R5, on5⟩; have N5 := N4.trans on5; have OP5 := D.hidIt (own_same OP4.out (Same.of_only R4 on5 (by decide))); clear OP4
    try go_wp2_with fail
    refine hK.out _ _ ?hSa15 ?resta15
    case hSa15 => (try dsimp only); (first | (with_reducible exact QS.out _ N2) | (with_reducible exact QS.out _ N3) | (with_reducible exact QS.out _ N4) | (with_reducible exact QS.out _ N5) | (with_reducible exact QS.out _ N6) | (with_reducible exact QS.out _ N7) | (with_reducible exact off5 _ _ _ _ _ HNE.out K7.out))
    clear hK K hHeld
    intro hHeld
    try simp only [Act.put, List.setIfInBounds_toArray, List.set_cons_zero, List.set_cons_succ]
    refine wpAnyH_ready (rs := [12]) (by kernel_rfl) (by simp) ?_
    refine AllReadyH.cons (o := { dst := some 23, op := Go.Op.call { callee := Go.Callee.value (Go.Operand.func 69), args := #[Go.Operand.tmp 20, Go.Operand.tmp 22], argTypes := #[79, 127] }, type := 30, pos := "bytes.go:121", after := #[{ on := 9, ground := Go.Ground.data }, { on := 11, ground := Go.Ground.data }, { on := 8, ground := Go.Ground.chain }], guard := none }) rfl (fun K hK => ?_) AllReadyH.nil
    go_simp
    refine (g5 _ R5).out.mono ?_; rintro e w6 ⟨vf, rfl, of, R6, on6⟩; have N6 := N5.trans on6; obtain ⟨aof, cf, rfl⟩ := of.slice; have OF6 := D.hidIt of; have OP6 := D.hidIt (own_same OP5.out (Same.of_only R5 on6 (by decide))); clear OP5 of
    try go_wp2_with fail
    refine hK.out _ _ ?hSa16 ?resta16
    case hSa16 => (try dsimp only); (first | (with_reducible exact QS.out _ N2) | (with_reducible exact QS.out _ N3) | (with_reducible exact QS.out _ N4) | (with_reducible exact QS.out _ N5) | (with_reducible exact QS.out _ N6) | (with_reducible exact QS.out _ N7) | (with_reducible exact off5 _ _ _ _ _ HNE.out K7.out))
    clear hK K hHeld
    intro hHeld
    try simp only [Act.put, List.setIfInBounds_toArray, List.set_cons_zero, List.set_cons_succ]
    refine wpAnyH_ready (rs := [16]) (by kernel_rfl) (by simp) ?_
    refine AllReadyH.cons (o := { dst := some 27, op := Go.Op.call { callee := Go.Callee.value (Go.Operand.func 71), args := #[Go.Operand.tmp 24, Go.Operand.tmp 26], argTypes := #[79, 129] }, type := 31, pos := "bytes.go:122", after := #[{ on := 13, ground := Go.Ground.data }, { on := 15, ground := Go.Ground.data }, { on := 12, ground := Go.Ground.chain }], guard := none }) rfl (fun K hK => ?_) AllReadyH.nil
    go_simp
    refine (g6 _ R6).out.mono ?_; rintro e w7 ⟨vm, rfl, om, R7, on7⟩; have N7 := N6.trans on7; obtain ⟨aom, cm, rfl⟩ := om.slice; have OM7 := D.hidIt om; have OF7 := D.hidIt (OF6.out.same (Same.of_only R6 on7 (by decide)) (fun _ _ h => h.any)); have OP7 := D.hidIt (own_same OP6.out (Same.of_only R6 on7 (by decide))); clear OP6 OF6 om; have H7 := D.hidIt (QH.out w7 N7); have K7 := D.hidIt (QS.out w7 N7)
    try go_wp2_with fail
    refine hK.out _ _ ?hSa17 ?resta17
    case hSa17 => (try dsimp only); (first | (with_reducible exact QS.out _ N2) | (with_reducible exact QS.out _ N3) | (with_reducible exact QS.out _ N4) | (with_reducible exact QS.out _ N5) | (with_reducible exact QS.out _ N6) | (with_reducible exact QS.out _ N7) | (with_reducible exact off5 _ _ _ _ _ HNE.out K7.out))
    clear hK K hHeld
    intro hHeld
    try simp only [Act.put, List.setIfInBounds_toArray, List.set_cons_zero, List.set_cons_succ]
    refine wpAnyH_take (i := 17) (oi := { dst := some 28, op := Go.Op.build 33 #[(2, Go.Operand.tmp 13), (0, Go.Operand.tmp 16), (1, Go.Operand.tmp 19), (3, Go.Operand.tmp 23), (4, Go.Operand.tmp 27)], type := 33, pos := "bytes.go:117", after := #[{ on := 2, ground := Go.Ground.data }, { on := 5, ground := Go.Ground.data }, { on := 8, ground := Go.Ground.data }, { on := 12, ground := Go.Ground.data }, { on := 16, ground := Go.Ground.data }], guard := none }) (v := ?va18) rfl (by kernel_rfl) (by kernel_rfl) (by kernel_rfl) (fun _ _ _ h => h) (Or.inl ⟨by rfl, ?hya18⟩) (by assumption) ?resta18
    case hya18 => intro w hSw; (try dsimp only at hSw); go_simp; try with_reducible rfl
    try simp only [Act.put, List.setIfInBounds_toArray, List.set_cons_zero, List.set_cons_succ]
    refine wpAnyH_ready (rs := [18]) (by kernel_rfl) (by simp) ?_
    refine AllReadyH.cons (o := { dst := none, op := Go.Op.store 33 (Go.Operand.tmp 2) (Go.Operand.tmp 28), type := 0, pos := "bytes.go:117", after := #[{ on := 17, ground := Go.Ground.data }, { on := 16, ground := Go.Ground.chain }, { on := 0, ground := Go.Ground.phase }, { on := 1, ground := Go.Ground.phase }, { on := 2, ground := Go.Ground.phase }, { on := 3, ground := Go.Ground.phase }, { on := 4, ground := Go.Ground.phase }, { on := 5, ground := Go.Ground.phase }, { on := 6, ground := Go.Ground.phase }, { on := 7, ground := Go.Ground.phase }, { on := 8, ground := Go.Ground.phase }, { on := 9, ground := Go.Ground.phase }, { on := 10, ground := Go.Ground.phase }, { on := 11, ground := Go.Ground.phase }, { on := 12, ground := Go.Ground.phase }, { on := 13, ground := Go.Ground.phase }, { on := 14, ground := Go.Ground.phase }, { on := 15, ground := Go.Ground.phase }, { on := 16, ground := Go.Ground.phase }, { on := 17, ground := Go.Ground.phase }], guard := none }) rfl (fun K hK => ?_) AllReadyH.nil
    go_simp
    obtain ⟨f0, f1, f2, f3, f4, ff⟩ := row5 H7.out
    try go_wp2_with fail
    refine hK.out _ _ ?hSa19 ?resta19
    case hSa19 => (try dsimp only); (first | (with_reducible exact QS.out _ N2) | (with_reducible exact QS.out _ N3) | (with_reducible exact QS.out _ N4) | (with_reducible exact QS.out _ N5) | (with_reducible exact QS.out _ N6) | (with_reducible exact QS.out _ N7) | (with_reducible exact off5 _ _ _ _ _ HNE.out K7.out))
    clear hK K hHeld
    intro hHeld
    try simp only [Act.put, List.setIfInBounds_toArray, List.set_cons_zero, List.set_cons_succ]
    refine wpAnyH_done (by kernel_rfl) ?_ _
    refine NoPanic.normal ?_
    have OO := D.hidIt (O0.out.trans (ON2.out.trans ((Only.drewN pr w2 1).trans N7)))
    have FIN := D.hidIt (put5R (g := w.heap.size + 1) (.string nm) (.string sup) (.slice aop (rdO l a1 Y1).length cpp) (.slice aof fs.length cf) (.slice aom ms.length cm) H00.out OO.out R7 (by omega))
    have H5 := D.hidIt (set5T (.string nm) (.string sup) (.slice aop (rdO l a1 Y1).length cpp) (.slice aof fs.length cf) (.slice aom ms.length cm) H7.out)
    have QQ := D.hidIt (class_stay OP7.out OF7.out OM7.out (fun T hT => same5T (T := T) (.string nm) (.string sup) (.slice aop (rdO l a1 Y1).length cpp) (.slice aof fs.length cf) (.slice aom ms.length cm) H7.out hT))
    clear f0 f1 f2 f3 f4 ff R2 N2 R3 N3 R4 N4 R5 N5 R6 N6 R7 N7 on3 on4 on5 on6 on7 OP7 OF7 OM7
    go_wp2
    refine bodyPost_ret (results_cell_row rfl _ _ (w.heap.size + 1) 33 _ (0, 0) _ rfl H5.out Tryz.underlying33 rfl (by kernel_rfl)) rfl ?_
    exact ⟨⟨_, rfl, _, _, _, rfl, HS3.out, HS4.out, QQ.out.1, HPO.out, QQ.out.2.1, QQ.out.2.2⟩, FIN.out.1, FIN.out.2⟩
    refine hK.out _ _ ?hSa19z ?resta19z
    case hSa19z => (try dsimp only); (first | (with_reducible exact QS.out _ N2) | (with_reducible exact QS.out _ N3) | (with_reducible exact QS.out _ N4) | (with_reducible exact QS.out _ N5) | (with_reducible exact QS.out _ N6) | (with_reducible exact QS.out _ N7) | (with_reducible exact off5 _ _ _ _ _ HNE.out K7.out))
    clear hK K hHeld
    intro hHeld
    try simp only [Act.put, List.setIfInBounds_toArray, List.set_cons_zero, List.set_cons_succ]
    refine wpAnyH_done (by kernel_rfl) ?_ _
    refine NoPanic.normal ?_
    have OO := D.hidIt (O0.out.trans (ON2.out.trans ((Only.drewN pr w2 1).trans N7)))
    have FIN := D.hidIt (put5R (g := w.heap.size + 1) (.string nm) (.string sup) (.slice aop (rdO l a1 Y1).length cpp) (.slice aof fs.length cf) (.slice aom ms.length cm) H00.out OO.out R7 (by omega))
    have H5 := D.hidIt (set5T (.string nm) (.string sup) (.slice aop (rdO l a1 Y1).length cpp) (.slice aof fs.length cf) (.slice aom ms.length cm) H7.out)
    have QQ := D.hidIt (class_stay OP7.out OF7.out OM7.out (fun T hT => same5T (T := T) (.string nm) (.string sup) (.slice aop (rdO l a1 Y1).length cpp) (.slice aof fs.length cf) (.slice aom ms.length cm) H7.out hT))
    clear f0 f1 f2 f3 f4 ff R2 N2 R3 N3 R4 N4 R5 N5 R6 N6 R7 N7 on3 on4 on5 on6 on7 OP7 OF7 OM7
    go_wp2
    refine bodyPost_ret (results_cell_row rfl _ _ (w.heap.size + 1) 33 _ (0, 0) _ rfl H5.out Tryz.underlying33 rfl (by kernel_rfl)) rfl ?_
    exact ⟨⟨_, rfl, _, _, _, rfl, HS3.out, HS4.out, QQ.out.1, HPO.out, QQ.out.2.1, QQ.out.2.2⟩, FIN.out.1, FIN.out.2⟩
  · have d1 := (KS.out _ ON2.out).1
    have QS : Hid (∀ W, Only pr w2.drew W → W.cell? ⟨w.heap.size, 0, none⟩ = some (.pointer (some ⟨pr, 0, none⟩))) := fun W ho => (KS.out W (ON2.out.trans ((Only.drewN pr w2 1).trans ho))).1
    have QH : Hid (∀ W, Only pr w2.drew W → W.heap[w.heap.size + 1]? = some (.cells #[.string ⟨#[]⟩, .string ⟨#[]⟩, .slice none 0 0, .slice none 0 0, .slice none 0 0] 33)) := fun W ho => (KS.out W (ON2.out.trans ((Only.drewN pr w2 1).trans ho))).2
    have R2 : IsR pr w2.drew v l a1 Y1 := H2.out.below (below_drewN (Below.refl _ _) 1)
    have HNE : Hid (w.heap.size ≠ w.heap.size + 1) := by show _ ≠ _; omega
    have N2 : Only pr w2.drew w2.drew := Only.refl _ _
    go_wp2_with fail
    refine wp_region_noPanic ?_
    refine wp_region_held_drew (S := (fun W' => W'.cell? ⟨w.heap.size, 0, none⟩ = some (.pointer (some ⟨pr, 0, none⟩)))) (by kernel_rfl) ?_ (fun hHeld => ?_)
    · (try dsimp only); (first | (with_reducible exact QS.out _ N2) | (with_reducible exact QS.out _ N3) | (with_reducible exact QS.out _ N4) | (with_reducible exact QS.out _ N5) | (with_reducible exact QS.out _ N6) | (with_reducible exact QS.out _ N7) | (with_reducible exact off5 _ _ _ _ _ HNE.out K7.out))
    refine wpAnyH_take (i := 0) (oi := { dst := some 11, op := Go.Op.fieldAddr 79 (Go.Operand.tmp 1) 0, type := 0, pos := "bytes.go:117", after := #[], guard := none }) (v := ?vb1) rfl (by kernel_rfl) (by kernel_rfl) (by kernel_rfl) (fun _ _ _ h => h) (Or.inl ⟨by rfl, ?hyb1⟩) (by assumption) ?restb1
    case hyb1 => intro w hSw; (try dsimp only at hSw); go_simp; try with_reducible rfl
    try simp only [Act.put, List.setIfInBounds_toArray, List.set_cons_zero, List.set_cons_succ]
    refine wpAnyH_take (i := 1) (oi := { dst := some 12, op := Go.Op.load 76 (Go.Operand.tmp 11), type := 76, pos := "bytes.go:117", after := #[{ on := 0, ground := Go.Ground.data }], guard := none }) (v := ?vb2) rfl (by kernel_rfl) (by kernel_rfl) (by kernel_rfl) (fun _ _ _ h => h) (Or.inl ⟨by rfl, ?hyb2⟩) (by assumption) ?restb2
    case hyb2 => intro w hSw; (try dsimp only at hSw); go_simp; try with_reducible rfl
    try simp only [Act.put, List.setIfInBounds_toArray, List.set_cons_zero, List.set_cons_succ]
    refine wpAnyH_take (i := 3) (oi := { dst := some 14, op := Go.Op.fieldAddr 79 (Go.Operand.tmp 1) 0, type := 0, pos := "bytes.go:117", after := #[], guard := none }) (v := ?vb3) rfl (by kernel_rfl) (by kernel_rfl) (by kernel_rfl) (fun _ _ _ h => h) (Or.inl ⟨by rfl, ?hyb3⟩) (by assumption) ?restb3
    case hyb3 => intro w hSw; (try dsimp only at hSw); go_simp; try with_reducible rfl
    try simp only [Act.put, List.setIfInBounds_toArray, List.set_cons_zero, List.set_cons_succ]
    refine wpAnyH_take (i := 4) (oi := { dst := some 15, op := Go.Op.load 76 (Go.Operand.tmp 14), type := 76, pos := "bytes.go:117", after := #[{ on := 3, ground := Go.Ground.data }], guard := none }) (v := ?vb4) rfl (by kernel_rfl) (by kernel_rfl) (by kernel_rfl) (fun _ _ _ h => h) (Or.inl ⟨by rfl, ?hyb4⟩) (by assumption) ?restb4
    case hyb4 => intro w hSw; (try dsimp only at hSw); go_simp; try with_reducible rfl
    try simp only [Act.put, List.setIfInBounds_toArray, List.set_cons_zero, List.set_cons_succ]
    refine wpAnyH_take (i := 6) (oi := { dst := some 17, op := Go.Op.fieldAddr 79 (Go.Operand.tmp 1) 0, type := 0, pos := "bytes.go:117", after := #[], guard := none }) (v := ?vb5) rfl (by kernel_rfl) (by kernel_rfl) (by kernel_rfl) (fun _ _ _ h => h) (Or.inl ⟨by rfl, ?hyb5⟩) (by assumption) ?restb5
    case hyb5 => intro w hSw; (try dsimp only at hSw); go_simp; try with_reducible rfl
    try simp only [Act.put, List.setIfInBounds_toArray, List.set_cons_zero, List.set_cons_succ]
    refine wpAnyH_take (i := 7) (oi := { dst := some 18, op := Go.Op.load 76 (Go.Operand.tmp 17), type := 76, pos := "bytes.go:117", after := #[{ on := 6, ground := Go.Ground.data }], guard := none }) (v := ?vb6) rfl (by kernel_rfl) (by kernel_rfl) (by kernel_rfl) (fun _ _ _ h => h) (Or.inl ⟨by rfl, ?hyb6⟩) (by assumption) ?restb6
    case hyb6 => intro w hSw; (try dsimp only at hSw); go_simp; try with_reducible rfl
    try simp only [Act.put, List.setIfInBounds_toArray, List.set_cons_zero, List.set_cons_succ]
    refine wpAnyH_take (i := 9) (oi := { dst := some 20, op := Go.Op.load 79 (Go.Operand.tmp 1), type := 79, pos := "bytes.go:117", after := #[], guard := none }) (v := ?vb7) rfl (by kernel_rfl) (by kernel_rfl) (by kernel_rfl) (fun _ _ _ h => h) (Or.inl ⟨by rfl, ?hyb7⟩) (by assumption) ?restb7
    case hyb7 => intro w hSw; (try dsimp only at hSw); go_simp; try with_reducible rfl
    try simp only [Act.put, List.setIfInBounds_toArray, List.set_cons_zero, List.set_cons_succ]
    refine wpAnyH_take (i := 10) (oi := { dst := some 21, op := Go.Op.load 79 (Go.Operand.tmp 1), type := 79, pos := "bytes.go:117", after := #[], guard := none }) (v := ?vb8) rfl (by kernel_rfl) (by kernel_rfl) (by kernel_rfl) (fun _ _ _ h => h) (Or.inl ⟨by rfl, ?hyb8⟩) (by assumption) ?restb8
    case hyb8 => intro w hSw; (try dsimp only at hSw); go_simp; try with_reducible rfl
    try simp only [Act.put, List.setIfInBounds_toArray, List.set_cons_zero, List.set_cons_succ]
    refine wpAnyH_take (i := 11) (oi := { dst := some 22, op := Go.Op.makeFunc (Go.Fn.func 70) #[Go.Operand.tmp 21] #[], type := 127, pos := "bytes.go:117", after := #[{ on := 10, ground := Go.Ground.data }], guard := none }) (v := ?vb9) rfl (by kernel_rfl) (by kernel_rfl) (by kernel_rfl) (fun _ _ _ h => h) (Or.inl ⟨by rfl, ?hyb9⟩) (by assumption) ?restb9
    case hyb9 => intro w hSw; (try dsimp only at hSw); go_simp; try with_reducible rfl
    try simp only [Act.put, List.setIfInBounds_toArray, List.set_cons_zero, List.set_cons_succ]
    refine wpAnyH_take (i := 13) (oi := { dst := some 24, op := Go.Op.load 79 (Go.Operand.tmp 1), type := 79, pos := "bytes.go:117", after := #[], guard := none }) (v := ?vb10) rfl (by kernel_rfl) (by kernel_rfl) (by kernel_rfl) (fun _ _ _ h => h) (Or.inl ⟨by rfl, ?hyb10⟩) (by assumption) ?restb10
    case hyb10 => intro w hSw; (try dsimp only at hSw); go_simp; try with_reducible rfl
    try simp only [Act.put, List.setIfInBounds_toArray, List.set_cons_zero, List.set_cons_succ]
    refine wpAnyH_take (i := 14) (oi := { dst := some 25, op := Go.Op.load 79 (Go.Operand.tmp 1), type := 79, pos := "bytes.go:117", after := #[], guard := none }) (v := ?vb11) rfl (by kernel_rfl) (by kernel_rfl) (by kernel_rfl) (fun _ _ _ h => h) (Or.inl ⟨by rfl, ?hyb11⟩) (by assumption) ?restb11
    case hyb11 => intro w hSw; (try dsimp only at hSw); go_simp; try with_reducible rfl
    try simp only [Act.put, List.setIfInBounds_toArray, List.set_cons_zero, List.set_cons_succ]
    refine wpAnyH_take (i := 15) (oi := { dst := some 26, op := Go.Op.makeFunc (Go.Fn.func 72) #[Go.Operand.tmp 25] #[], type := 129, pos := "bytes.go:117", after := #[{ on := 14, ground := Go.Ground.data }], guard := none }) (v := ?vb12) rfl (by kernel_rfl) (by kernel_rfl) (by kernel_rfl) (fun _ _ _ h => h) (Or.inl ⟨by rfl, ?hyb12⟩) (by assumption) ?restb12
    case hyb12 => intro w hSw; (try dsimp only at hSw); go_simp; try with_reducible rfl
    try simp only [Act.put, List.setIfInBounds_toArray, List.set_cons_zero, List.set_cons_succ]
    refine wpAnyH_ready (rs := [2]) (by kernel_rfl) (by simp) ?_
    refine AllReadyH.cons (o := { dst := some 13, op := Go.Op.call { callee := Go.Callee.value (Go.Operand.func 67), args := #[Go.Operand.tmp 12], argTypes := #[76] }, type := 29, pos := "bytes.go:118", after := #[{ on := 1, ground := Go.Ground.data }], guard := none }) rfl (fun K hK => ?_) AllReadyH.nil
    go_simp
    refine (gP _ R2).out.mono ?_; rintro e w3 ⟨vp, rfl, op, R3, on3⟩; have N3 := N2.trans on3; obtain ⟨aop, cpp, rfl⟩ := slice_of_own op; have OP := D.hidIt op; clear op
    try go_wp2_with fail
    refine hK.out _ _ ?hSb13 ?restb13
    case hSb13 => (try dsimp only); (first | (with_reducible exact QS.out _ N2) | (with_reducible exact QS.out _ N3) | (with_reducible exact QS.out _ N4) | (with_reducible exact QS.out _ N5) | (with_reducible exact QS.out _ N6) | (with_reducible exact QS.out _ N7) | (with_reducible exact off5 _ _ _ _ _ HNE.out K7.out))
    clear hK K hHeld
    intro hHeld
    try simp only [Act.put, List.setIfInBounds_toArray, List.set_cons_zero, List.set_cons_succ]
    refine wpAnyH_ready (rs := [5]) (by kernel_rfl) (by simp) ?_
    refine AllReadyH.cons (o := { dst := some 16, op := Go.Op.call { callee := Go.Callee.value (Go.Operand.func 68), args := #[Go.Operand.tmp 15], argTypes := #[76] }, type := 9, pos := "bytes.go:119", after := #[{ on := 4, ground := Go.Ground.data }, { on := 2, ground := Go.Ground.chain }], guard := none }) rfl (fun K hK => ?_) AllReadyH.nil
    go_simp
    refine (gN _ R3).out.mono ?_; rintro e w4 ⟨rfl, R4, on4⟩; have N4 := N3.trans on4; have OP4 := D.hidIt (own_same OP.out (Same.of_only R3 on4 (by decide))); clear OP
    try go_wp2_with fail
    refine hK.out _ _ ?hSb14 ?restb14
    case hSb14 => (try dsimp only); (first | (with_reducible exact QS.out _ N2) | (with_reducible exact QS.out _ N3) | (with_reducible exact QS.out _ N4) | (with_reducible exact QS.out _ N5) | (with_reducible exact QS.out _ N6) | (with_reducible exact QS.out _ N7) | (with_reducible exact off5 _ _ _ _ _ HNE.out K7.out))
    clear hK K hHeld
    intro hHeld
    try simp only [Act.put, List.setIfInBounds_toArray, List.set_cons_zero, List.set_cons_succ]
    refine wpAnyH_ready (rs := [8]) (by kernel_rfl) (by simp) ?_
    refine AllReadyH.cons (o := { dst := some 19, op := Go.Op.call { callee := Go.Callee.value (Go.Operand.func 68), args := #[Go.Operand.tmp 18], argTypes := #[76] }, type := 9, pos := "bytes.go:120", after := #[{ on := 7, ground := Go.Ground.data }, { on := 5, ground := Go.Ground.chain }], guard := none }) rfl (fun K hK => ?_) AllReadyH.nil
    go_simp
    refine (gS _ R4).out.mono ?_; rintro e w5 ⟨rfl, R5, on5⟩; have N5 := N4.trans on5; have OP5 := D.hidIt (own_same OP4.out (Same.of_only R4 on5 (by decide))); clear OP4
    try go_wp2_with fail
    refine hK.out _ _ ?hSb15 ?restb15
    case hSb15 => (try dsimp only); (first | (with_reducible exact QS.out _ N2) | (with_reducible exact QS.out _ N3) | (with_reducible exact QS.out _ N4) | (with_reducible exact QS.out _ N5) | (with_reducible exact QS.out _ N6) | (with_reducible exact QS.out _ N7) | (with_reducible exact off5 _ _ _ _ _ HNE.out K7.out))
    clear hK K hHeld
    intro hHeld
    try simp only [Act.put, List.setIfInBounds_toArray, List.set_cons_zero, List.set_cons_succ]
    refine wpAnyH_ready (rs := [12]) (by kernel_rfl) (by simp) ?_
    refine AllReadyH.cons (o := { dst := some 23, op := Go.Op.call { callee := Go.Callee.value (Go.Operand.func 69), args := #[Go.Operand.tmp 20, Go.Operand.tmp 22], argTypes := #[79, 127] }, type := 30, pos := "bytes.go:121", after := #[{ on := 9, ground := Go.Ground.data }, { on := 11, ground := Go.Ground.data }, { on := 8, ground := Go.Ground.chain }], guard := none }) rfl (fun K hK => ?_) AllReadyH.nil
    go_simp
    refine (g5 _ R5).out.mono ?_; rintro e w6 ⟨vf, rfl, of, R6, on6⟩; have N6 := N5.trans on6; obtain ⟨aof, cf, rfl⟩ := of.slice; have OF6 := D.hidIt of; have OP6 := D.hidIt (own_same OP5.out (Same.of_only R5 on6 (by decide))); clear OP5 of
    try go_wp2_with fail
    refine hK.out _ _ ?hSb16 ?restb16
    case hSb16 => (try dsimp only); (first | (with_reducible exact QS.out _ N2) | (with_reducible exact QS.out _ N3) | (with_reducible exact QS.out _ N4) | (with_reducible exact QS.out _ N5) | (with_reducible exact QS.out _ N6) | (with_reducible exact QS.out _ N7) | (with_reducible exact off5 _ _ _ _ _ HNE.out K7.out))
    clear hK K hHeld
    intro hHeld
    try simp only [Act.put, List.setIfInBounds_toArray, List.set_cons_zero, List.set_cons_succ]
    refine wpAnyH_ready (rs := [16]) (by kernel_rfl) (by simp) ?_
    refine AllReadyH.cons (o := { dst := some 27, op := Go.Op.call { callee := Go.Callee.value (Go.Operand.func 71), args := #[Go.Operand.tmp 24, Go.Operand.tmp 26], argTypes := #[79, 129] }, type := 31, pos := "bytes.go:122", after := #[{ on := 13, ground := Go.Ground.data }, { on := 15, ground := Go.Ground.data }, { on := 12, ground := Go.Ground.chain }], guard := none }) rfl (fun K hK => ?_) AllReadyH.nil
    go_simp
    refine (g6 _ R6).out.mono ?_; rintro e w7 ⟨vm, rfl, om, R7, on7⟩; have N7 := N6.trans on7; obtain ⟨aom, cm, rfl⟩ := om.slice; have OM7 := D.hidIt om; have OF7 := D.hidIt (OF6.out.same (Same.of_only R6 on7 (by decide)) (fun _ _ h => h.any)); have OP7 := D.hidIt (own_same OP6.out (Same.of_only R6 on7 (by decide))); clear OP6 OF6 om; have H7 := D.hidIt (QH.out w7 N7); have K7 := D.hidIt (QS.out w7 N7)
    try go_wp2_with fail
    refine hK.out _ _ ?hSb17 ?restb17
    case hSb17 => (try dsimp only); (first | (with_reducible exact QS.out _ N2) | (with_reducible exact QS.out _ N3) | (with_reducible exact QS.out _ N4) | (with_reducible exact QS.out _ N5) | (with_reducible exact QS.out _ N6) | (with_reducible exact QS.out _ N7) | (with_reducible exact off5 _ _ _ _ _ HNE.out K7.out))
    clear hK K hHeld
    intro hHeld
    try simp only [Act.put, List.setIfInBounds_toArray, List.set_cons_zero, List.set_cons_succ]
    refine wpAnyH_take (i := 17) (oi := { dst := some 28, op := Go.Op.build 33 #[(2, Go.Operand.tmp 13), (0, Go.Operand.tmp 16), (1, Go.Operand.tmp 19), (3, Go.Operand.tmp 23), (4, Go.Operand.tmp 27)], type := 33, pos := "bytes.go:117", after := #[{ on := 2, ground := Go.Ground.data }, { on := 5, ground := Go.Ground.data }, { on := 8, ground := Go.Ground.data }, { on := 12, ground := Go.Ground.data }, { on := 16, ground := Go.Ground.data }], guard := none }) (v := ?vb18) rfl (by kernel_rfl) (by kernel_rfl) (by kernel_rfl) (fun _ _ _ h => h) (Or.inl ⟨by rfl, ?hyb18⟩) (by assumption) ?restb18
    case hyb18 => intro w hSw; (try dsimp only at hSw); go_simp; try with_reducible rfl
    try simp only [Act.put, List.setIfInBounds_toArray, List.set_cons_zero, List.set_cons_succ]
    refine wpAnyH_ready (rs := [18]) (by kernel_rfl) (by simp) ?_
    refine AllReadyH.cons (o := { dst := none, op := Go.Op.store 33 (Go.Operand.tmp 2) (Go.Operand.tmp 28), type := 0, pos := "bytes.go:117", after := #[{ on := 17, ground := Go.Ground.data }, { on := 16, ground := Go.Ground.chain }, { on := 0, ground := Go.Ground.phase }, { on := 1, ground := Go.Ground.phase }, { on := 2, ground := Go.Ground.phase }, { on := 3, ground := Go.Ground.phase }, { on := 4, ground := Go.Ground.phase }, { on := 5, ground := Go.Ground.phase }, { on := 6, ground := Go.Ground.phase }, { on := 7, ground := Go.Ground.phase }, { on := 8, ground := Go.Ground.phase }, { on := 9, ground := Go.Ground.phase }, { on := 10, ground := Go.Ground.phase }, { on := 11, ground := Go.Ground.phase }, { on := 12, ground := Go.Ground.phase }, { on := 13, ground := Go.Ground.phase }, { on := 14, ground := Go.Ground.phase }, { on := 15, ground := Go.Ground.phase }, { on := 16, ground := Go.Ground.phase }, { on := 17, ground := Go.Ground.phase }], guard := none }) rfl (fun K hK => ?_) AllReadyH.nil
    go_simp
    obtain ⟨f0, f1, f2, f3, f4, ff⟩ := row5 H7.out
    try go_wp2_with fail
    refine hK.out _ _ ?hSb19 ?restb19
    case hSb19 => (try dsimp only); (first | (with_reducible exact QS.out _ N2) | (with_reducible exact QS.out _ N3) | (with_reducible exact QS.out _ N4) | (with_reducible exact QS.out _ N5) | (with_reducible exact QS.out _ N6) | (with_reducible exact QS.out _ N7) | (with_reducible exact off5 _ _ _ _ _ HNE.out K7.out))
    clear hK K hHeld
    intro hHeld
    try simp only [Act.put, List.setIfInBounds_toArray, List.set_cons_zero, List.set_cons_succ]
    refine wpAnyH_done (by kernel_rfl) ?_ _
    refine NoPanic.normal ?_
    have OO := D.hidIt (O0.out.trans (ON2.out.trans ((Only.drewN pr w2 1).trans N7)))
    have FIN := D.hidIt (put5R (g := w.heap.size + 1) (.string nm) (.string sup) (.slice aop (rdO l a1 Y1).length cpp) (.slice aof fs.length cf) (.slice aom ms.length cm) H00.out OO.out R7 (by omega))
    have H5 := D.hidIt (set5T (.string nm) (.string sup) (.slice aop (rdO l a1 Y1).length cpp) (.slice aof fs.length cf) (.slice aom ms.length cm) H7.out)
    have QQ := D.hidIt (class_stay OP7.out OF7.out OM7.out (fun T hT => same5T (T := T) (.string nm) (.string sup) (.slice aop (rdO l a1 Y1).length cpp) (.slice aof fs.length cf) (.slice aom ms.length cm) H7.out hT))
    clear f0 f1 f2 f3 f4 ff R2 N2 R3 N3 R4 N4 R5 N5 R6 N6 R7 N7 on3 on4 on5 on6 on7 OP7 OF7 OM7
    go_wp2
    refine bodyPost_ret (results_cell_row rfl _ _ (w.heap.size + 1) 33 _ (0, 0) _ rfl H5.out Tryz.underlying33 rfl (by kernel_rfl)) rfl ?_
    exact ⟨⟨_, rfl, _, _, _, rfl, HS3.out, HS4.out, QQ.out.1, HPO.out, QQ.out.2.1, QQ.out.2.2⟩, FIN.out.1, FIN.out.2⟩
    refine hK.out _ _ ?hSb19z ?restb19z
    case hSb19z => (try dsimp only); (first | (with_reducible exact QS.out _ N2) | (with_reducible exact QS.out _ N3) | (with_reducible exact QS.out _ N4) | (with_reducible exact QS.out _ N5) | (with_reducible exact QS.out _ N6) | (with_reducible exact QS.out _ N7) | (with_reducible exact off5 _ _ _ _ _ HNE.out K7.out))
    clear hK K hHeld
    intro hHeld
    try simp only [Act.put, List.setIfInBounds_toArray, List.set_cons_zero, List.set_cons_succ]
    refine wpAnyH_done (by kernel_rfl) ?_ _
    refine NoPanic.normal ?_
    have OO := D.hidIt (O0.out.trans (ON2.out.trans ((Only.drewN pr w2 1).trans N7)))
    have FIN := D.hidIt (put5R (g := w.heap.size + 1) (.string nm) (.string sup) (.slice aop (rdO l a1 Y1).length cpp) (.slice aof fs.length cf) (.slice aom ms.length cm) H00.out OO.out R7 (by omega))
    have H5 := D.hidIt (set5T (.string nm) (.string sup) (.slice aop (rdO l a1 Y1).length cpp) (.slice aof fs.length cf) (.slice aom ms.length cm) H7.out)
    have QQ := D.hidIt (class_stay OP7.out OF7.out OM7.out (fun T hT => same5T (T := T) (.string nm) (.string sup) (.slice aop (rdO l a1 Y1).length cpp) (.slice aof fs.length cf) (.slice aom ms.length cm) H7.out hT))
    clear f0 f1 f2 f3 f4 ff R2 N2 R3 N3 R4 N4 R5 N5 R6 N6 R7 N7 on3 on4 on5 on6 on7 OP7 OF7 OM7
    go_wp2
    refine bodyPost_ret (results_cell_row rfl _ _ (w.heap.size + 1) 33 _ (0, 0) _ rfl H5.out Tryz.underlying33 rfl (by kernel_rfl)) rfl ?_
    exact ⟨⟨_, rfl, _, _, _, rfl, HS3.out, HS4.out, QQ.out.1, HPO.out, QQ.out.2.1, QQ.out.2.2⟩, FIN.out.1, FIN.out.2⟩
end Go.Proofs.YthagaldpopnoeaaGreatDoor

/- Decode, whatever the bytes are: walked. -/
namespace Go.Proofs.YthagaldpopnoeaaGreatDoor
open Go.RowKit D

theorem ClassQ.below {w w' : World} {v : Value} {k : KD} (h : ClassQ w v k) (hb : Below w.heap.size w w') : ClassQ w' v k := by
  obtain ⟨v1, v2, v3, e, s1, s2, h1, hok, h2, h3⟩ := h
  obtain ⟨q1, q2, q3⟩ := class_stay h1 h2 h3 (fun T _ => Same.of_below hb)
  exact ⟨v1, v2, v3, e, s1, s2, q1, hok, q2, q3⟩
theorem ClassQ.toV {w : World} {v : Value} {k : KD} (h : ClassQ w v k) : ClassV w v k := by
  obtain ⟨v1, v2, v3, e, s1, s2, h1, hok, h2, h3⟩ := h
  obtain ⟨o1, c1, rfl, l1⟩ := LAt.of_own (R := ConstR) (row := CD.cells) (fun _ => rfl) h1 (fun x hx => ⟨rfl, hok x hx⟩)
  obtain ⟨o2, c2, rfl, l2⟩ := h2.lat (R' := FieldR) (fun _ _ h => h)
  obtain ⟨o3, c3, rfl, l3⟩ := h3.lat (R' := MethR) (fun _ _ h => h.toR)
  exact ⟨o1, c1, o2, c2, o3, c3, e, s1, s2, l1, l2, l3⟩
def DecB (kk : KD) (we rz : Int) (e : Ending) (w' : World) : Prop :=
  (∃ why at_, why ≠ 0 ∧ (we = why ∨ rz = why) ∧ e = .returned (.tuple #[zeroK, .int .i64 why, .int .i64 at_])) ∨
  (∃ u, e = .returned (.tuple #[u, .int .i64 0, .int .i64 0]) ∧ ClassQ w' u kk ∧ rz = 0 ∧ we = 0)
def DecA (l : List Int) (e : Ending) (w' : World) : Prop := DecB (rdK l 0 0).1 (endZ l (rdK l 0 0).2.1 (rdK l 0 0).2.2).1 (rightZ (rdK l 0 0).1) e w'
set_option maxRecDepth 8000 in
set_option maxHeartbeats 4000000 in
theorem decode_class (v : Value) (l : List Int) (w : World) (hv : View w v l) (hlen : l.length ≤ 32768) : Calls Tryz.prog 10 #[v] w fun e w' => Below w.heap.size w w' ∧ DecA l e w' := by
  obtain ⟨ao, cap, rfl, -⟩ := id hv
  have B0 := balloc w (.cells #[.string ⟨#[]⟩, .string ⟨#[]⟩, .slice none 0 0, .slice none 0 0, .slice none 0 0] 33)
  have gN := D.hidIt (newR_any _ l _ (hv.below B0) (by omega))
  have gC := fun pr u W (h : IsR pr W u l 0 0) => D.hidIt (class_any pr u l 0 0 W h (by omega))
  unfold DecA
  generalize rdK l 0 0 = KK at *
  obtain ⟨kk, a6, y6⟩ := KK
  simp only at gC ⊢
  have gE := fun pr u W (h : IsR pr W u l a6 y6) => D.hidIt (end_any pr u l a6 y6 W h)
  generalize endZ l a6 y6 = EE at *
  obtain ⟨why, at_⟩ := EE
  simp only at gE ⊢
  have gR := fun W u (h : ClassQ W u kk) => D.hidIt (right_class kk u W h.toV)
  generalize rightZ kk = rz at *
  have hn' : ¬ (32768 : Int) < (l.length : Int) := by omega
  have C0 := D.hidIt (heap_alloc_new w (.cells #[.string ⟨#[]⟩, .string ⟨#[]⟩, .slice none 0 0, .slice none 0 0, .slice none 0 0] 33))
  clear hv hlen
  generalize l.length = n at *
  unfold zeroK rv at *
  go_enter Tryz.func10, Tryz.ntmps10
  go_wp2_with fail
  refine gN.out.mono ?_
  rintro e w1 ⟨b1, pr, u, rfl, hpr, h1, _⟩
  have B1 := D.hidIt (next B0 b1)
  have hpr' : w.heap.size < pr := by simp at hpr; omega
  have X1 : Hid (w1.heap[w.heap.size]? = some (.cells #[.string ⟨#[]⟩, .string ⟨#[]⟩, .slice none 0 0, .slice none 0 0, .slice none 0 0] 33)) := (b1.block _ (by simp)).trans C0.out
  have hs1 : w.heap.size < w1.heap.size := by have := b1.size; simp at this; omega
  have H2 := D.hidIt (h1.below (balloc w1 (.cells #[.pointer (some ⟨pr, 0, none⟩)] 79)))
  have hp1 := h1.lt
  have B2 := D.hidIt (balloc w1 (.cells #[.pointer (some ⟨pr, 0, none⟩)] 79))
  have Y2 := D.hidIt (heap_alloc_new w1 (.cells #[.pointer (some ⟨pr, 0, none⟩)] 79))
  clear b1 h1 gN C0
  go_wp2_with fail
  refine (gC _ _ _ H2.out).out.mono ?_
  rintro e w3 ⟨⟨uc, rfl, hQ⟩, h3, o3⟩
  obtain ⟨pv, fv, mv, rfl, s1, s2, q1, hok, q2, q3⟩ := id hQ
  obtain ⟨op, cp, rfl⟩ := slice_of_own q1
  obtain ⟨of, cf, rfl⟩ := q2.slice
  obtain ⟨om, cm, rfl⟩ := q3.slice
  have HQ := D.hidIt hQ
  have X3 : Hid (w3.heap[w.heap.size]? = some (.cells #[.string ⟨#[]⟩, .string ⟨#[]⟩, .slice none 0 0, .slice none 0 0, .slice none 0 0] 33)) := ((o3.block _ (by simp; omega) (by omega)).trans (B2.out.block _ hs1)).trans X1.out
  have Y3 : Hid (w3.heap[w1.heap.size]? = some (.cells #[.pointer (some ⟨pr, 0, none⟩)] 79)) := (o3.block _ (by simp) (by omega)).trans Y2.out
  have hs3 : w1.heap.size < w3.heap.size := by have := o3.size; simp at this; omega
  have B3 : Hid (Below w.heap.size w w3) := (B1.out.trans (B2.out.mono (by omega))).trans (o3.below (by simp; omega) (by omega))
  clear gC H2 o3 hQ s1 s2 q1 hok q2 q3
  have b4 := balloc w3 (.cells #[.string kk.nm, .string kk.sup, .slice op kk.pool.length cp, .slice of kk.fs.length cf, .slice om kk.ms.length cm] 33)
  have H4 := D.hidIt (h3.below b4)
  have HQ4 := D.hidIt (HQ.out.below b4)
  have X4 : Hid ((w3.alloc (.cells #[.string kk.nm, .string kk.sup, .slice op kk.pool.length cp, .slice of kk.fs.length cf, .slice om kk.ms.length cm] 33)).heap[w.heap.size]? = some (.cells #[.string ⟨#[]⟩, .string ⟨#[]⟩, .slice none 0 0, .slice none 0 0, .slice none 0 0] 33)) := (b4.block _ (by omega)).trans X3.out
  have Z4 : Hid ((w3.alloc (.cells #[.string kk.nm, .string kk.sup, .slice op kk.pool.length cp, .slice of kk.fs.length cf, .slice om kk.ms.length cm] 33)).heap[w3.heap.size]? = some (.cells #[.string kk.nm, .string kk.sup, .slice op kk.pool.length cp, .slice of kk.fs.length cf, .slice om kk.ms.length cm] 33)) := heap_alloc_new _ _
  have y4c := cell_row ((b4.block _ hs3).trans Y3.out) 0 rfl
  have B4 := D.hidIt (B3.out.trans (b4.mono (by omega)))
  clear h3 b4 HQ X3 Y3 X1
  go_wp2_with fail
  refine (gE _ _ _ H4.out).out.mono ?_
  rintro e w5 ⟨rfl, q5, rfl⟩
  clear gE H4 y4c
  generalize hW5 : (w3.alloc (.cells #[.string kk.nm, .string kk.sup, .slice op kk.pool.length cp, .slice of kk.fs.length cf, .slice om kk.ms.length cm] 33)).drewN q5 = w5
  have X5 : Hid (w5.heap[w.heap.size]? = some (.cells #[.string ⟨#[]⟩, .string ⟨#[]⟩, .slice none 0 0, .slice none 0 0, .slice none 0 0] 33)) := by show _ = _; rw [← hW5]; exact X4.out
  have Z5 : Hid (w5.heap[w3.heap.size]? = some (.cells #[.string kk.nm, .string kk.sup, .slice op kk.pool.length cp, .slice of kk.fs.length cf, .slice om kk.ms.length cm] 33)) := by show _ = _; rw [← hW5]; exact Z4.out
  have B5 : Hid (Below w.heap.size w w5) := by show Below _ _ _; rw [← hW5]; exact below_drewN B4.out q5
  have HQ5 : Hid (ClassQ w5 (.agg #[.string kk.nm, .string kk.sup, .slice op kk.pool.length cp, .slice of kk.fs.length cf, .slice om kk.ms.length cm]) kk) := by show ClassQ _ _ _; rw [← hW5]; exact HQ4.out.below (below_drewN (Below.refl _ _) q5)
  clear hW5 X4 Z4 B4 HQ4
  by_cases hy : why = 0
  · subst hy
    obtain ⟨z0, z1, z2, z3, z4, -⟩ := row5 Z5.out
    go_wp2_with fail
    refine (gR _ _ HQ5.out).out.mono ?_
    rintro e w6 ⟨rfl, b6⟩
    have B6 := D.hidIt (B5.out.trans (b6.mono (by have := B5.out.size; omega)))
    have X6 := D.hidIt ((b6.block _ (Array.getElem?_eq_some_iff.1 X5.out).1).trans X5.out)
    have Z6 := D.hidIt ((b6.block _ (Array.getElem?_eq_some_iff.1 Z5.out).1).trans Z5.out)
    have HQ6 := D.hidIt (HQ5.out.below b6)
    clear b6 B5 X5 Z5 HQ5 z0 z1 z2 z3 z4 gR
    obtain ⟨f0, f1, f2, f3, f4, ff⟩ := row5 X6.out
    by_cases hr : rz = 0
    · subst hr
      obtain ⟨z0, z1, z2, z3, z4, -⟩ := row5 Z6.out
      have B7 := D.hidIt (((((B6.out.setCell (p := ⟨w.heap.size, 0, none⟩) (Nat.le_refl _) (.string kk.nm)).setCell (p := ⟨w.heap.size, 1, none⟩) (Nat.le_refl _) (.string kk.sup)).setCell (p := ⟨w.heap.size, 2, none⟩) (Nat.le_refl _) (.slice op kk.pool.length cp)).setCell (p := ⟨w.heap.size, 3, none⟩) (Nat.le_refl _) (.slice of kk.fs.length cf)).setCell (p := ⟨w.heap.size, 4, none⟩) (Nat.le_refl _) (.slice om kk.ms.length cm))
      have H7 := D.hidIt (set5T (.string kk.nm) (.string kk.sup) (.slice op kk.pool.length cp) (.slice of kk.fs.length cf) (.slice om kk.ms.length cm) X6.out)
      have HQ7 : Hid (ClassQ (((((w6.setCell ⟨w.heap.size, 0, none⟩ (.string kk.nm)).setCell ⟨w.heap.size, 1, none⟩ (.string kk.sup)).setCell ⟨w.heap.size, 2, none⟩ (.slice op kk.pool.length cp)).setCell ⟨w.heap.size, 3, none⟩ (.slice of kk.fs.length cf)).setCell ⟨w.heap.size, 4, none⟩ (.slice om kk.ms.length cm)) (.agg #[.string kk.nm, .string kk.sup, .slice op kk.pool.length cp, .slice of kk.fs.length cf, .slice om kk.ms.length cm]) kk) := by
        obtain ⟨v1, v2, v3, e, s1, s2, h1, hok, h2, h3⟩ := HQ6.out
        obtain ⟨q1, q2, q3⟩ := class_stay h1 h2 h3 (fun T hT => same5T (T := T) (.string kk.nm) (.string kk.sup) (.slice op kk.pool.length cp) (.slice of kk.fs.length cf) (.slice om kk.ms.length cm) X6.out hT)
        exact ⟨v1, v2, v3, e, s1, s2, q1, hok, q2, q3⟩
      clear HQ6 X6 Z6 B6
      go_wp2
      refine bodyPost_ret (results_row2 rfl _ _ w.heap.size 33 _ (0, 0) _ rfl H7.out Tryz.underlying33 rfl (by kernel_rfl)) rfl ?_
      exact ⟨B7.out, Or.inr ⟨_, rfl, HQ7.out, rfl, rfl⟩⟩
    · have hb : (rz != 0) = true := by simpa using hr
      have B7 := D.hidIt (((((B6.out.setCell (p := ⟨w.heap.size, 0, none⟩) (Nat.le_refl _) (.string ⟨#[]⟩)).setCell (p := ⟨w.heap.size, 1, none⟩) (Nat.le_refl _) (.string ⟨#[]⟩)).setCell (p := ⟨w.heap.size, 2, none⟩) (Nat.le_refl _) (.slice none 0 0)).setCell (p := ⟨w.heap.size, 3, none⟩) (Nat.le_refl _) (.slice none 0 0)).setCell (p := ⟨w.heap.size, 4, none⟩) (Nat.le_refl _) (.slice none 0 0))
      have H7 := D.hidIt (set5T (.string ⟨#[]⟩) (.string ⟨#[]⟩) (.slice none 0 0) (.slice none 0 0) (.slice none 0 0) X6.out)
      clear HQ6 X6 Z6 B6
      go_wp2
      refine bodyPost_ret (results_row2 rfl _ _ w.heap.size 33 _ (0, 0) _ rfl H7.out Tryz.underlying33 rfl (by kernel_rfl)) rfl ?_
      exact ⟨B7.out, Or.inl ⟨rz, 0, hr, .inr rfl, rfl⟩⟩
  · have hb : (why != 0) = true := by simpa using hy
    obtain ⟨f0, f1, f2, f3, f4, ff⟩ := row5 X5.out
    have B7 := D.hidIt (((((B5.out.setCell (p := ⟨w.heap.size, 0, none⟩) (Nat.le_refl _) (.string ⟨#[]⟩)).setCell (p := ⟨w.heap.size, 1, none⟩) (Nat.le_refl _) (.string ⟨#[]⟩)).setCell (p := ⟨w.heap.size, 2, none⟩) (Nat.le_refl _) (.slice none 0 0)).setCell (p := ⟨w.heap.size, 3, none⟩) (Nat.le_refl _) (.slice none 0 0)).setCell (p := ⟨w.heap.size, 4, none⟩) (Nat.le_refl _) (.slice none 0 0))
    have H7 := D.hidIt (set5T (.string ⟨#[]⟩) (.string ⟨#[]⟩) (.slice none 0 0) (.slice none 0 0) (.slice none 0 0) X5.out)
    clear HQ5 X5 Z5 B5
    go_wp2
    refine bodyPost_ret (results_row2 rfl _ _ w.heap.size 33 _ (0, 0) _ rfl H7.out Tryz.underlying33 rfl (by kernel_rfl)) rfl ?_
    exact ⟨B7.out, Or.inl ⟨why, at_, hy, .inl rfl, rfl⟩⟩
end Go.Proofs.YthagaldpopnoeaaGreatDoor
