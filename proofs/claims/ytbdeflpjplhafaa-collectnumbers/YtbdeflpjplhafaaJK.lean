/- A heap at a place, told by what it holds; chapter 13's known runs. -/
import Derived.Test.YtbdeflpjplhafaaJJ
namespace Go.Proofs.Ytbdeflpjplhafaa.J
open Go.RowKit Go.MapKept Go.ChangeMaps
set_option linter.unusedVariables false

def Hp (n0 : Nat) (w : World) (p most : Nat) (l : List Ob) (ss : List (List Bool)) : Prop := ∃ H : HB, H.hb = p ∧ HeapV n0 w H most l ss
def OT (t : TypeId) : Prop := t ≠ 89 ∧ t ≠ 2 ∧ t ≠ 4 ∧ t ≠ 9
structure HpS (n0 : Nat) (w w' : World) : Prop where
  below : ∀ B, B ≤ n0 → Below B w w'
  keeps : ∀ (b : Nat) (row : Array Value) (t : TypeId) (fz : Nat × Nat), OT t → w.heap[b]? = some (Obj.cells row t fz) → w'.heap[b]? = some (Obj.cells row t fz)
theorem HpS.trans {n0 : Nat} {u v w : World} (h : HpS n0 u v) (k : HpS n0 v w) : HpS n0 u w := ⟨fun B hB => (h.below B hB).trans (k.below B hB), fun b row t fz ht hb => k.keeps b row t fz ht (h.keeps b row t fz ht hb)⟩
variable {n0 : Nat} {w : World} {p most : Nat} {l : List Ob} {ss : List (List Bool)}
theorem HpS.of_below {w' : World} (hn : n0 ≤ w.heap.size) (h : Below w.heap.size w w') : HpS n0 w w' :=
  ⟨fun B hB => h.mono (by omega), fun b row t fz _ hb => (h.block b (Array.getElem?_eq_some_iff.1 hb).1).trans hb⟩
theorem HpS.of {H H' : HB} {w' : World} (h : HeapV n0 w H most l ss) (st : HStep H H' w w') : HpS n0 w w' :=
  ⟨fun B hB => st.below (by have := (h.lt (.inl rfl)); omega) (fun b hb => by have := (h.lt hb).1; omega), fun b row t fz ht hb => (st.block b (Array.getElem?_eq_some_iff.1 hb).1 (fun e => by
    obtain ⟨t1, t2, t3, t4⟩ := ht
    rcases e with rfl | rfl | e | e | e
    · have := h.box; unfold Blk at this; rw [hb] at this; cases this; exact t1 rfl
    · obtain ⟨es, cl, hm, _⟩ := h.map; rw [hb] at hm; cases hm
    · obtain ⟨c, fz', h'⟩ := Lib.ownsRow_kind h.wo b e; rw [hb] at h'; cases h'; exact t2 rfl
    · obtain ⟨c, fz', h'⟩ := Lib.ownsRow_kind h.bo b e; rw [hb] at h'; cases h'; exact t3 rfl
    · obtain ⟨c, fz', h'⟩ := Lib.ownsRow_kind h.so b e; rw [hb] at h'; cases h'; exact t4 rfl)).trans hb⟩
theorem HpS.own {w' : World} (st : HpS n0 w w') {B e k n : Nat} {v : Value} {xs : List Value} (he : OT e) (h : w.ownsRow B e k v n xs) : w'.ownsRow B e k v n xs :=
  own_kept h fun g eg => by
    obtain ⟨c, fz, h'⟩ := Lib.ownsRow_kind h g eg
    rw [h', st.keeps _ _ _ _ he h']
theorem HpS.nown {w' : World} (st : HpS n0 w w') {B : Nat} {v : Value} {l : List Int} (h : NOwn w B v l) : NOwn w' B v l := st.own (by unfold OT; decide) h
theorem Hp.lo (h : Hp n0 w p most l ss) : n0 ≤ w.heap.size := by
  obtain ⟨H, -, h⟩ := h
  have := h.lt (.inl rfl); omega
theorem Hp.below {w' : World} (h : Hp n0 w p most l ss) (hb : Below w.heap.size w w') : Hp n0 w' p most l ss := by
  obtain ⟨H, e, h⟩ := h
  exact ⟨H, e, h.below hb⟩
theorem Hp.small (h : Hp n0 w p most l ss) : usedN l ≤ most ∧ most ≤ 16384 := by
  obtain ⟨H, e, h⟩ := h
  exact ⟨h.few, h.most⟩
/-- Other memory is turned: the heap stays. -/
theorem Hp.grown {w' : World} (h : Hp n0 w p most l ss) {B e k n : Nat} {v : Value} {xs : List Value} (he : OT e) (ho : w.ownsRow B e k v n xs) (hg : w.grownBy w' v.ownBlock) : Hp n0 w' p most l ss := by
  obtain ⟨H, ep, h⟩ := h
  obtain ⟨t1, t2, t3, t4⟩ := he
  refine ⟨H, ep, h.kept fun b hb => hg.block b (h.lt hb).2 (fun e => ?_)⟩
  rcases hb with rfl | rfl | e' | e' | e'
  · exact own_not ho h.box (Ne.symm t1) e.symm
  · exact own_notM ho h.map e.symm
  · exact own_apart ho h.wo t2 e.symm e'
  · exact own_apart ho h.bo t3 e.symm e'
  · exact own_apart ho h.so t4 e.symm e'

theorem hp_new (m : Nat) (h1 : 1 ≤ m) (h2 : m ≤ 16384) (w : World) : Calls Try.prog 18 #[.int .i64 (m : Int)] w fun e w' => ∃ p, e = .returned (.tuple #[.pointer (some ⟨p, 0, none⟩), .int .i64 0]) ∧ Hp w.heap.size w' p m [] [] ∧ Below w.heap.size w w' :=
  (New_any m h1 h2 w).mono fun e w' ⟨H, e1, e2, e3⟩ => ⟨H.hb, e1, ⟨H, rfl, e2⟩, e3⟩
theorem hp_array (h : Hp n0 w p most l ss) (refs : Bool) (n : Nat) (hn : n ≤ 256) (hf : usedN l + (n + 3) ≤ most) : Calls Try.prog 22 #[.pointer (some ⟨p, 0, none⟩), .bool refs, .int .i64 (n : Int)] w fun e w' => e = .returned (.tuple #[.int .i64 ((usedN l : Int) + 1), .int .i64 0]) ∧ Hp n0 w' p most (l ++ [⟨arrS refs, 0, List.replicate n 0⟩]) ss ∧ HpS n0 w w' := by
  obtain ⟨H, rfl, h⟩ := h
  exact (Array_any h refs n hn hf).mono fun e w' ⟨e1, H', e2, e3⟩ => ⟨e1, ⟨H', e3.hb, e2⟩, HpS.of h e3⟩
theorem hp_array_full (h : Hp n0 w p most l ss) (refs : Bool) (n : Nat) (hn : n ≤ 256) (hf : most < usedN l + (n + 3)) : Calls Try.prog 22 #[.pointer (some ⟨p, 0, none⟩), .bool refs, .int .i64 (n : Int)] w fun e w' => e = .returned (.tuple #[.int .i64 0, .int .i64 26]) ∧ Hp n0 w' p most l ss ∧ HpS n0 w w' := by
  have hlo := h.lo
  obtain ⟨H, rfl, h⟩ := h
  exact (Array_full h refs n hn hf).mono fun e w' ⟨e1, e2⟩ => ⟨e1, ⟨H, rfl, h.below e2⟩, HpS.of_below hlo e2⟩
theorem hp_len (h : Hp n0 w p most l ss) (v : Int) : Calls Try.prog 35 #[.pointer (some ⟨p, 0, none⟩), .int .i64 v] w fun e w' => e = .returned (.int .i64 (lenZ l v)) ∧ w' = w := by
  obtain ⟨H, rfl, h⟩ := h
  exact Len_any h v
theorem hp_shp (h : Hp n0 w p most l ss) (v : Int) : Calls Try.prog 61 #[.pointer (some ⟨p, 0, none⟩), .int .i64 v] w fun e w' => e = .returned (.int .i64 (shpZ l v)) ∧ w' = w := by
  obtain ⟨H, rfl, h⟩ := h
  exact ShapeOf_any h v
theorem hp_tag (h : Hp n0 w p most l ss) (v : Int) : Calls Try.prog 17 #[.pointer (some ⟨p, 0, none⟩), .int .i64 v] w fun e w' => e = .returned (.int .i64 (tagZ l v)) ∧ w' = w := by
  obtain ⟨H, rfl, h⟩ := h
  exact Tag_any h v
theorem hp_used (h : Hp n0 w p most l ss) : Calls Try.prog 11 #[.pointer (some ⟨p, 0, none⟩)] w fun e w' => e = .returned (.int .i64 (usedN l)) ∧ w' = w := by
  obtain ⟨H, rfl, h⟩ := h
  exact used_any h
theorem hp_get (h : Hp n0 w p most l ss) (v n : Int) (hn : hasZ l v n = true) : Calls Try.prog 67 #[.pointer (some ⟨p, 0, none⟩), .int .i64 v, .int .i64 n] w fun e w' => e = .returned (.tuple #[.int .i64 (getZ l v n), .int .i64 0]) ∧ Below w.heap.size w w' := by
  obtain ⟨H, rfl, h⟩ := h
  exact get_yes h v n hn
theorem hp_get_no (h : Hp n0 w p most l ss) (v n : Int) (hn : hasZ l v n = false) : Calls Try.prog 67 #[.pointer (some ⟨p, 0, none⟩), .int .i64 v, .int .i64 n] w fun e w' => e = .returned (.tuple #[.int .i64 0, .int .i64 1]) ∧ w' = w := by
  obtain ⟨H, rfl, h⟩ := h
  exact get_no h v n hn
theorem hp_isref (h : Hp n0 w p most l ss) (v n : Int) : Calls Try.prog 49 #[.pointer (some ⟨p, 0, none⟩), .int .i64 v, .int .i64 n] w fun e w' => e = .returned (.bool (refZ ss l v n)) ∧ w' = w := by
  obtain ⟨H, rfl, h⟩ := h
  exact IsRef_any h v n
theorem hp_set (h : Hp n0 w p most l ss) (v n x : Int) (hn : hasZ l v n = true) (hf : fitZ ss l v n x = true) : Calls Try.prog 29 #[.pointer (some ⟨p, 0, none⟩), .int .i64 v, .int .i64 n, .int .i64 x] w fun e w' => e = .returned (.int .i64 0) ∧ Hp n0 w' p most (setL l v n x) ss ∧ HpS n0 w w' := by
  obtain ⟨H, rfl, h⟩ := h
  exact (Set_yes h v n x hn hf).mono fun e w' ⟨e1, e2, e3⟩ => ⟨e1, ⟨H, rfl, e2⟩, HpS.of h e3⟩
theorem hp_all (h : Hp n0 w p most l ss) : Calls Try.prog 14 #[.pointer (some ⟨p, 0, none⟩)] w fun e w' => ∃ v', e = .returned v' ∧ NOwn w' w.heap.size v' (begs 0 l) ∧ Below w.heap.size w w' := by
  obtain ⟨H, rfl, h⟩ := h
  exact All_any h
theorem hp_object (h : Hp n0 w p most l ss) (s : Nat) (r : List Bool) (hr : ss[s]? = some r) (hn : r.length ≤ 100000) (hf : usedN l + (r.length + 3) ≤ most) : Calls Try.prog 24 #[.pointer (some ⟨p, 0, none⟩), .int .i64 (s : Int)] w fun e w' => e = .returned (.tuple #[.int .i64 ((usedN l : Int) + 1), .int .i64 0]) ∧ Hp n0 w' p most (l ++ [⟨(s : Int), 0, List.replicate r.length 0⟩]) ss ∧ HpS n0 w w' := by
  obtain ⟨H, rfl, h⟩ := h
  exact (Object_any h s r hr hn hf).mono fun e w' ⟨e1, H', e2, e3⟩ => ⟨e1, ⟨H', e3.hb, e2⟩, HpS.of h e3⟩
end Go.Proofs.Ytbdeflpjplhafaa.J

