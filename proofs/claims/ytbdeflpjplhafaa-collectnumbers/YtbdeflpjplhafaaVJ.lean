/- A heap and the document's own, side by side in memory. -/
import Derived.Test.YtbdeflpjplhafaaJZ
import Derived.Test.YtbdeflpjplhafaaUK
namespace Go.Proofs.Ytbdeflpjplhafaa.J
open Go.RowKit Go.MapKept Go.ChangeMaps
set_option linter.unusedVariables false

/-- Types of which neither heap has blocks. -/
def OT2 (t : TypeId) : Prop := OT t ∧ t ≠ 95 ∧ t ≠ 103 ∧ t ≠ 52
structure TwoS (n0 : Nat) (X : Nat → Prop) (w w' : World) : Prop where
  below : ∀ B, B ≤ n0 → Below B w w'
  keeps : ∀ (b : Nat) (row : Array Value) (t : TypeId) (fz : Nat × Nat), OT2 t → w.heap[b]? = some (Obj.cells row t fz) → w'.heap[b]? = some (Obj.cells row t fz)
  out : ∀ b, X b → w'.heap[b]? = w.heap[b]?
  size : w.heap.size ≤ w'.heap.size
def TwoV (n0 : Nat) (X : Nat → Prop) (w : World) (p q most : Nat) (l : List Ob) (ss : List (List Bool)) (m : List Ob) (tt : List (List Bool)) : Prop :=
  ∃ (H : HB) (R : RB), H.hb = p ∧ R.rb = q ∧ HeapV n0 w H most l ss ∧ RV n0 w R most m tt ∧ (∀ b, H.has b → ¬ R.has b) ∧ ∀ b, X b → b < w.heap.size ∧ ¬ H.has b ∧ ¬ R.has b
variable {n0 : Nat} {X : Nat → Prop} {w w' w'' : World} {p q most : Nat} {l l' m m' : List Ob} {ss ss' tt tt' : List (List Bool)} {H H' : HB} {R R' : RB}
theorem TwoS.refl (w : World) : TwoS n0 X w w := ⟨fun B _ => Below.refl _ _, fun _ _ _ _ _ h => h, fun _ _ => rfl, Nat.le_refl _⟩
theorem TwoS.trans (h : TwoS n0 X w w') (k : TwoS n0 X w' w'') : TwoS n0 X w w'' :=
  ⟨fun B hB => (h.below B hB).trans (k.below B hB), fun b row t fz ht hb => k.keeps b row t fz ht (h.keeps b row t fz ht hb), fun b hb => (k.out b hb).trans (h.out b hb), Nat.le_trans h.size k.size⟩
theorem TwoS.own (st : TwoS n0 X w w') {B e k n : Nat} {v : Value} {xs : List Value} (he : OT2 e) (h : w.ownsRow B e k v n xs) : w'.ownsRow B e k v n xs :=
  own_kept h fun g eg => by
    obtain ⟨c, fz, h'⟩ := Lib.ownsRow_kind h g eg
    rw [h', st.keeps _ _ _ _ he h']
theorem OT2.int : OT2 3 := by unfold OT2 OT; decide
theorem TwoS.nown (st : TwoS n0 X w w') {B : Nat} {v : Value} {xs : List Int} (h : NOwn w B v xs) : NOwn w' B v xs := st.own OT2.int h
theorem heap_type (h : HeapV n0 w H most l ss) {b : Nat} (hb : H.has b) {row : Array Value} {t : TypeId} {fz : Nat × Nat} (ht : OT t) : w.heap[b]? ≠ some (Obj.cells row t fz) := fun hc => by
  obtain ⟨t1, t2, t3, t4⟩ := ht
  rcases hb with rfl | rfl | e | e | e
  · have := h.box; unfold Blk at this; rw [hc] at this; cases this; exact t1 rfl
  · obtain ⟨es, cl, hm, _⟩ := h.map; rw [hc] at hm; cases hm
  · obtain ⟨c, fz', h'⟩ := Lib.ownsRow_kind h.wo b e; rw [hc] at h'; cases h'; exact t2 rfl
  · obtain ⟨c, fz', h'⟩ := Lib.ownsRow_kind h.bo b e; rw [hc] at h'; cases h'; exact t3 rfl
  · obtain ⟨c, fz', h'⟩ := Lib.ownsRow_kind h.so b e; rw [hc] at h'; cases h'; exact t4 rfl
theorem ref_type (h : RV n0 w R most l ss) {b : Nat} (hb : R.has b) {row : Array Value} {t : TypeId} {fz : Nat × Nat} (ht : OT2 t) : w.heap[b]? ≠ some (Obj.cells row t fz) := fun hc => by
  obtain ⟨⟨t1, t2, t3, t4⟩, t5, t6, t7⟩ := ht
  rcases hb with rfl | e | e | ⟨v, hv, e⟩ | ⟨v, hv, e⟩
  · have := h.box; unfold Blk at this; rw [hc] at this; cases this; exact t5 rfl
  · obtain ⟨c, fz', h'⟩ := Lib.ownsRow_kind h.lo_ b e; rw [hc] at h'; cases h'; exact t6 rfl
  · obtain ⟨c, fz', h'⟩ := Lib.ownsRow_kind h.so b e; rw [hc] at h'; cases h'; exact t7 rfl
  · obtain ⟨i, hi⟩ := List.getElem?_of_mem hv
    have hl := (List.getElem?_eq_some_iff.1 hi).1
    rw [h.fl] at hl
    obtain ⟨c, fz', h'⟩ := Lib.ownsRow_kind (h.fo i v l[i] hi (List.getElem?_eq_getElem hl)) b e; rw [hc] at h'; cases h'; exact t2 rfl
  · obtain ⟨i, hi⟩ := List.getElem?_of_mem hv
    have hl := (List.getElem?_eq_some_iff.1 hi).1
    rw [h.gl] at hl
    obtain ⟨c, fz', h'⟩ := Lib.ownsRow_kind (h.go i v ss[i] hi (List.getElem?_eq_getElem hl)) b e; rw [hc] at h'; cases h'; exact t3 rfl
theorem two_hstep (hh : HeapV n0 w H most l ss) (hr : RV n0 w R most m tt) (hd : ∀ b, H.has b → ¬ R.has b) (hx : ∀ b, X b → b < w.heap.size ∧ ¬ H.has b ∧ ¬ R.has b) (h' : HeapV n0 w' H' most l' ss') (st : HStep H H' w w') :
    TwoV n0 X w' H.hb R.rb most l' ss' m tt ∧ TwoS n0 X w w' := by
  have hsz := st.size
  refine ⟨⟨H', R, st.hb, rfl, h', hr.kept fun b hb => st.block b (hr.lt hb).2 (fun e => hd b e hb), fun b hb hb2 => ?_, fun b hb => ?_⟩, ⟨fun B hB => st.below (by have := hh.lt (.inl rfl); omega) (fun b hb => by have := (hh.lt hb).1; omega), fun b row t fz ht hb => (st.block b (Array.getElem?_eq_some_iff.1 hb).1 (fun e => heap_type hh e ht.1 hb)).trans hb, fun b hb => st.block b (hx b hb).1 (hx b hb).2.1, hsz⟩⟩
  · rcases st.moved b hb with h1 | h1
    · exact hd b h1 hb2
    · have := (hr.lt hb2).2; omega
  · obtain ⟨h1, h2, h3⟩ := hx b hb
    exact ⟨by omega, fun e => by
      rcases st.moved b e with h4 | h4
      · exact h2 h4
      · omega, h3⟩
theorem two_rstep (hh : HeapV n0 w H most l ss) (hr : RV n0 w R most m tt) (hd : ∀ b, H.has b → ¬ R.has b) (hx : ∀ b, X b → b < w.heap.size ∧ ¬ H.has b ∧ ¬ R.has b) (h' : RV n0 w' R' most m' tt') (st : RStep R R' w w') :
    TwoV n0 X w' H.hb R.rb most l ss m' tt' ∧ TwoS n0 X w w' := by
  have hsz := st.size
  have hlo := hr.lt (.inl rfl)
  refine ⟨⟨H, R', rfl, st.rb, hh.kept fun b hb => st.block b (hh.lt hb).2 (hd b hb), h', fun b hb hb2 => ?_, fun b hb => ?_⟩, ⟨fun B hB => ⟨st.os, st.tape, st.output, hsz, fun b hb => st.block b (by omega) (fun e => by have := (hr.lt e).1; omega)⟩, fun b row t fz ht hb => (st.block b (Array.getElem?_eq_some_iff.1 hb).1 (fun e => ref_type hr e ht hb)).trans hb, fun b hb => st.block b (hx b hb).1 (hx b hb).2.2, hsz⟩⟩
  · rcases st.moved b hb2 with h1 | h1
    · exact hd b hb h1
    · have := (hh.lt hb).2; omega
  · obtain ⟨h1, h2, h3⟩ := hx b hb
    exact ⟨by omega, h2, fun e => by
      rcases st.moved b e with h4 | h4
      · exact h3 h4
      · omega⟩
theorem TwoV.below (h : TwoV n0 X w p q most l ss m tt) (hb : Below w.heap.size w w') : TwoV n0 X w' p q most l ss m tt ∧ TwoS n0 X w w' := by
  obtain ⟨H, R, e1, e2, hh, hr, hd, hx⟩ := h
  have hsz := hb.size
  have hlo := hr.lt (.inl rfl)
  exact ⟨⟨H, R, e1, e2, hh.below hb, hr.below hb, hd, fun b k => ⟨by have := (hx b k).1; omega, (hx b k).2⟩⟩, ⟨fun B hB => hb.mono (by omega), fun b row t fz _ k => (hb.block b (Array.getElem?_eq_some_iff.1 k).1).trans k, fun b k => hb.block b (hx b k).1, hsz⟩⟩
/-- Other memory is turned, of a type that neither heap has. -/
theorem TwoV.grown (h : TwoV n0 X w p q most l ss m tt) {B e k n : Nat} {v : Value} {xs : List Value} (he : OT2 e) (ho : w.ownsRow B e k v n xs) (hg : w.grownBy w' v.ownBlock) (hX : ∀ b, X b → v.ownBlock ≠ some b) : TwoV n0 X w' p q most l ss m tt := by
  obtain ⟨H, R, e1, e2, hh, hr, hd, hx⟩ := h
  have key : ∀ b, H.has b ∨ R.has b → v.ownBlock ≠ some b := fun b hb eb => by
    obtain ⟨c, fz, h'⟩ := Lib.ownsRow_kind ho b eb
    rcases hb with hb | hb
    · exact heap_type hh hb he.1 h'
    · exact ref_type hr hb he h'
  exact ⟨H, R, e1, e2, hh.kept fun b hb => hg.block b (hh.lt hb).2 (fun e => key b (.inl hb) e.symm), hr.kept fun b hb => hg.block b (hr.lt hb).2 (fun e => key b (.inr hb) e.symm), hd, fun b hb => ⟨by have := (hx b hb).1; have := hg.size; omega, (hx b hb).2⟩⟩
theorem TwoV.weak {Y : Nat → Prop} (h : TwoV n0 X w p q most l ss m tt) (hy : ∀ b, Y b → X b) : TwoV n0 Y w p q most l ss m tt := by
  obtain ⟨H, R, e1, e2, hh, hr, hd, hx⟩ := h
  exact ⟨H, R, e1, e2, hh, hr, hd, fun b hb => hx b (hy b hb)⟩
theorem TwoV.few (h : TwoV n0 X w p q most l ss m tt) : usedN l ≤ most ∧ most ≤ 16384 ∧ Wf ss l ∧ Wf tt m := by
  obtain ⟨H, R, e1, e2, hh, hr, hd, hx⟩ := h
  exact ⟨hh.few, hh.most, hh.wf, hr.wf⟩

theorem two_shapeH (h : TwoV n0 X w p q most l ss m tt) (v : Value) (r : List Bool) (hv : BView w v r) (hr : r.length ≤ 100000) (hs : ss.length ≤ 100000) : Calls Try.prog 20 #[.pointer (some ⟨p, 0, none⟩), v] w fun e w' => (∃ u, e = .returned u) ∧ TwoV n0 X w' p q most l (addS ss r) m tt ∧ TwoS n0 X w w' := by
  obtain ⟨H, R, rfl, rfl, hh, hr', hd, hx⟩ := h
  cases e : idxS ss r with
  | some i => exact (Shape_old hh v r hv hr i e).mono fun _ w' ⟨e1, e2⟩ => ⟨⟨_, e1⟩, by unfold addS; rw [e]; exact TwoV.below ⟨H, R, rfl, rfl, hh, hr', hd, hx⟩ e2⟩
  | none => exact (Shape_new hh v r hv hr hs e).mono fun _ w' ⟨e1, H', e2, e3⟩ => ⟨⟨_, e1⟩, two_hstep hh hr' hd hx e2 e3⟩
theorem two_shapeR (h : TwoV n0 X w p q most l ss m tt) (v : Value) (r : List Bool) (hv : BView w v r) (hr : r.length ≤ 100000) (hs : tt.length ≤ 100000) : Calls Try.prog 21 #[.pointer (some ⟨q, 0, none⟩), v] w fun e w' => (∃ u, e = .returned u) ∧ TwoV n0 X w' p q most l ss m (addS tt r) ∧ TwoS n0 X w w' := by
  obtain ⟨H, R, rfl, rfl, hh, hr', hd, hx⟩ := h
  exact (ushape_any hr' v r hv hr hs).mono fun _ w' ⟨e1, R', e2, e3⟩ => ⟨⟨_, e1⟩, two_rstep hh hr' hd hx e2 e3⟩
theorem two_arrayH (h : TwoV n0 X w p q most l ss m tt) (refs : Bool) (n : Nat) (hn : n ≤ 256) (hf : usedN l + (n + 3) ≤ most) : Calls Try.prog 22 #[.pointer (some ⟨p, 0, none⟩), .bool refs, .int .i64 (n : Int)] w fun e w' => e = .returned (.tuple #[.int .i64 ((usedN l : Int) + 1), .int .i64 0]) ∧ TwoV n0 X w' p q most (l ++ [⟨arrS refs, 0, List.replicate n 0⟩]) ss m tt ∧ TwoS n0 X w w' := by
  obtain ⟨H, R, rfl, rfl, hh, hr', hd, hx⟩ := h
  exact (Array_any hh refs n hn hf).mono fun _ w' ⟨e1, H', e2, e3⟩ => ⟨e1, two_hstep hh hr' hd hx e2 e3⟩
theorem two_arrayR (h : TwoV n0 X w p q most l ss m tt) (refs : Bool) (n : Nat) (hn : n ≤ 256) (hf : usedN m + (n + 3) ≤ most) : Calls Try.prog 23 #[.pointer (some ⟨q, 0, none⟩), .bool refs, .int .i64 (n : Int)] w fun e w' => (∃ u, e = .returned u) ∧ TwoV n0 X w' p q most l ss (m ++ [⟨arrS refs, 0, List.replicate n 0⟩]) tt ∧ TwoS n0 X w w' := by
  obtain ⟨H, R, rfl, rfl, hh, hr', hd, hx⟩ := h
  exact (uarray_any hr' refs n hn hf).mono fun _ w' ⟨e1, R', e2, e3⟩ => ⟨⟨_, e1⟩, two_rstep hh hr' hd hx e2 e3⟩
theorem two_objectH (h : TwoV n0 X w p q most l ss m tt) (s : Nat) (r : List Bool) (hr : ss[s]? = some r) (hn : r.length ≤ 100000) (hf : usedN l + (r.length + 3) ≤ most) : Calls Try.prog 24 #[.pointer (some ⟨p, 0, none⟩), .int .i64 (s : Int)] w fun e w' => e = .returned (.tuple #[.int .i64 ((usedN l : Int) + 1), .int .i64 0]) ∧ TwoV n0 X w' p q most (l ++ [⟨(s : Int), 0, List.replicate r.length 0⟩]) ss m tt ∧ TwoS n0 X w w' := by
  obtain ⟨H, R, rfl, rfl, hh, hr', hd, hx⟩ := h
  exact (Object_any hh s r hr hn hf).mono fun _ w' ⟨e1, H', e2, e3⟩ => ⟨e1, two_hstep hh hr' hd hx e2 e3⟩
theorem two_objectR (h : TwoV n0 X w p q most l ss m tt) (s : Nat) (r : List Bool) (hr : tt[s]? = some r) (hn : r.length ≤ 100000) (hf : usedN m + (r.length + 3) ≤ most) : Calls Try.prog 25 #[.pointer (some ⟨q, 0, none⟩), .int .i64 (s : Int)] w fun e w' => (∃ u, e = .returned u) ∧ TwoV n0 X w' p q most l ss (m ++ [⟨(s : Int), 0, List.replicate r.length 0⟩]) tt ∧ TwoS n0 X w w' := by
  obtain ⟨H, R, rfl, rfl, hh, hr', hd, hx⟩ := h
  exact (uobject_any hr' s r hr hn hf).mono fun _ w' ⟨e1, R', e2, e3⟩ => ⟨⟨_, e1⟩, two_rstep hh hr' hd hx e2 e3⟩
theorem two_tagH (h : TwoV n0 X w p q most l ss m tt) (v x : Int) (o : Ob) (e : objZ l v = some o) : Calls Try.prog 16 #[.pointer (some ⟨p, 0, none⟩), .int .i64 v, .int .i64 x] w fun e w' => (∃ u, e = .returned u) ∧ TwoV n0 X w' p q most (setTagL l v x) ss m tt ∧ TwoS n0 X w w' := by
  obtain ⟨H, R, rfl, rfl, hh, hr', hd, hx⟩ := h
  exact (SetTag_yes hh v x o e).mono fun _ w' ⟨e1, e2, e3⟩ => ⟨⟨_, e1⟩, two_hstep hh hr' hd hx e2 e3⟩
theorem two_tagR (h : TwoV n0 X w p q most l ss m tt) (v x : Int) (o : Ob) (e : objZ m v = some o) : Calls Try.prog 26 #[.pointer (some ⟨q, 0, none⟩), .int .i64 v, .int .i64 x] w fun e w' => (∃ u, e = .returned u) ∧ TwoV n0 X w' p q most l ss (setTagL m v x) tt ∧ TwoS n0 X w w' := by
  obtain ⟨H, R, rfl, rfl, hh, hr', hd, hx⟩ := h
  exact (utag_yes hr' v x o e).mono fun _ w' ⟨e1, e2, e3⟩ => ⟨⟨_, e1⟩, two_rstep hh hr' hd hx e2 e3⟩
theorem two_setH (h : TwoV n0 X w p q most l ss m tt) (v n x : Int) (hn : hasZ l v n = true) (hf : fitZ ss l v n x = true) : Calls Try.prog 29 #[.pointer (some ⟨p, 0, none⟩), .int .i64 v, .int .i64 n, .int .i64 x] w fun e w' => (∃ u, e = .returned u) ∧ TwoV n0 X w' p q most (setL l v n x) ss m tt ∧ TwoS n0 X w w' := by
  obtain ⟨H, R, rfl, rfl, hh, hr', hd, hx⟩ := h
  exact (Set_yes hh v n x hn hf).mono fun _ w' ⟨e1, e2, e3⟩ => ⟨⟨_, e1⟩, two_hstep hh hr' hd hx e2 e3⟩
theorem two_setR (h : TwoV n0 X w p q most l ss m tt) (v n x : Int) (hn : hasZ m v n = true) (hf : fitZ tt m v n x = true) : Calls Try.prog 30 #[.pointer (some ⟨q, 0, none⟩), .int .i64 v, .int .i64 n, .int .i64 x] w fun e w' => (∃ u, e = .returned u) ∧ TwoV n0 X w' p q most l ss (setL m v n x) tt ∧ TwoS n0 X w w' := by
  obtain ⟨H, R, rfl, rfl, hh, hr', hd, hx⟩ := h
  exact (uset_yes hr' v n x hn hf).mono fun _ w' ⟨e1, e2, e3⟩ => ⟨⟨_, e1⟩, two_rstep hh hr' hd hx e2 e3⟩
theorem two_lenR (h : TwoV n0 X w p q most l ss m tt) (v : Int) : Calls Try.prog 27 #[.pointer (some ⟨q, 0, none⟩), .int .i64 v] w fun e w' => e = .returned (.int .i64 (lenZ m v)) ∧ w' = w := by
  obtain ⟨H, R, rfl, rfl, hh, hr', hd, hx⟩ := h
  exact ulen_any hr' v
theorem below_drewQ (w : World) (k : Nat) : Below w.heap.size w (w.drewN k) := below_drewN (Below.refl _ w) k
theorem two_isrefR (h : TwoV n0 X w p q most l ss m tt) (v n : Int) (hn : hasZ m v n = true) : Calls Try.prog 28 #[.pointer (some ⟨q, 0, none⟩), .int .i64 v, .int .i64 n] w fun e w' => e = .returned (.bool (refZ tt m v n)) ∧ TwoV n0 X w' p q most l ss m tt ∧ TwoS n0 X w w' := by
  have h0 := h
  obtain ⟨H, R, rfl, rfl, hh, hr', hd, hx⟩ := h
  exact (uisref_yes hr' v n hn).mono fun _ w' ⟨e1, k, e2⟩ => ⟨e1, by subst e2; exact h0.below (below_drewQ w k)⟩
theorem two_new (mo : Nat) (h1 : 1 ≤ mo) (h2 : mo ≤ 16384) {w0 : World} (hH : HeapV w0.heap.size w H mo [] []) (hb : Below w0.heap.size w0 w) : Calls Try.prog 19 #[.int .i64 (mo : Int)] w fun e w' => ∃ q, e = .returned (.pointer (some ⟨q, 0, none⟩)) ∧ TwoV w0.heap.size (fun _ => False) w' H.hb q mo [] [] [] [] ∧ Below w0.heap.size w0 w' :=
  (unew_any mo h2 w).mono fun e w' ⟨R, e1, e2, e3⟩ => by
    have hz := hb.size
    refine ⟨R.rb, e1, ⟨H, R, rfl, rfl, hH.below e3, ⟨by have := e2.lo; omega, e2.box, own_wk e2.lo_ hz, e2.fl, fun i v o hv ho => own_wk (e2.fo i v o hv ho) hz, own_wk e2.so hz, fun i v r hv hr => own_wk (e2.go i v r hv hr) hz, e2.ap, e2.wf, e2.few, e2.most⟩, fun b hb1 hb2 => ?_, fun b hb => hb.elim⟩, hb.trans (e3.mono hz)⟩
    have := (hH.lt hb1).2
    have := (e2.lt hb2).1
    omega
end Go.Proofs.Ytbdeflpjplhafaa.J

