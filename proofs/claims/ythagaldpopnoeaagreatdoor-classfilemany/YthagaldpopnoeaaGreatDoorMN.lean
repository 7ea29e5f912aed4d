/- Many: walked. -/
import Derived.Test.YthagaldpopnoeaaGreatDoorYK
import Derived.Test.YthagaldpopnoeaaGreatDoorMP
namespace Go.Proofs.YthagaldpopnoeaaGreatDoor
open Go.RowKit D

theorem Tryz.info63 : (Tryz.prog.info? 63).map (fun i => (i.zero, i.size, i.bytes)) = some (some (.agg #[.string ⟨#[]⟩, .string ⟨#[]⟩, .bool false]), 3, 40) := by kernel_rfl
theorem Tryz.info26 : (Tryz.prog.info? 26).map (fun i => (i.zero, i.size, i.bytes)) = some (some (.agg #[.string ⟨#[]⟩, .string ⟨#[]⟩, .bool false, .bool false, .int .i64 0, .int .i64 0, .slice none 0 0, .slice none 0 0, .slice none 0 0]), 9, 128) := by kernel_rfl
def boxK (v1 v2 : Value) : Obj := .cells #[.string ⟨#[65]⟩, .string ⟨#[]⟩, .slice none 0 0, v1, v2] 33
/-- The two classes as the loop makes them. -/
structure Made (w wr : World) (fv mv : Value) (fs : List FD) (ms : List MD) : Prop where
  bel : Below w.heap.size w wr
  b1 : wr.heap[w.heap.size]? = some (boxK fv (.slice none 0 0))
  b2 : wr.heap[w.heap.size + 1]? = some (boxK (.slice none 0 0) mv)
  of : wr.ownsRow (w.heap.size + 2) 63 3 fv fs.length (fs.flatMap frow)
  om : wr.ownsRow (w.heap.size + 2) 26 9 mv ms.length (ms.flatMap mrow0)

theorem letter_i32 (k : Nat) (h : k ≤ 17) (w : World) : (convert 3 21 (.int .i64 (97 + (k : Int)))).run Tryz.prog w = .ok (.int .i32 (97 + (k : Int))) w := by
  simp only [convert, Sem.run_bind, run_underlying Tryz.underlying3, run_underlying Tryz.underlying21, Result.andThen_ok]
  simp only [Conv.intToInt, Sem.run_pure]
  rw [IntKind.wrap_i32, show (97 + (k : Int) + 2147483648) % 4294967296 - 2147483648 = 97 + k by omega]
theorem letter_str (k : Nat) (h : k ≤ 17) (w : World) : (convert 21 9 (.int .i32 (97 + (k : Int)))).run Tryz.prog w = .ok (.string ⟨#[UInt8.ofNat (97 + k)]⟩) w := by
  simp only [convert, Sem.run_bind, run_underlying Tryz.underlying21, run_underlying Tryz.underlying9, Result.andThen_ok]
  simp only [Conv.intToString, Sem.run_pure]
  have e : ∀ j : Fin 18, Utf8.encode (97 + (j.val : Int)) = ⟨#[UInt8.ofNat (97 + j.val)]⟩ := by decide
  rw [show Utf8.encode (97 + (k : Int)) = ⟨#[UInt8.ofNat (97 + k)]⟩ from e ⟨k, by omega⟩]
theorem cell_new_at {w : World} {cur : Array Value} {T : TypeId} {b j : Nat} {u : Value} (hb : b = w.heap.size) (h : cur[j]? = some u) : (w.alloc (.cells cur T)).cell? (Addr.add ⟨b, 0, none⟩ j) = some u := by
  subst hb
  have e : Addr.add ⟨w.heap.size, 0, none⟩ j = ⟨w.heap.size, j, none⟩ := by unfold Addr.add; split <;> simp_all
  rw [e]
  exact cell_row (heap_alloc_new w (.cells cur T)) j h
theorem own_types {w : World} {B B' e e' s s' n n' : Nat} {v v' : Value} {xs xs' : List Value} (h : w.ownsRow B e s v n xs) (h' : w.ownsRow B' e' s' v' n' xs') (hne : e ≠ e') : ∀ g, v.ownBlock = some g → v'.ownBlock ≠ some g := by
  intro g hg hg'
  rcases h.2 with ⟨rfl, _⟩ | ⟨g1, _, _, rfl, _, h1, _⟩
  · cases hg
  · rcases h'.2 with ⟨rfl, _⟩ | ⟨g2, _, _, rfl, _, h2, _⟩
    · cases hg'
    · cases hg; cases hg'
      rw [h1] at h2
      cases h2
      exact hne rfl
/-- A row stands where its block does. -/
theorem own_block {w w' : World} {B e s n : Nat} {v : Value} {xs : List Value} (h : w.ownsRow B e s v n xs) (hb : ∀ g, v.ownBlock = some g → B ≤ g → g < w.heap.size → w'.heap[g]? = w.heap[g]?) : w'.ownsRow B e s v n xs := by
  refine ⟨h.1, ?_⟩
  rcases h.2 with x | ⟨g, cap, cur, rfl, hB, hg, r⟩
  · exact .inl x
  · exact .inr ⟨g, cap, cur, rfl, hB, (hb g rfl hB (Array.getElem?_eq_some_iff.1 hg).1).trans hg, r⟩
theorem own_some {w : World} {B T s n n' cap : Nat} {ao : Option Addr} {xs : List Value} (h : w.ownsRow B T s (.slice ao n cap) n' xs) (hn : 0 < n') : ∃ g, ao = some ⟨g, 0, none⟩ := by
  rcases h.2 with ⟨_, e⟩ | ⟨g, _, _, e, _⟩
  · omega
  · cases e; exact ⟨g, rfl⟩
theorem own_cell {α : Type} {k : Nat} {row : α → List Value} (hk : ∀ x, (row x).length = k) {w : World} {B T g n cap : Nat} {l : List α} (h : w.ownsRow B T k (.slice (some ⟨g, 0, none⟩) n cap) l.length (l.flatMap row)) {j : Nat} {x : α} (hx : l[j]? = some x) {i : Nat} {u : Value} (hu : (row x)[i]? = some u) :
    w.cell? ⟨g, j * k + i, none⟩ = some u ∧ w.frozen? ⟨g, j * k + i, none⟩ = false := by
  rcases h.2 with ⟨e, _⟩ | ⟨g', cap', cur, e, hB, hg, hc, hm, hs, ht⟩
  · cases e
  · cases e
    have hi : i < k := by rw [← hk x]; exact (List.getElem?_eq_some_iff.1 hu).1
    have h1 := flatR_get row k hk l j x i hx hi
    rw [← ht, List.getElem?_take] at h1
    have hj : j < l.length := (List.getElem?_eq_some_iff.1 hx).1
    have hlt : j * k + i < l.length * k := by
      have : (j + 1) * k ≤ l.length * k := Nat.mul_le_mul_right k hj
      rw [Nat.succ_mul] at this; omega
    rw [if_pos hlt, hu] at h1
    exact ⟨cell_row hg (j * k + i) (by simpa using h1), frozen_row hg _⟩
theorem fsN_size (n : Nat) : ∀ x ∈ fsN n, x.nm.size ≤ 9223372036854775807 ∧ x.ds.size ≤ 9223372036854775807 := fun x hx => by
  simp only [fsN, List.mem_map] at hx
  obtain ⟨j, _, rfl⟩ := hx
  exact ⟨by show (2 : Nat) ≤ _; omega, by show (1 : Nat) ≤ _; omega⟩
theorem msN_size (n : Nat) : ∀ x ∈ msN n, x.nm.size ≤ 9223372036854775807 ∧ x.ds.size ≤ 9223372036854775807 ∧ x.code = [] ∧ x.hs = [] ∧ x.rs = [] := fun x hx => by
  simp only [msN, List.mem_map] at hx
  obtain ⟨j, _, rfl⟩ := hx
  exact ⟨by show (2 : Nat) ≤ _; omega, by show (3 : Nat) ≤ _; omega, rfl, rfl, rfl⟩
theorem fsS_size (n k : Nat) : ∀ x ∈ fsS n k, x.nm.size ≤ 9223372036854775807 ∧ x.ds.size ≤ 9223372036854775807 := fun x hx => by
  rcases List.mem_append.1 hx with h | h
  · exact fsN_size _ x h
  · obtain rfl := List.mem_singleton.1 h; exact ⟨by show (2 : Nat) ≤ _; omega, by show (1 : Nat) ≤ _; omega⟩
theorem fsT_size (n k : Nat) : ∀ x ∈ fsT n k, x.nm.size ≤ 9223372036854775807 ∧ x.ds.size ≤ 9223372036854775807 := fun x hx => by
  rcases List.mem_append.1 hx with h | h
  · exact fsN_size _ x h
  · obtain rfl := List.mem_singleton.1 h; exact ⟨by show (2 : Nat) ≤ _; omega, by show (2 : Nat) ≤ _; omega⟩
theorem msS_size (n k : Nat) : ∀ x ∈ msS n k, x.nm.size ≤ 9223372036854775807 ∧ x.ds.size ≤ 9223372036854775807 ∧ x.code = [] ∧ x.hs = [] ∧ x.rs = [] := fun x hx => by
  rcases List.mem_append.1 hx with h | h
  · exact msN_size _ x h
  · obtain rfl := List.mem_singleton.1 h; exact ⟨by show (2 : Nat) ≤ _; omega, by show (3 : Nat) ≤ _; omega, rfl, rfl, rfl⟩
theorem msT_size (n k : Nat) : ∀ x ∈ msT n k, x.nm.size ≤ 9223372036854775807 ∧ x.ds.size ≤ 9223372036854775807 ∧ x.code = [] ∧ x.hs = [] ∧ x.rs = [] := fun x hx => by
  rcases List.mem_append.1 hx with h | h
  · exact msN_size _ x h
  · obtain rfl := List.mem_singleton.1 h; exact ⟨by show (2 : Nat) ≤ _; omega, by show (3 : Nat) ≤ _; omega, rfl, rfl, rfl⟩
theorem fsS_last (n k i : Nat) (h : n = i + 1) : (fsS n k)[i]? = some ⟨nmB 102 k, ⟨#[73]⟩, false⟩ := by
  subst h
  rw [fsS, List.getElem?_append_right (by rw [fsN_len]; omega), fsN_len]; simp
theorem msS_last (n k i : Nat) (h : n = i + 1) : (msS n k)[i]? = some ⟨nmB 109 k, ⟨#[40, 41, 86]⟩, false, false, 0, 0, [], [], []⟩ := by
  subst h
  rw [msS, List.getElem?_append_right (by rw [msN_len]; omega), msN_len]; simp
theorem fsN_get {n i : Nat} (h : i < n) : (fsN n)[i]? = some (mF i) := by simp [fsN, h]
theorem msN_get {n i : Nat} (h : i < n) : (msN n)[i]? = some (mM i) := by simp [msN, h]
theorem Made.below {w wr w' : World} {fv mv : Value} {fs : List FD} {ms : List MD} (h : Made w wr fv mv fs ms) (hb : Below wr.heap.size wr w') : Made w w' fv mv fs ms :=
  ⟨next h.bel hb, (hb.block _ (Array.getElem?_eq_some_iff.1 h.b1).1).trans h.b1, (hb.block _ (Array.getElem?_eq_some_iff.1 h.b2).1).trans h.b2, gown_below h.of hb, gown_below h.om hb⟩
theorem below_set {B : Nat} {w w' : World} (h : Below B w w') (g j : Nat) (u : Value) (hg : B ≤ g) : Below B w (w'.setCell ⟨g, j, none⟩ u) :=
  ⟨h.os, h.tape, h.output, by simpa using h.size, fun i hi => by rw [Below.heap_setCell _ _ _ _ (show i ≠ g by omega)]; exact h.block i hi⟩
theorem Made.fstep {w wr w7 : World} {fv mv v7 : Value} {fs : List FD} {ms : List MD} (h : Made w wr fv mv fs ms) (x : FD) (o : Obj) (g7 : (wr.alloc o).grownBy w7 fv.ownBlock)
    (o7 : w7.ownsRow (w.heap.size + 2) 63 3 v7 (fs.length + 1) (fs.flatMap frow ++ frow x)) : Made w (w7.setCell ⟨w.heap.size, 3, none⟩ v7) v7 mv (fs ++ [x]) ms := by
  have z := h.bel.size
  have l1 := (Array.getElem?_eq_some_iff.1 h.b1).1
  have l2 := (Array.getElem?_eq_some_iff.1 h.b2).1
  have hn : ∀ k, k < w.heap.size + 2 → some k ≠ fv.ownBlock := fun k hk e => by have := (h.of.lt k e.symm).1; omega
  have hk : ∀ k, k < wr.heap.size → some k ≠ fv.ownBlock → w7.heap[k]? = wr.heap[k]? := fun k hk hne => (g7.block k (by simp; omega) hne).trans (heap_alloc_old wr _ (by omega))
  have c1 := (hk _ l1 (hn _ (by omega))).trans h.b1
  refine ⟨below_set ⟨g7.os.trans h.bel.os, g7.tape.trans h.bel.tape, g7.output.trans h.bel.output, ?_, ?_⟩ _ _ _ (Nat.le_refl _), ?_, ?_, ?_, ?_⟩
  · have := g7.size; rw [show (wr.alloc o).heap.size = wr.heap.size + 1 by simp] at this; omega
  · intro i hi; rw [hk i (by omega) (hn i (by omega))]; exact h.bel.block i hi
  · unfold boxK at c1 ⊢; exact gset_row (j := 3) (u := v7) c1
  · rw [Below.heap_setCell _ _ _ _ (show w.heap.size + 1 ≠ w.heap.size by omega), hk _ l2 (hn _ (by omega))]; exact h.b2
  · rw [List.length_append, List.flatMap_append]
    have : w7.ownsRow (w.heap.size + 2) 63 3 v7 (fs.length + [x].length) (fs.flatMap frow ++ [x].flatMap frow) := by simpa using o7
    exact own_block this fun g _ hg _ => Below.heap_setCell _ _ _ _ (by dsimp only; omega)
  · exact own_block h.om fun g hg hB hlt => by
      rw [Below.heap_setCell _ _ _ _ (show g ≠ w.heap.size by omega)]
      exact hk g hlt fun e => own_types h.om h.of (by decide) g hg e.symm
theorem Made.fbox {w wr w7 : World} {fv mv : Value} {fs : List FD} {ms : List MD} (h : Made w wr fv mv fs ms) (o : Obj) (g7 : (wr.alloc o).grownBy w7 fv.ownBlock) : w7.cell? ⟨w.heap.size, 3, none⟩ = some fv ∧ ∀ x, w7.frozen? ⟨w.heap.size, x, none⟩ = false := by
  have l1 := (Array.getElem?_eq_some_iff.1 h.b1).1
  have c1 := ((g7.block w.heap.size (by simp; omega) (fun e => by have := (h.of.lt _ e.symm).1; omega)).trans (heap_alloc_old wr _ (by omega))).trans h.b1
  exact ⟨cell_row c1 3 rfl, fun x => frozen_row c1 x⟩
theorem Made.mbox {w wr w7 : World} {fv mv : Value} {fs : List FD} {ms : List MD} (h : Made w wr fv mv fs ms) (o : Obj) (g7 : (wr.alloc o).grownBy w7 mv.ownBlock) : w7.cell? ⟨w.heap.size + 1, 4, none⟩ = some mv ∧ ∀ x, w7.frozen? ⟨w.heap.size + 1, x, none⟩ = false := by
  have l1 := (Array.getElem?_eq_some_iff.1 h.b2).1
  have c1 := ((g7.block (w.heap.size + 1) (by simp; omega) (fun e => by have := (h.om.lt _ e.symm).1; omega)).trans (heap_alloc_old wr _ (by omega))).trans h.b2
  exact ⟨cell_row c1 4 rfl, fun x => frozen_row c1 x⟩
theorem Made.mstep {w wr w7 : World} {fv mv v7 : Value} {fs : List FD} {ms : List MD} (h : Made w wr fv mv fs ms) (x : MD) (o : Obj) (g7 : (wr.alloc o).grownBy w7 mv.ownBlock)
    (o7 : w7.ownsRow (w.heap.size + 2) 26 9 v7 (ms.length + 1) (ms.flatMap mrow0 ++ mrow0 x)) : Made w (w7.setCell ⟨w.heap.size + 1, 4, none⟩ v7) fv v7 fs (ms ++ [x]) := by
  have z := h.bel.size
  have l1 := (Array.getElem?_eq_some_iff.1 h.b1).1
  have l2 := (Array.getElem?_eq_some_iff.1 h.b2).1
  have hn : ∀ k, k < w.heap.size + 2 → some k ≠ mv.ownBlock := fun k hk e => by have := (h.om.lt k e.symm).1; omega
  have hk : ∀ k, k < wr.heap.size → some k ≠ mv.ownBlock → w7.heap[k]? = wr.heap[k]? := fun k hk hne => (g7.block k (by simp; omega) hne).trans (heap_alloc_old wr _ (by omega))
  have c2 := (hk _ l2 (hn _ (by omega))).trans h.b2
  refine ⟨below_set ⟨g7.os.trans h.bel.os, g7.tape.trans h.bel.tape, g7.output.trans h.bel.output, ?_, ?_⟩ _ _ _ (by omega), ?_, ?_, ?_, ?_⟩
  · have := g7.size; rw [show (wr.alloc o).heap.size = wr.heap.size + 1 by simp] at this; omega
  · intro i hi; rw [hk i (by omega) (hn i (by omega))]; exact h.bel.block i hi
  · rw [Below.heap_setCell _ _ _ _ (show w.heap.size ≠ w.heap.size + 1 by omega), hk _ l1 (hn _ (by omega))]; exact h.b1
  · unfold boxK at c2 ⊢; exact gset_row (j := 4) (u := v7) c2
  · exact own_block h.of fun g hg hB hlt => by
      rw [Below.heap_setCell _ _ _ _ (show g ≠ w.heap.size + 1 by omega)]
      exact hk g hlt fun e => own_types h.of h.om (by decide) g hg e.symm
  · rw [List.length_append, List.flatMap_append]
    have : w7.ownsRow (w.heap.size + 2) 26 9 v7 (ms.length + [x].length) (ms.flatMap mrow0 ++ [x].flatMap mrow0) := by simpa using o7
    exact own_block this fun g _ hg _ => Below.heap_setCell _ _ _ _ (by dsimp only; omega)
theorem own_set {α : Type} {k : Nat} {row : α → List Value} (hk : ∀ x, (row x).length = k) {w : World} {B T g n cap : Nat} {l : List α} {x : α} (y : α) (i : Nat) (u : Value)
    (h : w.ownsRow B T k (.slice (some ⟨g, 0, none⟩) n cap) (l ++ [x]).length ((l ++ [x]).flatMap row)) (hy : row y = (row x).set i u) :
    (w.setCell ⟨g, l.length * k + i, none⟩ u).ownsRow B T k (.slice (some ⟨g, 0, none⟩) n cap) (l ++ [y]).length ((l ++ [y]).flatMap row) := by
  have hl : (l ++ [y]).length = (l ++ [x]).length := by simp
  refine ⟨flatR_len row k hk _, .inr ?_⟩
  rcases h.2 with ⟨e, _⟩ | ⟨g', cap', cur, e, hB, hg, hc, hm, hs, ht⟩
  · cases e
  · cases e
    exact ⟨g, cap, cur.setIfInBounds (l.length * k + i) u, by rw [hl], hB, gset_row hg, by rw [hl]; exact hc, hm, by rw [Array.size_setIfInBounds]; exact hs, take_set_last hk ht hy⟩
theorem Made.fset {w wr : World} {mv : Value} {g n cap : Nat} {l : List FD} {x : FD} {ms : List MD} (h : Made w wr (.slice (some ⟨g, 0, none⟩) n cap) mv (l ++ [x]) ms) (y : FD) (i : Nat) (u : Value) (hy : frow y = (frow x).set i u) :
    Made w (wr.setCell ⟨g, l.length * 3 + i, none⟩ u) (.slice (some ⟨g, 0, none⟩) n cap) mv (l ++ [y]) ms := by
  have hg := (h.of.lt g rfl).1
  exact ⟨below_set h.bel _ _ _ (by omega), by rw [Below.heap_setCell _ _ _ _ (by dsimp only; omega)]; exact h.b1, by rw [Below.heap_setCell _ _ _ _ (by dsimp only; omega)]; exact h.b2, own_set frow_len y i u h.of hy,
    own_block h.om fun k hk _ _ => Below.heap_setCell _ _ _ _ fun e => own_types h.om h.of (by decide) k hk (by rw [e]; rfl)⟩
theorem Made.mset {w wr : World} {fv : Value} {g n cap : Nat} {l : List MD} {x : MD} {fs : List FD} (h : Made w wr fv (.slice (some ⟨g, 0, none⟩) n cap) fs (l ++ [x])) (y : MD) (i : Nat) (u : Value) (hy : mrow0 y = (mrow0 x).set i u) :
    Made w (wr.setCell ⟨g, l.length * 9 + i, none⟩ u) fv (.slice (some ⟨g, 0, none⟩) n cap) fs (l ++ [y]) := by
  have hg := (h.om.lt g rfl).1
  exact ⟨below_set h.bel _ _ _ (by omega), by rw [Below.heap_setCell _ _ _ _ (by dsimp only; omega)]; exact h.b1, by rw [Below.heap_setCell _ _ _ _ (by dsimp only; omega)]; exact h.b2,
    own_block h.of fun k hk _ _ => Below.heap_setCell _ _ _ _ fun e => own_types h.of h.om (by decide) k hk (by rw [e]; rfl), own_set mrow0_len y i u h.om hy⟩
/-- The class of fields, the class of methods, as they lie in their boxes. -/
theorem Made.fclass {w wr : World} {fv mv : Value} {fs : List FD} {ms : List MD} (h : Made w wr fv mv fs ms) (hs : ∀ f ∈ fs, f.nm.size ≤ 9223372036854775807 ∧ f.ds.size ≤ 9223372036854775807) :
    ClassV wr (.agg #[.string ⟨#[65]⟩, .string ⟨#[]⟩, .slice none 0 0, fv, .slice none 0 0]) (kC fs) := by
  obtain ⟨ao, cap, rfl, hl⟩ := LAt.of_own (R := FieldR) frow_len h.of (fun x hx => frow_R (hs x hx).1 (hs x hx).2)
  exact ⟨none, 0, ao, cap, none, 0, rfl, by simp [kC, ByteArray.size], by simp [kC, ByteArray.size], LAt.nil _ _ _ _ _ (Nat.zero_le _), hl, LAt.nil _ _ _ _ _ (Nat.zero_le _)⟩
theorem Made.mclass {w wr : World} {fv mv : Value} {fs : List FD} {ms : List MD} (h : Made w wr fv mv fs ms) (hs : ∀ f ∈ ms, f.nm.size ≤ 9223372036854775807 ∧ f.ds.size ≤ 9223372036854775807 ∧ f.code = [] ∧ f.hs = [] ∧ f.rs = []) :
    ClassV wr (.agg #[.string ⟨#[65]⟩, .string ⟨#[]⟩, .slice none 0 0, .slice none 0 0, mv]) (kM ms) := by
  obtain ⟨ao, cap, rfl, hl⟩ := LAt.of_own (R := MethR) mrow0_len h.om (fun x hx => mrow0_R (hs x hx).1 (hs x hx).2.1 (hs x hx).2.2.1 (hs x hx).2.2.2.1 (hs x hx).2.2.2.2)
  exact ⟨none, 0, none, 0, ao, cap, rfl, by simp [kM, ByteArray.size], by simp [kM, ByteArray.size], LAt.nil _ _ _ _ _ (Nat.zero_le _), LAt.nil _ _ _ _ _ (Nat.zero_le _), hl⟩
theorem fsN_succ (n : Nat) : fsN (n + 1) = fsN n ++ [mF n] := by simp [fsN, List.range_succ]
theorem msN_succ (n : Nat) : msN (n + 1) = msN n ++ [mM n] := by simp [msN, List.range_succ]
theorem nmB_size (a : UInt8) (i : Nat) : (nmB a i).size = 2 := rfl

set_option maxRecDepth 8000 in
set_option maxHeartbeats 4000000 in
theorem many_any (n same : Int) (w : World) (hT : Tabs w) (h2 : 2 ≤ w.heap.size) : Calls Tryz.prog 8 #[.int .i64 n, .int .i64 same] w fun e w' => e = .returned (.bool true) ∧ Below w.heap.size w w' := by
  obtain ⟨i0, hi, hz0, hz1, hz2⟩ := info_parts Tryz.info63
  obtain ⟨j0, hj, hy0, hy1, hy2⟩ := info_parts Tryz.info26
  have hW := D.hidIt (within_any n 18 (by decide) w)
  rw [show ((18 : Nat) : Int) = 18 from rfl] at hW
  go_enter Tryz.func8, Tryz.ntmps8
  go_wp2_with fail
  refine hW.out.mono ?_
  rintro e w' ⟨⟨m, hm, rfl⟩, hww⟩; cases hww
  clear hW
  have start : Made w ((w.alloc (boxK (.slice none 0 0) (.slice none 0 0))).alloc (boxK (.slice none 0 0) (.slice none 0 0))) (.slice none 0 0) (.slice none 0 0) [] [] := by
    refine ⟨next (balloc _ _) (balloc _ _), ?_, ?_, World.ownsRow_nil _ _ _ _, World.ownsRow_nil _ _ _ _⟩
    · rw [Below.heap_alloc _ _ _ (by simp)]; exact heap_alloc_new _ _
    · have := heap_alloc_new (w.alloc (boxK (.slice none 0 0) (.slice none 0 0))) (boxK (.slice none 0 0) (.slice none 0 0))
      simpa using this
  have ST := D.hidIt start
  unfold boxK at ST
  clear start
  go_wp2_with fail
  go_loopw [7] (fun iv wr => ∃ (k : Nat) (fv mv : Value), k ≤ m ∧ iv = .int .i64 (k : Int) ∧ Hid (Made w wr fv mv (fsN k) (msN k))) (fun iv _ => m - (intOf iv).toNat)
  case atStart => exact ⟨0, _, _, by omega, rfl, ST.out⟩
  case round =>
    clear ST
    obtain ⟨k, fv, mv, hk, rfl, HM⟩ := hrel
    have c3 : wr.cell? ⟨w.heap.size, 3, none⟩ = some fv := cell_row HM.out.b1 3 rfl
    have c4 : wr.cell? ⟨w.heap.size + 1, 4, none⟩ = some mv := cell_row HM.out.b2 4 rfl
    have lf : (fsN k).length = k := fsN_len k
    have lm : (msN k).length = k := msN_len k
    by_cases hlt : k < m
    · have hlt' : (k : Int) < (m : Int) := by omega
      have of := HM.out.of
      rw [lf] at of
      have hk17 : (k : Int) ≤ 17 := by omega
      have q1 := letter_i32 k (by omega)
      have q2 := letter_str k (by omega)
      have HL : Hid (frow (mF k) = [.string ⟨#[102, UInt8.ofNat (97 + k)]⟩, .string ⟨#[73]⟩, .bool false] ∧ mrow0 (mM k) = [.string ⟨#[109, UInt8.ofNat (97 + k)]⟩, .string ⟨#[40, 41, 86]⟩, .bool false, .bool false, .int .i64 0, .int .i64 0, .slice none 0 0, .slice none 0 0, .slice none 0 0]) := ⟨rfl, rfl⟩
      generalize UInt8.ofNat (97 + k) = lt at q2 HL
      have zr := HM.out.bel.size
      have l2 := (Array.getElem?_eq_some_iff.1 HM.out.b2).1
      clear lf lm c4
      go_wp2_with (at_builtin; refine wpList_append_own_at _ rfl _ _ 30 rfl (w.heap.size + 2) 63 i0 _ 3 40 Tryz.underlying30 hi hz0 hz1 hz2 rfl (by decide) _ _ _ rfl (of.alloc _) _ 1 1 [.string ⟨#[102, lt]⟩, .string ⟨#[73]⟩, .bool false] rfl rfl ?q1 ?q2 ?q3 ?q4 ?q5 ?q6)
      case q1 =>
        intro j u hj
        match j, hj with
        | 0, hj => simp at hj; subst hj; simp [Addr.add]; rfl
        | 1, hj => simp at hj; subst hj; simp [Addr.add]
        | 2, hj => simp at hj; subst hj; simp [Addr.add]
        | (j + 3), hj => simp at hj
      case q2 => intro u hu; simp at hu; rcases hu with rfl | rfl | rfl <;> rfl
      case q3 => unfold maxLen; omega
      case q4 => omega
      case q5 => simp; omega
      intro v7 w7 o7 g7 _ _
      obtain ⟨ao7, c7, rfl⟩ := slice_of_own o7
      have HF : Hid (Made w (w7.setCell ⟨w.heap.size, 3, none⟩ (.slice ao7 (k + 1) c7)) (.slice ao7 (k + 1) c7) mv (fsN (k + 1)) (msN k)) := by
        rw [fsN_succ]
        exact HM.out.fstep (mF k) _ g7 (by rw [fsN_len, HL.out.1]; exact o7)
      obtain ⟨f3, ff⟩ := HM.out.fbox _ g7
      have FF := D.hidIt ff
      have f33 := ff 3
      clear o7 g7 of c3 ff l2 zr
      have d4 : (w7.setCell ⟨w.heap.size, 3, none⟩ (.slice ao7 (k + 1) c7)).cell? ⟨w.heap.size + 1, 4, none⟩ = some mv := cell_row HF.out.b2 4 rfl
      have om := HF.out.om
      rw [msN_len] at om
      have zr := HF.out.bel.size
      have l2 := (Array.getElem?_eq_some_iff.1 HF.out.b2).1
      go_wp2_with (at_builtin; refine wpList_append_own_at _ rfl _ _ 31 rfl (w.heap.size + 2) 26 j0 _ 9 128 Tryz.underlying31 hj hy0 hy1 hy2 rfl (by decide) _ _ _ rfl (om.alloc _) _ 1 1 [.string ⟨#[109, lt]⟩, .string ⟨#[40, 41, 86]⟩, .bool false, .bool false, .int .i64 0, .int .i64 0, .slice none 0 0, .slice none 0 0, .slice none 0 0] rfl rfl ?r1 ?r2 ?r3 ?r4 ?r5 ?r6)
      case r1 =>
        intro j u hj
        refine cell_new_at (by simp) ?_
        match j, hj with
        | 0, hj => simp at hj; subst hj; rfl
        | 1, hj => simpa using hj
        | 2, hj => simpa using hj
        | 3, hj => simpa using hj
        | 4, hj => simpa using hj
        | 5, hj => simpa using hj
        | 6, hj => simpa using hj
        | 7, hj => simpa using hj
        | 8, hj => simpa using hj
        | (j + 9), hj => simp at hj
      case r2 => intro u hu; simp at hu; rcases hu with rfl | rfl | rfl | rfl | rfl <;> rfl
      case r3 => unfold maxLen; omega
      case r4 => omega
      case r5 => simp at l2 ⊢; omega
      intro v8 w8 o8 g8 _ _
      obtain ⟨ao8, c8, rfl⟩ := slice_of_own o8
      have HG : Hid (Made w (w8.setCell ⟨w.heap.size + 1, 4, none⟩ (.slice ao8 (k + 1) c8)) (.slice ao7 (k + 1) c7) (.slice ao8 (k + 1) c8) (fsN (k + 1)) (msN (k + 1))) := by
        rw [msN_succ]
        exact HF.out.mstep (mM k) _ g8 (by rw [msN_len, HL.out.2]; exact o8)
      obtain ⟨m4, mf⟩ := HF.out.mbox _ g8
      have m44 := mf 4
      clear o8 g8 om d4 mf l2 zr f3 f33
      go_wp2
      exact ⟨⟨k + 1, _, _, by omega, by simp, HG.out⟩, by simp [intOf]; omega⟩
    · have hlt' : ¬ (k : Int) < (m : Int) := by omega
      obtain rfl : k = m := by omega
      have lo := HM.out.of
      rw [lf] at lo
      obtain ⟨aof, cf, rfl⟩ := slice_of_own lo
      have lo := HM.out.om
      rw [lm] at lo
      obtain ⟨aom, cm, rfl⟩ := slice_of_own lo
      clear lo lf lm c3 c4
      have sN : ∀ x ∈ fsN k, x.nm.size ≤ 9223372036854775807 ∧ x.ds.size ≤ 9223372036854775807 := fun x hx => by
        simp only [fsN, List.mem_map] at hx
        obtain ⟨j, _, rfl⟩ := hx
        exact ⟨by show (2 : Nat) ≤ _; omega, by show (1 : Nat) ≤ _; omega⟩
      have sM : ∀ x ∈ msN k, x.nm.size ≤ 9223372036854775807 ∧ x.ds.size ≤ 9223372036854775807 ∧ x.code = [] ∧ x.hs = [] ∧ x.rs = [] := fun x hx => by
        simp only [msN, List.mem_map] at hx
        obtain ⟨j, _, rfl⟩ := hx
        exact ⟨by show (2 : Nat) ≤ _; omega, by show (3 : Nat) ≤ _; omega, rfl, rfl, rfl⟩
      have gC := fun W (h : Made w W (.slice aof k cf) (.slice aom k cm) (fsN k) (msN k)) => D.hidIt (right_class _ _ W (h.fclass sN))
      have gM := fun W (h : Made w W (.slice aof k cf) (.slice aom k cm) (fsN k) (msN k)) => D.hidIt (right_class _ _ W (h.mclass sM))
      have gF := fun W => D.hidIt (few_any k W)
      rw [(many_N k hm).1] at gC
      rw [(many_N k hm).2] at gM
      generalize (if 16 < k then (4 : Int) else 0) = q at *
      have gK := fun W (h : Below w.heap.size w W) => D.hidIt (known_any W (hT.below h) (Nat.le_trans h2 h.size))
      clear hT h2 hlt hk sN sM i0 hi hz0 hz1 hz2 j0 hj hy0 hy1 hy2
      obtain ⟨b0, b1, b2, b3, b4, -⟩ := row5 HM.out.b1
      obtain ⟨d0, d1, d2, d3, d4, -⟩ := row5 HM.out.b2
      clear d0 d1 d2 d3 d4
      go_wp2_with fail
      refine (gC _ HM.out).out.mono ?_
      rintro e w1 ⟨rfl, k1⟩
      have M1 := D.hidIt (HM.out.below k1)
      clear k1 HM b0 b1 b2 b3 b4
      go_wp2_with fail
      refine (gF _).out.mono ?_
      rintro e w' ⟨rfl, hww⟩; cases hww
      obtain ⟨d0, d1, d2, d3, d4, -⟩ := row5 M1.out.b2
      go_wp2_with fail
      refine (gM _ M1.out).out.mono ?_
      rintro e w2 ⟨rfl, k2⟩
      have M2 := D.hidIt (M1.out.below k2)
      clear k2 M1 d0 d1 d2 d3 d4 gC gM
      go_wp2_with fail
      refine (gF _).out.mono ?_
      rintro e w' ⟨rfl, hww⟩; cases hww
      clear gF
      by_cases h16 : (k : Int) < 2 ∨ 16 < (k : Int)
      · have hd : (decide ((k : Int) < 2) || decide (16 < (k : Int))) = true := by rcases h16 with h | h <;> simp [h]
        rcases h16 with h16 | h16
        · go_wp2_with fail
          refine (gK _ M2.out.bel).out.mono ?_
          rintro e w3 ⟨rfl, k3⟩
          have K3 := D.hidIt (next M2.out.bel k3)
          clear k3
          go_wp2
          go_ret
          exact ⟨rfl, K3.out⟩
        · have h16' : ¬ (k : Int) < 2 := by omega
          go_wp2_with fail
          refine (gK _ M2.out.bel).out.mono ?_
          rintro e w3 ⟨rfl, k3⟩
          have K3 := D.hidIt (next M2.out.bel k3)
          clear k3
          go_wp2
          go_ret
          exact ⟨rfl, K3.out⟩
      · have h16a : ¬ (k : Int) < 2 := by omega
        have h16b : ¬ 16 < (k : Int) := by omega
        have gI := D.hidIt (within_any same (k - 2) (by omega) w2)
        rw [show ((k - 2 : Nat) : Int) = (k : Int) - 2 by omega] at gI
        obtain ⟨gf, rfl⟩ := own_some M2.out.of (by rw [fsN_len]; omega)
        obtain ⟨gm, rfl⟩ := own_some M2.out.om (by rw [msN_len]; omega)
        obtain ⟨k1, hk1⟩ : ∃ k1 : Nat, (k : Int) - 1 = (k1 : Int) := ⟨k - 1, by omega⟩
        go_wp2_with fail
        refine gI.out.mono ?_
        rintro e w' ⟨⟨kk, hkk, rfl⟩, hww⟩; cases hww
        clear gI
        have b3 : w2.cell? ⟨w.heap.size, 3, none⟩ = some (.slice (some ⟨gf, 0, none⟩) k cf) := cell_row M2.out.b1 3 rfl
        have n1 : w2.cell? ⟨gf, kk * 3, none⟩ = some (.string (nmB 102 kk)) := (own_cell frow_len M2.out.of (fsN_get (show kk < k by omega)) (i := 0) rfl).1
        have n2 : w2.cell? ⟨gf, k1 * 3, none⟩ = some (.string (nmB 102 k1)) := (own_cell frow_len M2.out.of (fsN_get (show k1 < k by omega)) (i := 0) rfl).1
        have n3 : w2.frozen? ⟨gf, k1 * 3, none⟩ = false := (own_cell frow_len M2.out.of (fsN_get (show k1 < k by omega)) (i := 0) rfl).2
        have i1 : (kk : Int) < (k : Int) := by omega
        have i2 : (k1 : Int) < (k : Int) := by omega
        go_wp2_with fail
        go_region
        have ek : fsN k = fsN k1 ++ [mF k1] := by rw [show k = k1 + 1 by omega, fsN_succ]
        have em : msN k = msN k1 ++ [mM k1] := by rw [show k = k1 + 1 by omega, msN_succ]
        have M3 : Hid (Made w (w2.setCell ⟨gf, k1 * 3, none⟩ (.string (nmB 102 kk))).drew (.slice (some ⟨gf, 0, none⟩) k cf) (.slice (some ⟨gm, 0, none⟩) k cm) (fsS k kk) (msN k)) := by
          have h := M2.out
          rw [ek] at h
          have := h.fset ⟨nmB 102 kk, ⟨#[73]⟩, false⟩ 0 (.string (nmB 102 kk)) rfl
          rw [fsN_len] at this
          rw [fsS, show k - 1 = k1 by omega]
          exact this.below (below_drewN (Below.refl _ _) 1)
        clear b3 n1 n2 n3 M2
        generalize (w2.setCell ⟨gf, k1 * 3, none⟩ (.string (nmB 102 kk))).drew = w3 at M3 ⊢
        have b4 : w3.cell? ⟨w.heap.size + 1, 4, none⟩ = some (.slice (some ⟨gm, 0, none⟩) k cm) := cell_row M3.out.b2 4 rfl
        have n1 : w3.cell? ⟨gm, kk * 9, none⟩ = some (.string (nmB 109 kk)) := (own_cell mrow0_len M3.out.om (msN_get (show kk < k by omega)) (i := 0) rfl).1
        have n2 : w3.cell? ⟨gm, k1 * 9, none⟩ = some (.string (nmB 109 k1)) := (own_cell mrow0_len M3.out.om (msN_get (show k1 < k by omega)) (i := 0) rfl).1
        have n3 : w3.frozen? ⟨gm, k1 * 9, none⟩ = false := (own_cell mrow0_len M3.out.om (msN_get (show k1 < k by omega)) (i := 0) rfl).2
        go_wp2_with fail
        go_region
        have M4 : Hid (Made w (w3.setCell ⟨gm, k1 * 9, none⟩ (.string (nmB 109 kk))).drew (.slice (some ⟨gf, 0, none⟩) k cf) (.slice (some ⟨gm, 0, none⟩) k cm) (fsS k kk) (msS k kk)) := by
          have h := M3.out
          rw [em] at h
          have := h.mset ⟨nmB 109 kk, ⟨#[40, 41, 86]⟩, false, false, 0, 0, [], [], []⟩ 0 (.string (nmB 109 kk)) rfl
          rw [msN_len] at this
          rw [msS, show k - 1 = k1 by omega]
          exact this.below (below_drewN (Below.refl _ _) 1)
        clear b4 n1 n2 n3 M3
        generalize (w3.setCell ⟨gm, k1 * 9, none⟩ (.string (nmB 109 kk))).drew = w4 at M4 ⊢
        obtain ⟨r1, r2, r3, r4⟩ := many_S k kk (by omega) (by omega)
        have gC := fun W (h : Made w W (.slice (some ⟨gf, 0, none⟩) k cf) (.slice (some ⟨gm, 0, none⟩) k cm) (fsS k kk) (msS k kk)) => D.hidIt (right_class _ _ W (h.fclass (fsS_size k kk)))
        have gM := fun W (h : Made w W (.slice (some ⟨gf, 0, none⟩) k cf) (.slice (some ⟨gm, 0, none⟩) k cm) (fsS k kk) (msS k kk)) => D.hidIt (right_class _ _ W (h.mclass (msS_size k kk)))
        have gC2 := fun W (h : Made w W (.slice (some ⟨gf, 0, none⟩) k cf) (.slice (some ⟨gm, 0, none⟩) k cm) (fsT k kk) (msT k kk)) => D.hidIt (right_class _ _ W (h.fclass (fsT_size k kk)))
        have gM2 := fun W (h : Made w W (.slice (some ⟨gf, 0, none⟩) k cf) (.slice (some ⟨gm, 0, none⟩) k cm) (fsT k kk) (msT k kk)) => D.hidIt (right_class _ _ W (h.mclass (msT_size k kk)))
        rw [r1] at gC
        rw [r2] at gM
        rw [r3] at gC2
        rw [r4] at gM2
        clear r1 r2 r3 r4
        obtain ⟨b0, b1, b2, b3, b4, -⟩ := row5 M4.out.b1
        go_wp2_with fail
        refine (gC _ M4.out).out.mono ?_
        rintro e w5 ⟨rfl, k5⟩
        have M5 := D.hidIt (M4.out.below k5)
        clear k5 M4 b0 b1 b2 b3 b4
        obtain ⟨d0, d1, d2, d3, d4, -⟩ := row5 M5.out.b2
        go_wp2_with fail
        refine (gM _ M5.out).out.mono ?_
        rintro e w6 ⟨rfl, k6⟩
        have M6 := D.hidIt (M5.out.below k6)
        clear k6 M5 d0 d1 d2 d3 d4 gC gM
        have b3 : w6.cell? ⟨w.heap.size, 3, none⟩ = some (.slice (some ⟨gf, 0, none⟩) k cf) := cell_row M6.out.b1 3 rfl
        have n2 : w6.cell? ⟨gf, k1 * 3 + 1, none⟩ = some (.string ⟨#[73]⟩) := (own_cell frow_len M6.out.of (fsS_last k kk k1 (by omega)) (i := 1) rfl).1
        have n3 : w6.frozen? ⟨gf, k1 * 3 + 1, none⟩ = false := (own_cell frow_len M6.out.of (fsS_last k kk k1 (by omega)) (i := 1) rfl).2
        have M7 : Hid (Made w (w6.setCell ⟨gf, k1 * 3 + 1, none⟩ (.string ⟨#[91, 73]⟩)) (.slice (some ⟨gf, 0, none⟩) k cf) (.slice (some ⟨gm, 0, none⟩) k cm) (fsT k kk) (msS k kk)) := by
          have h := M6.out
          have := h.fset (l := fsN (k - 1)) ⟨nmB 102 kk, ⟨#[91, 73]⟩, false⟩ 1 (.string ⟨#[91, 73]⟩) rfl
          rw [fsN_len, show k - 1 = k1 by omega] at this
          rw [fsT, show k - 1 = k1 by omega]
          exact this
        have b4 : (w6.setCell ⟨gf, k1 * 3 + 1, none⟩ (.string ⟨#[91, 73]⟩)).cell? ⟨w.heap.size + 1, 4, none⟩ = some (.slice (some ⟨gm, 0, none⟩) k cm) := cell_row M7.out.b2 4 rfl
        have m2 : (w6.setCell ⟨gf, k1 * 3 + 1, none⟩ (.string ⟨#[91, 73]⟩)).cell? ⟨gm, k1 * 9 + 1, none⟩ = some (.string ⟨#[40, 41, 86]⟩) := (own_cell mrow0_len M7.out.om (msS_last k kk k1 (by omega)) (i := 1) rfl).1
        have m3 : (w6.setCell ⟨gf, k1 * 3 + 1, none⟩ (.string ⟨#[91, 73]⟩)).frozen? ⟨gm, k1 * 9 + 1, none⟩ = false := (own_cell mrow0_len M7.out.om (msS_last k kk k1 (by omega)) (i := 1) rfl).2
        have M8 : Hid (Made w ((w6.setCell ⟨gf, k1 * 3 + 1, none⟩ (.string ⟨#[91, 73]⟩)).setCell ⟨gm, k1 * 9 + 1, none⟩ (.string ⟨#[40, 41, 73]⟩)) (.slice (some ⟨gf, 0, none⟩) k cf) (.slice (some ⟨gm, 0, none⟩) k cm) (fsT k kk) (msT k kk)) := by
          have h := M7.out
          have := h.mset (l := msN (k - 1)) ⟨nmB 109 kk, ⟨#[40, 41, 73]⟩, false, false, 0, 0, [], [], []⟩ 1 (.string ⟨#[40, 41, 73]⟩) rfl
          rw [msN_len, show k - 1 = k1 by omega] at this
          rw [msT, show k - 1 = k1 by omega]
          exact this
        obtain ⟨e0, e1, e2, e3, e4, -⟩ := row5 M8.out.b1
        clear M6 M7
        go_wp2_with fail
        refine (gC2 _ M8.out).out.mono ?_
        rintro e w9 ⟨rfl, k9⟩
        have M9 := D.hidIt (M8.out.below k9)
        clear k9 M8 b3 n2 n3 b4 m2 m3 e0 e1 e2 e3 e4
        obtain ⟨d0, d1, d2, d3, d4, -⟩ := row5 M9.out.b2
        go_wp2_with fail
        refine (gM2 _ M9.out).out.mono ?_
        rintro e w10 ⟨rfl, k10⟩
        have M10 := D.hidIt (M9.out.below k10)
        clear k10 M9 d0 d1 d2 d3 d4 gC2 gM2
        go_wp2_with fail
        refine (gK _ M10.out.bel).out.mono ?_
        rintro e w11 ⟨rfl, k11⟩
        have K11 := D.hidIt (next M10.out.bel k11)
        clear k11
        go_wp2
        go_ret
        exact ⟨rfl, K11.out⟩
end Go.Proofs.YthagaldpopnoeaaGreatDoor
