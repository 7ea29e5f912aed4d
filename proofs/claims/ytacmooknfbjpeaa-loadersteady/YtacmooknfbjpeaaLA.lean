/- Loaders: what they are, and how they lie in memory. -/
import Derived.Test.YtacmooknfbjpeaaGA
namespace Go.Proofs.Ytacmooknfbjpeaa.J
open Go.RowKit Go.MapKept Go.ChangeMaps
set_option linter.unusedVariables false

/-! Pure. -/
def alook {α : Type} : List (ByteArray × α) → ByteArray → Option α
  | [], _ => none
  | p :: l, s => if s == p.1 then some p.2 else alook l s
theorem slook_map {α : Type} (f : α → Value) (s : ByteArray) : ∀ l : List (ByteArray × α), slook (l.map fun p => (p.1, f p.2)) s = (alook l s).map f
  | [] => rfl
  | p :: l => by
    unfold alook
    simp only [List.map_cons, slook]
    split
    · rfl
    · exact slook_map f s l
/-- One loader: its parent, what it offers, what it has loaded. -/
structure Ln where
  par : Int
  of : List (ByteArray × ByteArray × Int)
  ld : List (ByteArray × Int × Int)
structure Ls where
  each : List Ln
  ps : List (ByteArray × List Nat)
def offV (x : ByteArray × Int) : Value := .agg #[.string x.1, .int .i64 x.2]
def clsV (x : Int × Int) : Value := .agg #[.int .i64 x.1, .int .i64 x.2]
def rtN (R : List Nat) (i : Nat) : Nat := (R[i]?).getD 0
def Ls.rt (S : Ls) (nm : ByteArray) (i : Nat) : Nat := match alook S.ps nm with
  | some R => rtN R i
  | none => i
def Ls.hasB (S : Ls) (n : Int) : Bool := decide (0 ≤ n ∧ n < (S.each.length : Int))
def Ls.ldN (S : Ls) (i : Nat) (nm : ByteArray) : Option (Int × Int) := match S.each[i]? with
  | some x => alook x.ld nm
  | none => none
def Ls.ofN (S : Ls) (i : Nat) (nm : ByteArray) : Option (ByteArray × Int) := match S.each[i]? with
  | some x => alook x.of nm
  | none => none
def Ls.ldd (S : Ls) (n : Int) (nm : ByteArray) : Option (Int × Int) := if 0 ≤ n then S.ldN n.toNat nm else none

/-- A list of parents, and who is whose root. -/
structure UF (L R : List Nat) : Prop where
  ll : L.length = 16
  rl : R.length = 16
  inL : ∀ (i : Nat) j, L[i]? = some j → j < 16
  inR : ∀ (i : Nat), rtN R i < 16
  same : ∀ (i : Nat) j, L[i]? = some j → rtN R j = rtN R i
  root : ∀ (i : Nat), L[i]? = some i → rtN R i = i
  fix : ∀ (i : Nat), i < 16 → rtN R i = i → L[i]? = some i
  rank : ∃ rk : Nat → Nat, ∀ (i : Nat) j, L[i]? = some j → j ≠ i → rk j < rk i
theorem UF.start : UF (List.range 16) (List.range 16) := by
  have h : ∀ i j : Nat, (List.range 16)[i]? = some j → j = i ∧ i < 16 := by
    intro i j e
    have := (List.getElem?_eq_some_iff.1 e).1
    rw [List.length_range] at this
    rw [List.getElem?_range this] at e
    cases e
    exact ⟨rfl, this⟩
  have hr : ∀ i, i < 16 → rtN (List.range 16) i = i := fun i hi => by unfold rtN; rw [List.getElem?_range hi]; rfl
  refine ⟨by simp, by simp, fun i j e => ?_, fun i => ?_, fun i j e => ?_, fun i e => ?_, fun i hi _ => List.getElem?_range hi, ⟨fun _ => 0, fun i j e hn => absurd (h i j e).1 hn⟩⟩
  · obtain ⟨rfl, h2⟩ := h i j e; exact h2
  · by_cases hi : i < 16
    · rw [hr i hi]; exact hi
    · unfold rtN; rw [List.getElem?_eq_none (by simp; omega)]; simp
  · obtain ⟨rfl, h2⟩ := h i j e; rfl
  · exact hr i (h i i e).2
variable {L R : List Nat}
theorem UF.at (h : UF L R) {i : Nat} (hi : i < 16) : ∃ j, L[i]? = some j ∧ j < 16 := by
  have := h.ll
  exact ⟨L[i], List.getElem?_eq_getElem (by omega), h.inL i _ (List.getElem?_eq_getElem (by omega))⟩
/-- Halving of a way. -/
theorem UF.halve {n j k : Nat} (h : UF L R) (hn : L[n]? = some j) (hj : L[j]? = some k) (hne : j ≠ n) : UF (L.set n k) R := by
  obtain ⟨rk, hr⟩ := h.rank
  have hlt : n < L.length := (List.getElem?_eq_some_iff.1 hn).1
  have hjn := hr n j hn hne
  have hkj : rk k ≤ rk j := by
    by_cases e : k = j
    · rw [e]; exact Nat.le_refl _
    · exact Nat.le_of_lt (hr j k hj e)
  have hget : ∀ i x, (L.set n k)[i]? = some x → (i = n ∧ x = k) ∨ (i ≠ n ∧ L[i]? = some x) := by
    intro i x e
    rw [List.getElem?_set] at e
    split at e
    · rename_i hi
      cases e
      exact .inl ⟨hi.symm, rfl⟩
    · rename_i hi
      exact .inr ⟨fun e => hi e.symm, e⟩
  have hs : rtN R k = rtN R n := (h.same j k hj).trans (h.same n j hn)
  refine ⟨by simp [h.ll], h.rl, fun i x e => ?_, h.inR, fun i x e => ?_, fun i e => ?_, fun i hi e => ?_, rk, fun i x e hx => ?_⟩
  · rcases hget i x e with ⟨rfl, rfl⟩ | ⟨_, e⟩
    · exact h.inL _ _ hj
    · exact h.inL _ _ e
  · rcases hget i x e with ⟨rfl, rfl⟩ | ⟨_, e⟩
    · exact hs
    · exact h.same _ _ e
  · rcases hget i i e with ⟨rfl, e2⟩ | ⟨_, e⟩
    · subst e2; exact absurd hjn (by omega)
    · exact h.root _ e
  · rw [List.getElem?_set]
    have := h.fix i hi e
    split
    · rename_i e2
      subst e2
      rw [hn] at this
      cases this
      exact absurd rfl hne
    · exact this
  · rcases hget i x e with ⟨rfl, rfl⟩ | ⟨_, e⟩
    · omega
    · exact hr _ _ e hx
def joinR (R : List Nat) (a b : Nat) : List Nat := R.map fun x => if x = rtN R a then rtN R b else x
theorem rtN_join {R : List Nat} {a b i : Nat} (hi : i < R.length) : rtN (joinR R a b) i = if rtN R i = rtN R a then rtN R b else rtN R i := by
  unfold rtN joinR
  rw [List.getElem?_map, List.getElem?_eq_getElem hi]
  rfl
theorem rtN_out {R : List Nat} {i : Nat} (hi : ¬ i < R.length) : rtN R i = 0 := by
  unfold rtN
  rw [List.getElem?_eq_none (by omega)]; rfl
theorem UF.idem (h : UF L R) : ∀ i, i < 16 → rtN R (rtN R i) = rtN R i := by
  obtain ⟨rk, hr⟩ := h.rank
  have : ∀ (m i : Nat), rk i ≤ m → i < 16 → rtN R (rtN R i) = rtN R i := by
    intro m
    induction m with
    | zero =>
      intro i hm hi
      obtain ⟨j, hj, hj2⟩ := h.at hi
      by_cases e : j = i
      · subst e
        have := h.root j hj
        rw [this, this]
      · have := hr i j hj e; omega
    | succ m ih =>
      intro i hm hi
      obtain ⟨j, hj, hj2⟩ := h.at hi
      by_cases e : j = i
      · subst e
        have := h.root j hj
        rw [this, this]
      · have h1 := hr i j hj e
        have h2 := ih j (by omega) hj2
        have h3 := h.same i j hj
        rw [← h3]; exact h2
  exact fun i hi => this (rk i) i (Nat.le_refl _) hi
theorem UF.join {a b : Nat} (h : UF L R) (ha : a < 16) (hb : b < 16) : UF (L.set (rtN R a) (rtN R b)) (joinR R a b) := by
  obtain ⟨rk, hr⟩ := h.rank
  have J : ∀ i, i < 16 → rtN (joinR R a b) i = if rtN R i = rtN R a then rtN R b else rtN R i := fun i hi => rtN_join (by have := h.rl; omega)
  have hra := h.inR a
  have hrb := h.inR b
  have ia := h.idem a ha
  have ib := h.idem b hb
  have hlen : (joinR R a b).length = 16 := by simp [joinR, h.rl]
  generalize rtN R a = ra at *
  generalize rtN R b = rb at *
  have hla := h.fix ra hra ia
  have hll := h.ll
  have hget : ∀ i x, (L.set ra rb)[i]? = some x → (i = ra ∧ x = rb) ∨ (i ≠ ra ∧ L[i]? = some x ∧ i < 16) := by
    intro i x e
    rw [List.getElem?_set] at e
    split at e
    · rename_i hi
      rw [if_pos (by omega)] at e
      cases e
      exact .inl ⟨hi.symm, rfl⟩
    · rename_i hi
      have := (List.getElem?_eq_some_iff.1 e).1
      exact .inr ⟨fun e => hi e.symm, e, by omega⟩
  refine ⟨by simp [hll], hlen, fun i x e => ?_, fun i => ?_, fun i x e => ?_, fun i e => ?_, fun i hi e => ?_, ?_⟩
  · rcases hget i x e with ⟨rfl, rfl⟩ | ⟨_, e, _⟩
    · exact hrb
    · exact h.inL _ _ e
  · by_cases hi : i < 16
    · rw [J i hi]; split
      · exact hrb
      · exact h.inR i
    · rw [rtN_out (by omega)]; omega
  · rcases hget i x e with ⟨rfl, rfl⟩ | ⟨_, e, hi⟩
    · rw [J _ hrb, J _ hra, ia, if_pos rfl, ib]
      split <;> rfl
    · rw [J _ (h.inL _ _ e), J _ hi, h.same _ _ e]
  · rcases hget i i e with ⟨rfl, e2⟩ | ⟨hn, e, hi⟩
    · rw [J _ hra, ia, if_pos rfl]; exact e2.symm
    · rw [J _ hi, h.root _ e, if_neg hn]
  · rw [J _ hi] at e
    rw [List.getElem?_set]
    split at e
    · rename_i h1
      subst e
      rw [ib] at h1
      rw [if_pos h1.symm, if_pos (by omega)]
    · rename_i h1
      rw [e] at h1
      rw [if_neg (fun e => h1 e.symm)]
      exact h.fix i hi e
  · by_cases hab : ra = rb
    · refine ⟨rk, fun i x e hx => ?_⟩
      rcases hget i x e with ⟨rfl, rfl⟩ | ⟨_, e, _⟩
      · exact absurd hab.symm hx
      · exact hr _ _ e hx
    · refine ⟨fun i => if rtN R i = ra then rk i + rk rb + 1 else rk i, fun i x e hx => ?_⟩
      rcases hget i x e with ⟨rfl, rfl⟩ | ⟨_, e, _⟩
      · simp only [ia, ib, if_neg (fun e : x = i => hab e.symm), if_true]
        omega
      · have := hr _ _ e hx
        simp only [h.same _ _ e]
        split <;> omega

/-! In memory. -/
def ncells (l : List Nat) : List Value := l.map fun x : Nat => Value.int .i64 (x : Int)
theorem ncells_at {l : List Nat} {j x : Nat} (h : l[j]? = some x) : (ncells l)[j]? = some (.int .i64 (x : Int)) := by simp [ncells, h]
structure LB where
  hb : Nat
  ev : Value
  nm : Nat
  mb : Nat → Nat
  np : Nat
  pr : Nat → Nat
def LB.ptr (H : LB) : Value := .pointer (some ⟨H.hb, 0, none⟩)
def LB.has (H : LB) (b : Nat) : Prop := b = H.hb ∨ H.ev.ownBlock = some b ∨ (∃ k, k < H.nm ∧ H.mb k = b) ∨ ∃ k, k < H.np ∧ H.pr k = b
def oneRow (mb : Nat → Nat) (i : Nat) (x : Ln) : List Value := [.int .i64 x.par, .map (some (mb (2 * i + 1))), .map (some (mb (2 * i + 2)))]
def eachC (mb : Nat → Nat) : Nat → List Ln → List Value
  | _, [] => []
  | i, x :: l => oneRow mb i x ++ eachC mb (i + 1) l
def parC (pr : Nat → Nat) : Nat → List (ByteArray × List Nat) → List (ByteArray × Value)
  | _, [] => []
  | i, p :: l => (p.1, .slice (some ⟨pr i, 0, none⟩) 16 16) :: parC pr (i + 1) l
def contM (pr : Nat → Nat) (S : Ls) (k : Nat) : List (ByteArray × Value) :=
  if k = 0 then parC pr 0 S.ps else match S.each[(k - 1) / 2]? with
    | none => []
    | some x => if k % 2 = 1 then x.of.map fun p => (p.1, offV p.2) else x.ld.map fun p => (p.1, clsV p.2)
structure LoV (n0 : Nat) (w : World) (H : LB) (S : Ls) : Prop where
  lo : n0 ≤ H.hb
  box : Blk w H.hb #[H.ev, .map (some (H.mb 0))] 56
  eo : w.ownsRow n0 64 3 H.ev S.each.length (eachC H.mb 0 S.each)
  nm : H.nm = 2 * S.each.length + 1
  np : H.np = S.ps.length
  maps : ∀ k, k < 2 * S.each.length + 1 → n0 ≤ H.mb k ∧ SMap w (H.mb k) (contM H.pr S k)
  inj : ∀ j k, j < 2 * S.each.length + 1 → k < 2 * S.each.length + 1 → H.mb j = H.mb k → j = k
  prs : ∀ (i : Nat) x, S.ps[i]? = some x → n0 ≤ H.pr i ∧ ∃ L, UF L x.2 ∧ Blk w (H.pr i) (ncells L).toArray 3
  prj : ∀ i j, i < S.ps.length → j < S.ps.length → H.pr i = H.pr j → i = j
  few : S.each.length ≤ 16
  par : ∀ (i : Nat) x, S.each[i]? = some x → -1 ≤ x.par ∧ x.par < (i : Int)
variable {n0 : Nat} {w w' : World} {H H' : LB} {S S' : Ls}
theorem LoV.lt (h : LoV n0 w H S) {b : Nat} (hb : H.has b) : n0 ≤ b ∧ b < w.heap.size := by
  rcases hb with rfl | e | ⟨k, hk, rfl⟩ | ⟨k, hk, rfl⟩
  · exact ⟨h.lo, h.box.lt⟩
  · exact h.eo.lt _ e
  · rw [h.nm] at hk
    exact ⟨(h.maps k hk).1, (h.maps k hk).2.lt⟩
  · rw [h.np] at hk
    obtain ⟨a, L, _, c⟩ := h.prs k _ (List.getElem?_eq_getElem hk)
    exact ⟨a, c.lt⟩
theorem LoV.kept (h : LoV n0 w H S) (hb : ∀ b, H.has b → w'.heap[b]? = w.heap[b]?) : LoV n0 w' H S :=
  ⟨h.lo, h.box.kept (hb _ (.inl rfl)), own_kept h.eo (fun g e => hb g (.inr (.inl e))), h.nm, h.np,
    fun k hk => ⟨(h.maps k hk).1, (h.maps k hk).2.kept (hb _ (.inr (.inr (.inl ⟨k, by rw [h.nm]; exact hk, rfl⟩))))⟩, h.inj,
    fun i x e => by
      obtain ⟨a, L, b, c⟩ := h.prs i x e
      exact ⟨a, L, b, c.kept (hb _ (.inr (.inr (.inr ⟨i, by rw [h.np]; exact (List.getElem?_eq_some_iff.1 e).1, rfl⟩))))⟩, h.prj, h.few, h.par⟩
theorem LoV.below (h : LoV n0 w H S) (hb : Below w.heap.size w w') : LoV n0 w' H S := h.kept fun b e => hb.block b (h.lt e).2
/-- Only their own blocks are turned. -/
structure LStep (H H' : LB) (w w' : World) : Prop where
  os : w'.os = w.os
  tape : w'.tape = w.tape
  output : w'.output = w.output
  size : w.heap.size ≤ w'.heap.size
  block : ∀ b, b < w.heap.size → ¬ H.has b → w'.heap[b]? = w.heap[b]?
  hb : H'.hb = H.hb
  moved : ∀ b, H'.has b → H.has b ∨ w.heap.size ≤ b
theorem LStep.refl (H : LB) (w : World) : LStep H H w w := ⟨rfl, rfl, rfl, Nat.le_refl _, fun _ _ _ => rfl, rfl, fun _ h => .inl h⟩
theorem LStep.trans {A B C : LB} {u v w : World} (h : LStep A B u v) (k : LStep B C v w) : LStep A C u w :=
  ⟨k.os.trans h.os, k.tape.trans h.tape, k.output.trans h.output, Nat.le_trans h.size k.size, fun b hb hn => (k.block b (Nat.lt_of_lt_of_le hb h.size) (fun e => by rcases h.moved b e with x | x; exact hn x; omega)).trans (h.block b hb hn), k.hb.trans h.hb, fun b e => by
    rcases k.moved b e with x | x
    · exact h.moved b x
    · exact .inr (Nat.le_trans h.size x)⟩
theorem LStep.of_below (h : Below w.heap.size w w') : LStep H H w w' := ⟨h.os, h.tape, h.output, h.size, fun b hb _ => h.block b hb, rfl, fun _ e => .inl e⟩
theorem LStep.below (h : LStep H H' w w') {B : Nat} (hB : B ≤ w.heap.size) (hlo : ∀ b, H.has b → B ≤ b) : Below B w w' :=
  ⟨h.os, h.tape, h.output, h.size, fun b hb => h.block b (by omega) (fun e => by have := hlo b e; omega)⟩
theorem eachC_len (mb : Nat → Nat) : ∀ (l : List Ln) (i : Nat), (eachC mb i l).length = l.length * 3
  | [], i => rfl
  | x :: l, i => by simp only [eachC, List.length_append, eachC_len mb l, List.length_cons, oneRow, List.length_nil]; omega
theorem eachC_at (mb : Nat → Nat) : ∀ (l : List Ln) (q i : Nat) (x : Ln) (j : Nat), l[i]? = some x → j < 3 → (eachC mb q l)[i * 3 + j]? = (oneRow mb (q + i) x)[j]?
  | [], q, i, x, j, h, hj => by simp at h
  | y :: l, q, 0, x, j, h, hj => by
    simp only [List.getElem?_cons_zero, Option.some.injEq] at h
    subst h
    simp only [eachC, Nat.zero_mul, Nat.zero_add, Nat.add_zero]
    rw [List.getElem?_append_left (by simp [oneRow]; omega)]
  | y :: l, q, i + 1, x, j, h, hj => by
    simp only [eachC]
    rw [List.getElem?_append_right (by simp [oneRow]; omega), show (i + 1) * 3 + j - (oneRow mb q y).length = i * 3 + j by simp only [oneRow, List.length_cons, List.length_nil]; omega, eachC_at mb l (q + 1) i x j (by simpa using h) hj, show q + 1 + i = q + (i + 1) by omega]
theorem eachC_snoc (mb : Nat → Nat) (x : Ln) : ∀ (l : List Ln) (q : Nat), eachC mb q (l ++ [x]) = eachC mb q l ++ oneRow mb (q + l.length) x
  | [], q => by simp [eachC]
  | y :: l, q => by
    simp only [List.cons_append, eachC, eachC_snoc mb x l, List.append_assoc, List.length_cons]
    rw [show q + 1 + l.length = q + (l.length + 1) by omega]
/-- One cell of a row of structs of one's own. -/
theorem own_cellk {w : World} {B e k n : Nat} {ao : Option Addr} {cap : Nat} {xs : List Value} (h : w.ownsRow B e k (.slice ao n cap) n xs) {j : Nat} {x : Value} (hx : xs[j]? = some x) : ∃ g, ao = some ⟨g, 0, none⟩ ∧ B ≤ g ∧ g < w.heap.size ∧ w.cell? ⟨g, j, none⟩ = some x ∧ w.frozen? ⟨g, j, none⟩ = false := by
  have hj : j < xs.length := (List.getElem?_eq_some_iff.1 hx).1
  rcases h.2 with ⟨_, h0⟩ | ⟨g, cap', cur, e1, hB, hg, h1, h2, h3, h4⟩
  · rw [h.1, h0] at hj; simp at hj
  · cases e1
    refine ⟨g, rfl, hB, (Array.getElem?_eq_some_iff.1 hg).1, ?_, by simp [World.frozen?, hg]⟩
    rw [cell_of_row w g j _ e (0, 0) hg]
    rw [← h4, List.getElem?_take, Array.getElem?_toList] at hx
    split at hx
    · exact hx
    · cases hx
theorem LoV.slice (h : LoV n0 w H S) : ∃ ao cap, H.ev = .slice ao S.each.length cap := own_slice h.eo
/-- A loader as it lies there. -/
theorem LoV.row (h : LoV n0 w H S) {i : Nat} {x : Ln} (hx : S.each[i]? = some x) : ∃ g cap, H.ev = .slice (some ⟨g, 0, none⟩) S.each.length cap ∧ S.each.length ≤ cap ∧ g < w.heap.size ∧
    w.cell? ⟨g, i * 3, none⟩ = some (.int .i64 x.par) ∧ w.cell? ⟨g, i * 3 + 1, none⟩ = some (.map (some (H.mb (2 * i + 1)))) ∧ w.cell? ⟨g, i * 3 + 2, none⟩ = some (.map (some (H.mb (2 * i + 2)))) ∧
    SMap w (H.mb (2 * i + 1)) (x.of.map fun p => (p.1, offV p.2)) ∧ SMap w (H.mb (2 * i + 2)) (x.ld.map fun p => (p.1, clsV p.2)) := by
  obtain ⟨ao, cap, e⟩ := h.slice
  have ho := h.eo
  rw [e] at ho
  have hi := (List.getElem?_eq_some_iff.1 hx).1
  have a0 := eachC_at H.mb S.each 0 i x 0 hx (by omega)
  have a1 := eachC_at H.mb S.each 0 i x 1 hx (by omega)
  have a2 := eachC_at H.mb S.each 0 i x 2 hx (by omega)
  rw [Nat.zero_add] at a0 a1 a2
  obtain ⟨g, rfl, _, hg, c0, _⟩ := own_cellk ho a0
  obtain ⟨_, e1, _, _, c1, _⟩ := own_cellk ho a1
  obtain ⟨_, e2, _, _, c2, _⟩ := own_cellk ho a2
  cases e1
  cases e2
  have m1 := (h.maps (2 * i + 1) (by omega)).2
  have m2 := (h.maps (2 * i + 2) (by omega)).2
  unfold contM at m1 m2
  rw [if_neg (by omega), show (2 * i + 1 - 1) / 2 = i by omega, hx] at m1
  rw [if_neg (by omega), show (2 * i + 2 - 1) / 2 = i by omega, hx] at m2
  simp only [show (2 * i + 1) % 2 = 1 by omega, if_true] at m1
  simp only [show ¬ (2 * i + 2) % 2 = 1 by omega, if_false] at m2
  exact ⟨g, cap, e, (own_cap ho).1, hg, c0, c1, c2, m1, m2⟩
theorem LoV.c0 (h : LoV n0 w H S) : w.cell? ⟨H.hb, 0, none⟩ = some H.ev := h.box.cell 0
theorem LoV.c1 (h : LoV n0 w H S) : w.cell? ⟨H.hb, 1, none⟩ = some (.map (some (H.mb 0))) := h.box.cell 1
theorem LoV.pmap (h : LoV n0 w H S) : SMap w (H.mb 0) (parC H.pr 0 S.ps) := by
  have := (h.maps 0 (by omega)).2
  unfold contM at this
  rwa [if_pos rfl] at this
theorem parC_look (pr : Nat → Nat) (s : ByteArray) : ∀ (l : List (ByteArray × List Nat)) (q : Nat), (alook l s = none → slook (parC pr q l) s = none) ∧ ∀ R, alook l s = some R → ∃ i nm, l[i]? = some (nm, R) ∧ slook (parC pr q l) s = some (.slice (some ⟨pr (q + i), 0, none⟩) 16 16)
  | [], q => ⟨fun _ => rfl, fun R h => by simp [alook] at h⟩
  | p :: l, q => by
    obtain ⟨a, b⟩ := parC_look pr s l (q + 1)
    unfold alook parC slook
    cases hs : s == p.1
    · refine ⟨fun h => by simpa using a (by simpa using h), fun R h => ?_⟩
      obtain ⟨i, nm, h1, h2⟩ := b R (by simpa using h)
      refine ⟨i + 1, nm, by simpa using h1, ?_⟩
      rw [show q + (i + 1) = q + 1 + i by omega]
      simpa using h2
    · refine ⟨fun h => by simp at h, fun R h => ⟨0, p.1, ?_, by simp⟩⟩
      simp only [if_true, Option.some.injEq] at h
      subst h
      rfl
/-- The list of parents of a name. -/
def pvL (H : LB) (S : Ls) (nm : ByteArray) : Value := (slook (parC H.pr 0 S.ps) nm).getD (.slice none 0 0)
theorem pvL_at (h : LoV n0 w H S) (nm : ByteArray) : (alook S.ps nm = none ∧ pvL H S nm = .slice none 0 0) ∨ ∃ i nm' R L, alook S.ps nm = some R ∧ S.ps[i]? = some (nm', R) ∧ pvL H S nm = .slice (some ⟨H.pr i, 0, none⟩) 16 16 ∧ UF L R ∧ Blk w (H.pr i) (ncells L).toArray 3 := by
  obtain ⟨a, b⟩ := parC_look H.pr nm S.ps 0
  cases e : alook S.ps nm with
  | none => exact .inl ⟨rfl, by unfold pvL; rw [a e]; rfl⟩
  | some R =>
    obtain ⟨i, nm', h1, h2⟩ := b R e
    rw [Nat.zero_add] at h2
    obtain ⟨_, L, u, hb⟩ := h.prs i _ h1
    exact .inr ⟨i, nm', R, L, rfl, h1, by unfold pvL; rw [h2]; rfl, u, hb⟩
/-- A list of parents is written to. -/
theorem LoV.setP (h : LoV n0 w H S) {i : Nat} {nm' : ByteArray} {R R' L' : List Nat} (hi : S.ps[i]? = some (nm', R)) (u : UF L' R') (hb : Blk w' (H.pr i) (ncells L').toArray 3) (ho : ∀ b, b ≠ H.pr i → w'.heap[b]? = w.heap[b]?) (hps : S'.ps = S.ps.set i (nm', R')) (he : S'.each = S.each) : LoV n0 w' H S' := by
  have hlt := (List.getElem?_eq_some_iff.1 hi).1
  obtain ⟨hlo, L0, u0, hb0⟩ := h.prs i _ hi
  have nhb : H.hb ≠ H.pr i := fun e => by have := h.box; unfold Blk at this hb0; rw [e, hb0] at this; simp at this
  have nmb : ∀ k, k < 2 * S.each.length + 1 → H.mb k ≠ H.pr i := fun k hk e => by
    obtain ⟨es, cl, hm, _⟩ := (h.maps k hk).2
    unfold Blk at hb0
    rw [e, hb0] at hm
    cases hm
  have hpc : ∀ (l : List (ByteArray × List Nat)) (q j : Nat), l[j]? = some (nm', R) → parC H.pr q (l.set j (nm', R')) = parC H.pr q l := by
    intro l
    induction l with
    | nil => intro q j e; simp at e
    | cons p l ih =>
      intro q j e
      cases j with
      | zero =>
        simp only [List.getElem?_cons_zero, Option.some.injEq] at e
        subst e
        rfl
      | succ j =>
        simp only [List.set_cons_succ, parC]
        rw [ih _ _ (by simpa using e)]
  have hcm : ∀ k, contM H.pr S' k = contM H.pr S k := fun k => by
    unfold contM
    rw [he, hps, hpc _ _ _ hi]
  refine ⟨h.lo, h.box.kept (ho _ nhb), ?_, by rw [he]; exact h.nm, by rw [hps, List.length_set]; exact h.np, ?_, by rw [he]; exact h.inj, ?_, by rw [hps, List.length_set]; exact h.prj, by rw [he]; exact h.few, by rw [he]; exact h.par⟩
  · rw [he]
    exact own_kept h.eo fun g e => ho g fun e2 => own_not h.eo hb0 (by decide) (e2 ▸ e)
  · rw [he]
    intro k hk
    rw [hcm]
    exact ⟨(h.maps k hk).1, (h.maps k hk).2.kept (ho _ (nmb k hk))⟩
  · intro j x e
    rw [hps, List.getElem?_set] at e
    split at e
    · rename_i hj
      subst hj
      cases e
      exact ⟨hlo, L', u, hb⟩
    · rename_i hj
      obtain ⟨a, L, b, c⟩ := h.prs j x e
      have hj2 := (List.getElem?_eq_some_iff.1 e).1
      exact ⟨a, L, b, c.kept (ho _ fun e => hj (h.prj _ _ hj2 hlt e).symm)⟩
theorem LoV.stepP (h : LoV n0 w H S) {i : Nat} {x : ByteArray × List Nat} (hi : S.ps[i]? = some x) (hs : w'.heap.size = w.heap.size) (h1 : w'.os = w.os) (h2 : w'.tape = w.tape) (h3 : w'.output = w.output) (ho : ∀ b, b ≠ H.pr i → w'.heap[b]? = w.heap[b]?) : LStep H H w w' :=
  ⟨h1, h2, h3, by omega, fun b _ hn => ho b fun e => hn (.inr (.inr (.inr ⟨i, by rw [h.np]; exact (List.getElem?_eq_some_iff.1 hi).1, e.symm⟩))), rfl, fun _ e => .inl e⟩
/-- A map's new content. -/
theorem LoV.setM (h : LoV n0 w H S) {k : Nat} (hk : k < 2 * S.each.length + 1) {o : Obj} (hm : SMap (setBlock w (H.mb k) o) (H.mb k) (contM H.pr S' k)) (hc : ∀ j, j ≠ k → contM H.pr S' j = contM H.pr S j) (hl : S'.each.length = S.each.length) (hp : ∀ i : Nat, (S'.each[i]?).map Ln.par = (S.each[i]?).map Ln.par) (hps : S'.ps = S.ps) : LoV n0 (setBlock w (H.mb k) o) H S' ∧ LStep H H w (setBlock w (H.mb k) o) := by
  have ho : ∀ b, b ≠ H.mb k → (setBlock w (H.mb k) o).heap[b]? = w.heap[b]? := fun b hb => setBlock_other w _ b o hb
  have hmk := (h.maps k hk).2
  have hec : ∀ (l l' : List Ln) (q : Nat), l'.length = l.length → (∀ i : Nat, (l'[i]?).map Ln.par = (l[i]?).map Ln.par) → eachC H.mb q l' = eachC H.mb q l := by
    intro l
    induction l with
    | nil => intro l' q e _; rw [List.length_eq_zero_iff.1 e]
    | cons x l ih =>
      intro l' q e hp
      cases l' with
      | nil => simp at e
      | cons y l' =>
        have h0 := hp 0
        simp only [List.getElem?_cons_zero, Option.map_some, Option.some.injEq] at h0
        simp only [eachC, oneRow, h0]
        rw [ih l' (q + 1) (by simpa using e) fun i => by simpa using hp (i + 1)]
  refine ⟨⟨h.lo, h.box.kept (ho _ fun e => ?_), ?_, by rw [hl]; exact h.nm, by rw [hps]; exact h.np, ?_, by rw [hl]; exact h.inj, ?_, by rw [hps]; exact h.prj, by rw [hl]; exact h.few, ?_⟩, ?_⟩
  · obtain ⟨es, cl, hm, _⟩ := hmk
    have := h.box
    unfold Blk at this
    rw [e, hm] at this
    cases this
  · rw [hec S.each S'.each 0 hl hp, hl]
    exact own_kept h.eo fun g e => ho g fun e2 => own_notM h.eo hmk (e2 ▸ e)
  · rw [hl]
    intro j hj
    refine ⟨(h.maps j hj).1, ?_⟩
    by_cases e : j = k
    · subst e; exact hm
    · rw [hc j e]
      exact (h.maps j hj).2.kept (ho _ fun e2 => e (h.inj _ _ hj hk e2))
  · rw [hps]
    intro i x e
    obtain ⟨a, L, b, c⟩ := h.prs i x e
    refine ⟨a, L, b, c.kept (ho _ fun e2 => ?_)⟩
    obtain ⟨es, cl, hm, _⟩ := hmk
    unfold Blk at c
    rw [e2, hm] at c
    cases c
  · intro i x e
    have := hp i
    rw [e] at this
    cases e2 : S.each[i]? with
    | none => rw [e2] at this; simp at this
    | some y =>
      rw [e2] at this
      simp only [Option.map_some, Option.some.injEq] at this
      rw [this]
      exact h.par i y e2
  · exact ⟨rfl, rfl, rfl, by simp [setBlock], fun b _ hn => ho b fun e => hn (.inr (.inr (.inl ⟨k, by rw [h.nm]; exact hk, e.symm⟩))), rfl, fun _ e => .inl e⟩
end Go.Proofs.Ytacmooknfbjpeaa.J

