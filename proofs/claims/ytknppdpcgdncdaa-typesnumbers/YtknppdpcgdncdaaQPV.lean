/- Lists of constants as the walks see them; number, Get, Index, Clone, Same: walked. -/
import Derived.Test.YtknppdpcgdncdaaQPC
import Derived.Test.YtknppdpcgdncdaaQWrB
import Derived.Handy
namespace Go.Proofs.Ytknppdpcgdncdaa.Q
open Go.RowKit
def ceq (c d : CD) : Bool := (c.kind == d.kind) && (c.n == d.n) && (c.cls.toList == d.cls.toList) && (c.nm.toList == d.nm.toList) && (c.dsc.toList == d.dsc.toList)
theorem run_ceq (w : World) (c d : CD) : (binOp .eql 83 c.val d.val).run Try.prog w = .ok (.bool (ceq c d)) w := by
  unfold CD.val ceq
  go_simp
  by_cases h1 : c.kind = d.kind
  · by_cases h2 : c.n = d.n
    · by_cases h3 : c.cls.toList = d.cls.toList
      · by_cases h4 : c.nm.toList = d.nm.toList
        · by_cases h5 : c.dsc.toList = d.dsc.toList <;> simp [h1, h2, h3, h4, h5]
        · simp [h1, h2, h3, h4]
      · simp [h1, h2, h3]
    · simp [h1, h2]
  · simp [h1]
theorem bytes_ext {a b : ByteArray} (h : a.toList = b.toList) : a = b := by
  rw [Lib.toList_data, Lib.toList_data] at h
  rw [← D.str_data a, ← D.str_data b, h]
theorem ceq_iff (c d : CD) : ceq c d = true ↔ c = d := by
  constructor
  · intro h
    simp only [ceq, Bool.and_eq_true, beq_iff_eq] at h
    obtain ⟨⟨⟨⟨h1, h2⟩, h3⟩, h4⟩, h5⟩ := h
    cases c; cases d
    simp only at h1 h2 h3 h4 h5
    rw [h1, h2, bytes_ext h3, bytes_ext h4, bytes_ext h5]
  · rintro rfl; simp [ceq]

/-- What a machine can hold, the number too. -/
structure CD.Ok (c : CD) : Prop extends c.Fits where
  nlo : -2147483648 ≤ c.n
  nhi : c.n ≤ 2147483647

/-- A constant lies at a place. -/
structure CAt (w : World) (g o : Nat) (c : CD) : Prop where
  c0 : w.cell? ⟨g, o, none⟩ = some (.int .i64 c.kind)
  c1 : w.cell? ⟨g, o + 1, none⟩ = some (.int .i32 c.n)
  c2 : w.cell? ⟨g, o + 2, none⟩ = some (.string c.cls)
  c3 : w.cell? ⟨g, o + 3, none⟩ = some (.string c.nm)
  c4 : w.cell? ⟨g, o + 4, none⟩ = some (.string c.dsc)
theorem CAt.below {w wr : World} {g o : Nat} {c : CD} (h : CAt w g o c) (hb : Below w.heap.size w wr) : CAt wr g o c :=
  ⟨cell_later hb h.c0, cell_later hb h.c1, cell_later hb h.c2, cell_later hb h.c3, cell_later hb h.c4⟩
theorem CAt.block {w wr : World} {g o : Nat} {c : CD} (h : CAt w g o c) (hb : wr.heap[g]? = w.heap[g]?) : CAt wr g o c := by
  have k : ∀ o, wr.cell? ⟨g, o, none⟩ = w.cell? ⟨g, o, none⟩ := fun o => World.cell?_of_block (a := ⟨g, o, none⟩) hb
  exact ⟨(k _).trans h.c0, (k _).trans h.c1, (k _).trans h.c2, (k _).trans h.c3, (k _).trans h.c4⟩
def CLies (w : World) (g off : Nat) (l : List CD) : Prop := ∀ (i : Nat) c, l[i]? = some c → CAt w g (off + i * 5) c
def CView (w : World) (v : Value) (l : List CD) : Prop :=
  ∃ ao cap, v = .slice ao l.length cap ∧ l.length ≤ cap ∧ cap ≤ maxLen ∧ (∀ c ∈ l, c.Ok) ∧ (l = [] ∨ ∃ g off, ao = some ⟨g, off, none⟩ ∧ CLies w g off l)
theorem CView.below {w wr : World} {v : Value} {l : List CD} (h : CView w v l) (hb : Below w.heap.size w wr) : CView wr v l := by
  obtain ⟨ao, cap, rfl, hc, hm, hk, hl⟩ := h
  refine ⟨ao, cap, rfl, hc, hm, hk, ?_⟩
  rcases hl with h | ⟨g, off, e, hl⟩
  · exact .inl h
  · exact .inr ⟨g, off, e, fun i c hi => (hl i c hi).below hb⟩
theorem CView.drewN {w : World} {v : Value} {l : List CD} (h : CView w v l) (q : Nat) : CView (w.drewN q) v l := by
  obtain ⟨ao, cap, rfl, hc, hm, hk, hl⟩ := h
  refine ⟨ao, cap, rfl, hc, hm, hk, ?_⟩
  rcases hl with h | ⟨g, off, e, hl⟩
  · exact .inl h
  · exact .inr ⟨g, off, e, fun i c hi => (hl i c hi).block rfl⟩
theorem CView.ok {w : World} {v : Value} {l : List CD} (h : CView w v l) : ∀ c ∈ l, c.Ok := by obtain ⟨_, _, _, _, _, h, _⟩ := h; exact h
theorem CView.nil (w : World) : CView w (.slice none 0 0) [] := ⟨none, 0, rfl, Nat.le_refl _, by unfold maxLen; omega, by simp, .inl rfl⟩

/-- The cells of constants that lie one behind the other. -/
def ccells (l : List CD) : List Value := l.flatMap CD.cells
theorem ccells_cons (c : CD) (l : List CD) : ccells (c :: l) = c.cells ++ ccells l := rfl
theorem ccells_append (a b : List CD) : ccells (a ++ b) = ccells a ++ ccells b := by simp [ccells]
theorem ccells_len (l : List CD) : (ccells l).length = l.length * 5 := by
  induction l with
  | nil => rfl
  | cons c l ih => rw [ccells_cons, List.length_append, ih]; simp [CD.cells]; omega
theorem ccells_one (l : List CD) : ∀ u ∈ ccells l, u.oneCell' = true := by
  intro u hu
  simp only [ccells, List.mem_flatMap, CD.cells] at hu
  obtain ⟨c, _, hu⟩ := hu
  simp at hu
  rcases hu with rfl | rfl | rfl | rfl | rfl <;> rfl
theorem ccells_get : ∀ (l : List CD) (i : Nat) (c : CD), l[i]? = some c → ∀ j, j < 5 → (ccells l)[i * 5 + j]? = c.cells[j]? := by
  intro l
  induction l with
  | nil => intro i c h; simp at h
  | cons d l ih =>
    intro i c h j hj
    rw [ccells_cons]
    cases i with
    | zero =>
      simp at h; subst h
      rw [Nat.zero_mul, Nat.zero_add]
      exact List.getElem?_append_left (by simp [CD.cells]; omega)
    | succ i =>
      have hi : l[i]? = some c := by simpa using h
      rw [List.getElem?_append_right (by simp [CD.cells]; omega)]
      have e : (i + 1) * 5 + j - d.cells.length = i * 5 + j := by simp [CD.cells]; omega
      rw [e]
      exact ih i c hi j hj
theorem addr_add (g off j : Nat) : (⟨g, off, none⟩ : Addr).add j = ⟨g, off + j, none⟩ := by unfold Addr.add; split <;> simp_all
theorem CLies.cells {w : World} {g off : Nat} {l : List CD} (h : CLies w g off l) (j : Nat) (u : Value) (hj : (ccells l)[j]? = some u) : w.cell? ((⟨g, off, none⟩ : Addr).add j) = some u := by
  rw [addr_add]
  have hlt : j < l.length * 5 := by rw [← ccells_len]; exact (List.getElem?_eq_some_iff.1 hj).1
  have hi : j / 5 < l.length := by omega
  obtain ⟨c, hc⟩ : ∃ c, l[j / 5]? = some c := ⟨_, List.getElem?_eq_getElem hi⟩
  have e := ccells_get l (j / 5) c hc (j % 5) (by omega)
  rw [show j / 5 * 5 + j % 5 = j by omega, hj] at e
  have hA := h (j / 5) c hc
  have h5 : j % 5 < 5 := by omega
  have ej : off + j = off + j / 5 * 5 + j % 5 := by omega
  rw [ej]
  generalize j % 5 = r at *
  generalize off + j / 5 * 5 = o at *
  match r, h5, e with
  | 0, _, e => simp [CD.cells] at e; subst e; exact hA.c0
  | 1, _, e => simp [CD.cells] at e; subst e; exact hA.c1
  | 2, _, e => simp [CD.cells] at e; subst e; exact hA.c2
  | 3, _, e => simp [CD.cells] at e; subst e; exact hA.c3
  | 4, _, e => simp [CD.cells] at e; subst e; exact hA.c4
theorem CLies.of_cells {w : World} {g off : Nat} {l : List CD} (h : ∀ j u, (ccells l)[j]? = some u → w.cell? ((⟨g, off, none⟩ : Addr).add j) = some u) : CLies w g off l := by
  intro i c hi
  have k := fun j (hj : j < 5) u (hu : c.cells[j]? = some u) => by
    have := h (i * 5 + j) u ((ccells_get l i c hi j hj).trans hu)
    rw [addr_add, ← Nat.add_assoc] at this
    exact this
  exact ⟨k 0 (by omega) _ rfl, k 1 (by omega) _ rfl, k 2 (by omega) _ rfl, k 3 (by omega) _ rfl, k 4 (by omega) _ rfl⟩
theorem CView.of_own {w : World} {B : Nat} {v : Value} {l : List CD} (h : w.ownsRow B 83 5 v l.length (ccells l)) (hk : ∀ c ∈ l, c.Ok) : CView w v l := by
  rcases h.2 with ⟨rfl, h0⟩ | ⟨g, cap, cur, rfl, _, hg, h1, h2, h3, h4⟩
  · have : l = [] := List.length_eq_zero_iff.1 h0
    subst this
    exact CView.nil w
  · exact ⟨some ⟨g, 0, none⟩, cap, rfl, h1, h2, hk, .inr ⟨g, 0, rfl, CLies.of_cells (h.cells (g := g) rfl)⟩⟩
theorem cown_slice {w : World} {B n : Nat} {v : Value} {xs : List Value} (h : w.ownsRow B 83 5 v n xs) : ∃ ao cap, v = .slice ao n cap := by
  rcases h.2 with ⟨rfl, rfl⟩ | ⟨g, cap, cur, rfl, _⟩
  · exact ⟨_, _, rfl⟩
  · exact ⟨_, _, rfl⟩

def numC (n : Int) : CD := ⟨3, n, ⟨#[]⟩, ⟨#[]⟩, ⟨#[]⟩⟩
def zeroC : CD := ⟨0, 0, ⟨#[]⟩, ⟨#[]⟩, ⟨#[]⟩⟩



def getZ (l : List CD) (n kind : Int) : CD × Int :=
  match l[n.toNat]? with
  | some c => if 0 ≤ n ∧ c.kind = kind then (c, 0) else (zeroC, 14)
  | none => (zeroC, 14)
theorem getZ_neg {l : List CD} {n : Int} (kind : Int) (h : n < 0) : getZ l n kind = (zeroC, 14) := by
  unfold getZ
  split
  · rw [if_neg (by omega)]
  · rfl
theorem getZ_far {l : List CD} {n : Int} (kind : Int) (h : (l.length : Int) ≤ n) : getZ l n kind = (zeroC, 14) := by
  unfold getZ
  rw [List.getElem?_eq_none (by omega)]
theorem getZ_at {l : List CD} {k : Nat} (kind : Int) (hk : k < l.length) : getZ l (k : Int) kind = if l[k].kind = kind then (l[k], 0) else (zeroC, 14) := by
  unfold getZ
  rw [Int.toNat_natCast, List.getElem?_eq_getElem hk]
  simp
theorem CAt.allocs {w : World} {g o : Nat} {c : CD} (h : CAt w g o c) : (∀ x, (w.alloc x).cell? ⟨g, o, none⟩ = some (.int .i64 c.kind)) ∧ (∀ x, (w.alloc x).cell? ⟨g, o + 1, none⟩ = some (.int .i32 c.n)) ∧
    (∀ x, (w.alloc x).cell? ⟨g, o + 2, none⟩ = some (.string c.cls)) ∧ (∀ x, (w.alloc x).cell? ⟨g, o + 3, none⟩ = some (.string c.nm)) ∧ (∀ x, (w.alloc x).cell? ⟨g, o + 4, none⟩ = some (.string c.dsc)) := by
  have k := fun x => h.below ((Below.refl _ w).alloc (Nat.le_refl _) x)
  exact ⟨fun x => (k x).c0, fun x => (k x).c1, fun x => (k x).c2, fun x => (k x).c3, fun x => (k x).c4⟩



theorem eql_nilc (w : World) (a : Option Addr) (l c : Nat) : (binOp .eql 30 (.slice a l c) (.slice none 0 0)).run Try.prog w = .ok (.bool a.isNone) w := by
  simp [binOp, run_equal_slice_nil w 30 83 a l c Try.underlying30]
theorem Try.info83 : (Try.prog.info? 83).map (fun i => (i.zero, i.size, i.bytes)) = some (some zeroC.val, 5, 64) := by kernel_rfl


theorem box_at (w : World) (c : CD) : CAt (w.alloc (.cells #[.int .i64 c.kind, .int .i32 c.n, .string c.cls, .string c.nm, .string c.dsc] 83)) w.heap.size 0 c := by
  have h := heap_alloc_new w (.cells #[.int .i64 c.kind, .int .i32 c.n, .string c.cls, .string c.nm, .string c.dsc] 83)
  constructor
  all_goals rw [cell_of_row _ _ _ _ 83 (0, 0) h]; rfl

theorem below_drewN {B : Nat} {w W : World} (h : Below B w W) (q : Nat) : Below B w (W.drewN q) := ⟨h.os, h.tape, h.output, h.size, h.block⟩
end Go.Proofs.Ytknppdpcgdncdaa.Q
