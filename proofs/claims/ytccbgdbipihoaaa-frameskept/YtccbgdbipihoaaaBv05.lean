/- Texts QCM QCR QCS QCT QCU QCV KA KC FRa KD. -/
import Derived.Test.YtccbgdbipihoaaaBv04
import Derived.Deep.QuietTactic
import Derived.BigQuiet
import Derived.Maps.OwnIn
import Derived.Maps.Keyed
import Derived.Maps.AppendAt
import Derived.Lib.AppendZeros
import Derived.Laws.OwnMore
import Derived.Laws.Tables
import Derived.Laws.Rows
import Derived.Deep.RegionHeld3
import Derived.RangeFuncBox
import Derived.Lib.OwnKind
import Derived.OneCell
namespace Go.Proofs.Ytccbgdbipihoaaa.Q
open Go.RowKit D
structure FD where
  nm : ByteArray
  ds : ByteArray
  st : Bool
structure HD where
  fr : Int
  tO : Int
  aT : Int
  ty : ByteArray
structure RD where
  aT : Int
  loc : List ByteArray
  stk : List ByteArray
structure MD where
  nm : ByteArray
  ds : ByteArray
  st : Bool
  nat : Bool
  stk : Int
  loc : Int
  code : List Int
  hs : List HD
  rs : List RD
structure KD where
  nm : ByteArray
  sup : ByteArray
  pool : List CD
  fs : List FD
  ms : List MD

def LAt {α : Type} (k : Nat) (R : World → List Value → α → Prop) (w : World) (ao : Option Addr) (c : Nat) (l : List α) : Prop :=
  l.length ≤ c ∧ c ≤ maxLen ∧ ∃ rows, RowsAt k w ao l.length rows ∧ ∀ i x, l[i]? = some x → R w (rows i) x
theorem LAt.below {α : Type} {k : Nat} {R : World → List Value → α → Prop} {w w' : World} {ao : Option Addr} {c : Nat} {l : List α} (h : LAt k R w ao c l) (hb : Below w.heap.size w w') (hR : ∀ r x, R w r x → R w' r x) : LAt k R w' ao c l := by
  obtain ⟨h1, h2, rows, h3, h4⟩ := h
  exact ⟨h1, h2, rows, h3.below hb, fun i x hx => hR _ _ (h4 i x hx)⟩
theorem LAt.take {α : Type} {k : Nat} {R : World → List Value → α → Prop} {w : World} {ao : Option Addr} {c : Nat} {l : List α} (h : LAt k R w ao c l) (n : Nat) : LAt k R w ao c (l.take n) := by
  obtain ⟨h1, h2, rows, h3, h4⟩ := h
  have hn : (l.take n).length ≤ l.length := by rw [List.length_take]; omega
  exact ⟨by omega, h2, rows, h3.take hn, fun i x hx => h4 i x (by rw [List.getElem?_take] at hx; split at hx <;> simp_all)⟩
theorem LAt.nil {α : Type} (k : Nat) (R : World → List Value → α → Prop) (w : World) (ao : Option Addr) (c : Nat) (h : c ≤ maxLen) : LAt k R w ao c [] :=
  ⟨Nat.zero_le _, h, fun _ => [], fun hn => absurd hn (by simp), fun i x hx => by simp at hx⟩
theorem LAt.big {α : Type} {k : Nat} {R : World → List Value → α → Prop} {w : World} {ao : Option Addr} {c : Nat} {l : List α} (h : LAt k R w ao c l) : l.length ≤ 9223372036854775807 := by
  have h1 := h.1; have h2 := h.2.1; unfold maxLen at h2; omega

def TextR (_ : World) (r : List Value) (s : ByteArray) : Prop := r = [.string s] ∧ s.size ≤ 9223372036854775807
def ConstR (_ : World) (r : List Value) (c : CD) : Prop := r = c.cells ∧ c.Ok
def FieldR (_ : World) (r : List Value) (f : FD) : Prop := r = [.string f.nm, .string f.ds, .bool f.st] ∧ f.nm.size ≤ 9223372036854775807 ∧ f.ds.size ≤ 9223372036854775807
def HandR (_ : World) (r : List Value) (h : HD) : Prop := r = [.int .i64 h.fr, .int .i64 h.tO, .int .i64 h.aT, .string h.ty] ∧ h.ty.size ≤ 9223372036854775807
def FrameR (w : World) (r : List Value) (f : RD) : Prop :=
  ∃ o1 c1 o2 c2, r = [.int .i64 f.aT, .slice o1 f.loc.length c1, .slice o2 f.stk.length c2] ∧ LAt 1 TextR w o1 c1 f.loc ∧ LAt 1 TextR w o2 c2 f.stk
def MethR (w : World) (r : List Value) (m : MD) : Prop :=
  ∃ o1 c1 o2 c2 o3 c3, r = [.string m.nm, .string m.ds, .bool m.st, .bool m.nat, .int .i64 m.stk, .int .i64 m.loc, .slice o1 m.code.length c1, .slice o2 m.hs.length c2, .slice o3 m.rs.length c3] ∧
    m.nm.size ≤ 9223372036854775807 ∧ m.ds.size ≤ 9223372036854775807 ∧ View w (.slice o1 m.code.length c1) m.code ∧ LAt 4 HandR w o2 c2 m.hs ∧ LAt 3 FrameR w o3 c3 m.rs
def ClassV (w : World) (v : Value) (k : KD) : Prop :=
  ∃ o1 c1 o2 c2 o3 c3, v = .agg #[.string k.nm, .string k.sup, .slice o1 k.pool.length c1, .slice o2 k.fs.length c2, .slice o3 k.ms.length c3] ∧
    k.nm.size ≤ 9223372036854775807 ∧ k.sup.size ≤ 9223372036854775807 ∧ LAt 5 ConstR w o1 c1 k.pool ∧ LAt 3 FieldR w o2 c2 k.fs ∧ LAt 9 MethR w o3 c3 k.ms
theorem FrameR.below {w w' : World} (hb : Below w.heap.size w w') {r : List Value} {f : RD} (h : FrameR w r f) : FrameR w' r f := by
  obtain ⟨o1, c1, o2, c2, e, h1, h2⟩ := h
  exact ⟨o1, c1, o2, c2, e, h1.below hb (fun _ _ h => h), h2.below hb (fun _ _ h => h)⟩
theorem MethR.below {w w' : World} (hb : Below w.heap.size w w') {r : List Value} {m : MD} (h : MethR w r m) : MethR w' r m := by
  obtain ⟨o1, c1, o2, c2, o3, c3, e, s1, s2, h1, h2, h3⟩ := h
  exact ⟨o1, c1, o2, c2, o3, c3, e, s1, s2, h1.below hb, h2.below hb (fun _ _ h => h), h3.below hb (fun _ _ h => h.below hb)⟩
theorem ClassV.below {w w' : World} (hb : Below w.heap.size w w') {v : Value} {k : KD} (h : ClassV w v k) : ClassV w' v k := by
  obtain ⟨o1, c1, o2, c2, o3, c3, e, s1, s2, h1, h2, h3⟩ := h
  exact ⟨o1, c1, o2, c2, o3, c3, e, s1, s2, h1.below hb (fun _ _ h => h), h2.below hb (fun _ _ h => h), h3.below hb (fun _ _ h => h.below hb)⟩

/-! What Right says. -/

/-! Small functions. -/


end Go.Proofs.Ytccbgdbipihoaaa.Q
namespace Go.Proofs.Ytccbgdbipihoaaa.Q
open Go.RowKit D





end Go.Proofs.Ytccbgdbipihoaaa.Q
namespace Go.Proofs.Ytccbgdbipihoaaa.Q
open Go.RowKit D

end Go.Proofs.Ytccbgdbipihoaaa.Q
namespace Go.Proofs.Ytccbgdbipihoaaa.Q
open Go.RowKit D



end Go.Proofs.Ytccbgdbipihoaaa.Q
namespace Go.Proofs.Ytccbgdbipihoaaa.Q
open Go.RowKit D
end Go.Proofs.Ytccbgdbipihoaaa.Q
namespace Go.Proofs.Ytccbgdbipihoaaa.Q
open Go.RowKit D
theorem LAt.row {α : Type} {k : Nat} {R : World → List Value → α → Prop} {w : World} {ao : Option Addr} {c : Nat} {l : List α} (h : LAt k R w ao c l) {j : Nat} {x : α} (hx : l[j]? = some x) :
    ∃ b off r, ao = some ⟨b, off, none⟩ ∧ R w r x ∧ ∀ i v, r[i]? = some v → w.cell? ⟨b, off + j * k + i, none⟩ = some v := by
  obtain ⟨_, _, rows, h3, h4⟩ := h
  have hj : j < l.length := (List.getElem?_eq_some_iff.1 hx).1
  obtain ⟨b, off, e, _, hc⟩ := h3 (by omega)
  exact ⟨b, off, rows j, e, h4 j x hx, hc j hj⟩

end Go.Proofs.Ytccbgdbipihoaaa.Q
namespace Go.Proofs.Ytccbgdbipihoaaa.K
open Go.RowKit Go.MapKept Go.ChangeMaps Q Q.D

def SMap (w : World) (b : Nat) (l : List (ByteArray × Value)) : Prop :=
  ∃ es clock, w.heap[b]? = some (.map es clock) ∧ es.toList.map (fun e => (e.key, e.val)) = l.map (fun p => (Value.string p.1, p.2))
def slook : List (ByteArray × Value) → ByteArray → Option Value
  | [], _ => none
  | p :: l, s => if s == p.1 then some p.2 else slook l s

theorem findNow_str (s : ByteArray) : ∀ (es : List MapEntry) (l : List (ByteArray × Value)) (i : Nat), es.map (fun e => (e.key, e.val)) = l.map (fun p => (Value.string p.1, p.2)) →
    (slook l s = none → Instr.findNow .string (.string s) es i = some none) ∧ (∀ v, slook l s = some v → ∃ j, Instr.findNow .string (.string s) es i = some (some (j, v)))
  | [], [], i, _ => ⟨fun _ => rfl, fun v h => by simp [slook] at h⟩
  | [], p :: l, i, h => by simp at h
  | e :: es, [], i, h => by simp at h
  | e :: es, p :: l, i, h => by
    simp only [List.map_cons, List.cons.injEq, Prod.mk.injEq] at h
    obtain ⟨⟨h1, h2⟩, h3⟩ := h
    obtain ⟨a, b⟩ := findNow_str s es l (i + 1) h3
    unfold slook Instr.findNow
    rw [h1]
    cases hs : s == p.1
    · simp only [Instr.sameNow, hs]
      exact ⟨a, b⟩
    · simp only [Instr.sameNow, hs]
      exact ⟨fun h => by simp at h, fun v h => ⟨i, by rw [h2]; simpa using h⟩⟩
theorem check_str {P : Program} {k : TypeId} (hk : P.underlying k = some .string) (e : Bool) (n : Nat) (s : ByteArray) (w : World) : (Instr.checkKey e (n + 1) k (.string s)).run P w = .ok () w := by
  simp [Instr.checkKey, run_underlying hk, Result.andThen]
theorem SMap.put {P : Program} {w : World} {b : Nat} {l : List (ByteArray × Value)} {t k e : TypeId} (h : SMap w b l) (ht : P.underlying t = some (.map k e)) (hk : P.underlying k = some .string)
    (s : ByteArray) (v : Value) (hs : slook l s = none) : ∃ es clock, (Instr.mapUpdate t (.map (some b)) (.string s) v).run P w = .ok () (setBlock w b (.map es clock)) ∧ SMap (setBlock w b (.map es clock)) b (l ++ [(s, v)]) := by
  obtain ⟨es, clock, hb, he⟩ := h
  obtain ⟨f1, f2⟩ := findNow_str s es.toList l 0 he
  refine ⟨es.push ⟨.string s, v, clock⟩, clock + 1, ?_, ?_⟩
  · simp [Instr.mapUpdate, run_underlying ht, MapKept.run_getObj_map hb, check_str hk _ 9999, run_underlying hk, Instr.findKey, f1 hs, MapKept.run_setObj_map _ hb, Result.andThen, setBlock]
  · refine ⟨es.push ⟨.string s, v, clock⟩, clock + 1, ?_, ?_⟩
    · have := (Array.getElem?_eq_some_iff.1 hb).1
      simp [setBlock, this]
    · simp [he]
theorem SMap.kept {w w' : World} {b : Nat} {l : List (ByteArray × Value)} (h : SMap w b l) (hb : w'.heap[b]? = w.heap[b]?) : SMap w' b l := by
  obtain ⟨es, clock, h1, h2⟩ := h
  exact ⟨es, clock, hb.trans h1, h2⟩
theorem SMap.lt {w : World} {b : Nat} {l : List (ByteArray × Value)} (h : SMap w b l) : b < w.heap.size := by
  obtain ⟨es, clock, h1, _⟩ := h
  exact (Array.getElem?_eq_some_iff.1 h1).1

/-! What is read in one world is read in another. -/
structure Ext (w w' : World) : Prop where
  size : w.heap.size ≤ w'.heap.size
  cell : ∀ p v, w.cell? p = some v → w'.cell? p = some v
theorem Ext.refl (w : World) : Ext w w := ⟨Nat.le_refl _, fun _ _ h => h⟩
theorem Ext.trans {a b c : World} (h : Ext a b) (k : Ext b c) : Ext a c := ⟨Nat.le_trans h.size k.size, fun p v e => k.cell p v (h.cell p v e)⟩
theorem ext_below {w w' : World} (h : Below w.heap.size w w') : Ext w w' := ⟨h.size, fun p v e => by rw [h.cell (World.block_lt_of_cell? _ _ e)]; exact e⟩
theorem RowsAt.ext {k n : Nat} {w w' : World} {ao : Option Addr} {rows : Nat → List Value} (h : RowsAt k w ao n rows) (he : Ext w w') : RowsAt k w' ao n rows := by
  intro hn
  obtain ⟨b, off, e, hlt, hc⟩ := h hn
  exact ⟨b, off, e, Nat.lt_of_lt_of_le hlt he.size, fun j hj i v hv => he.cell _ _ (hc j hj i v hv)⟩
theorem LAt.ext {α : Type} {k : Nat} {R : World → List Value → α → Prop} {w w' : World} {ao : Option Addr} {c : Nat} {l : List α} (h : LAt k R w ao c l) (he : Ext w w') (hR : ∀ r x, R w r x → R w' r x) : LAt k R w' ao c l := by
  obtain ⟨h1, h2, rows, h3, h4⟩ := h
  exact ⟨h1, h2, rows, RowsAt.ext h3 he, fun i x hx => hR _ _ (h4 i x hx)⟩
theorem View.ext {w w' : World} {v : Value} {l : List Int} (h : View w v l) (he : Ext w w') : View w' v l := by
  obtain ⟨ao, cap, rfl, hc, hm, hy, hl⟩ := h
  refine ⟨ao, cap, rfl, hc, hm, hy, ?_⟩
  rcases hl with h | ⟨g, off, e, hl⟩
  · exact .inl h
  · exact .inr ⟨g, off, e, fun j x hj => he.cell _ _ (hl j x hj)⟩
theorem FrameR.ext {w w' : World} (he : Ext w w') {r : List Value} {f : RD} (h : FrameR w r f) : FrameR w' r f := by
  obtain ⟨o1, c1, o2, c2, e, h1, h2⟩ := h
  exact ⟨o1, c1, o2, c2, e, LAt.ext h1 he (fun _ _ h => h), LAt.ext h2 he (fun _ _ h => h)⟩
theorem MethR.ext {w w' : World} (he : Ext w w') {r : List Value} {m : MD} (h : MethR w r m) : MethR w' r m := by
  obtain ⟨o1, c1, o2, c2, o3, c3, e, s1, s2, h1, h2, h3⟩ := h
  exact ⟨o1, c1, o2, c2, o3, c3, e, s1, s2, View.ext h1 he, LAt.ext h2 he (fun _ _ h => h), LAt.ext h3 he (fun _ _ h => FrameR.ext he h)⟩

/-! A world of which only some blocks are seen. -/
def seen (X : Nat → Bool) (w : World) : World := { w with heap := w.heap.mapIdx fun i o => if X i then o else .cells #[] 0 }
theorem seen_size (X : Nat → Bool) (w : World) : (seen X w).heap.size = w.heap.size := by simp [seen]
theorem seen_cell {X : Nat → Bool} {w : World} {p : Addr} {v : Value} : (seen X w).cell? p = some v ↔ X p.block = true ∧ w.cell? p = some v := by
  unfold World.cell? seen
  simp only [Array.getElem?_mapIdx]
  cases h : w.heap[p.block]? with
  | none => simp
  | some o =>
    cases hx : X p.block
    · simp
    · simp
theorem seen_ext (X : Nat → Bool) (w : World) : Ext (seen X w) w := ⟨by rw [seen_size]; exact Nat.le_refl _, fun p v h => (seen_cell.1 h).2⟩
theorem seen_mono {X Y : Nat → Bool} {w w' : World} (hs : w.heap.size ≤ w'.heap.size) (h : ∀ b, b < w.heap.size → X b = true → Y b = true ∧ w'.heap[b]? = w.heap[b]?) : Ext (seen X w) (seen Y w') := by
  refine ⟨by rw [seen_size, seen_size]; exact hs, fun p v e => ?_⟩
  obtain ⟨h1, h2⟩ := seen_cell.1 e
  obtain ⟨h3, h4⟩ := h p.block (World.block_lt_of_cell? _ _ h2) h1
  refine seen_cell.2 ⟨h3, ?_⟩
  unfold World.cell? at h2 ⊢
  rw [h4]; exact h2

/-! Members. -/
structure Mem where
  k : KD
  b : Nat
def ptr : Option Mem → Value
  | none => .pointer none
  | some m => .pointer (some ⟨m.b, 0, none⟩)
def mfind : List Mem → ByteArray → Option Mem
  | [], _ => none
  | m :: o, s => if s == m.k.nm then some m else mfind o s
structure MemAt (w : World) (m : Mem) (ab : Option Mem) (o1 : Option Addr) (c1 : Nat) (o2 : Option Addr) (c2 : Nat) (o3 : Option Addr) (c3 : Nat) : Prop where
  e0 : w.cell? ⟨m.b, 0, none⟩ = some (.string m.k.nm)
  e1 : w.cell? ⟨m.b, 1, none⟩ = some (.string m.k.sup)
  e2 : w.cell? ⟨m.b, 2, none⟩ = some (.slice o1 m.k.pool.length c1)
  e3 : w.cell? ⟨m.b, 3, none⟩ = some (.slice o2 m.k.fs.length c2)
  e4 : w.cell? ⟨m.b, 4, none⟩ = some (.slice o3 m.k.ms.length c3)
  e5 : w.cell? ⟨m.b, 5, none⟩ = some (ptr ab)
  s1 : m.k.nm.size ≤ 9223372036854775807
  s2 : m.k.sup.size ≤ 9223372036854775807
  k1 : LAt 5 ConstR w o1 c1 m.k.pool
  k2 : LAt 3 FieldR w o2 c2 m.k.fs
  k3 : LAt 9 MethR w o3 c3 m.k.ms
def MemIn (w : World) (m : Mem) (ab : Option Mem) : Prop := ∃ o1 c1 o2 c2 o3 c3, MemAt w m ab o1 c1 o2 c2 o3 c3
theorem MemIn.ext {w w' : World} {m : Mem} {ab : Option Mem} (h : MemIn w m ab) (he : Ext w w') : MemIn w' m ab := by
  obtain ⟨o1, c1, o2, c2, o3, c3, h⟩ := h
  exact ⟨o1, c1, o2, c2, o3, c3, ⟨he.cell _ _ h.e0, he.cell _ _ h.e1, he.cell _ _ h.e2, he.cell _ _ h.e3, he.cell _ _ h.e4, he.cell _ _ h.e5, h.s1, h.s2, LAt.ext h.k1 he (fun _ _ h => h), LAt.ext h.k2 he (fun _ _ h => h), LAt.ext h.k3 he (fun _ _ h => MethR.ext he h)⟩⟩
theorem MemAt.cls {w : World} {m : Mem} {ab : Option Mem} {o1 : Option Addr} {c1 : Nat} {o2 : Option Addr} {c2 : Nat} {o3 : Option Addr} {c3 : Nat} (h : MemAt w m ab o1 c1 o2 c2 o3 c3) :
    ClassV w (.agg #[.string m.k.nm, .string m.k.sup, .slice o1 m.k.pool.length c1, .slice o2 m.k.fs.length c2, .slice o3 m.k.ms.length c3]) m.k :=
  ⟨o1, c1, o2, c2, o3, c3, rfl, h.s1, h.s2, h.k1, h.k2, h.k3⟩
def Mems (w : World) : List Mem → Prop
  | [] => True
  | m :: o => MemIn w m (mfind o m.k.sup) ∧ mfind o m.k.nm = none ∧ Mems w o
theorem Mems.ext {w w' : World} (he : Ext w w') : ∀ {l : List Mem}, Mems w l → Mems w' l
  | [], _ => trivial
  | _ :: _, ⟨h1, h2, h3⟩ => ⟨h1.ext he, h2, Mems.ext he h3⟩
def Chain (w : World) : Option Mem → List Mem → Prop
  | p, [] => p = none
  | p, m :: l => p = some m ∧ ∃ ab, MemIn w m ab ∧ Chain w ab l
theorem Chain.ext {w w' : World} (he : Ext w w') : ∀ {p : Option Mem} {l : List Mem}, Chain w p l → Chain w' p l
  | _, [], h => h
  | _, _ :: _, ⟨h1, ab, h2, h3⟩ => ⟨h1, ab, h2.ext he, Chain.ext he h3⟩
theorem Chain.at {w : World} : ∀ {p : Option Mem} {l : List Mem}, Chain w p l → ∀ x ∈ l, ∃ ab, MemIn w x ab
  | _, [], _, x, hx => by simp at hx
  | _, m :: l, ⟨_, ab, h2, h3⟩, x, hx => by
    rcases List.mem_cons.1 hx with rfl | h
    · exact ⟨ab, h2⟩
    · exact h3.at x h
end Go.Proofs.Ytccbgdbipihoaaa.K
namespace Go.Proofs.Ytccbgdbipihoaaa.K
open Go.RowKit Q Q.D

def flatR (rows : Nat → List Value) (n : Nat) : List Value := (List.range n).flatMap rows
theorem flatR_succ (rows : Nat → List Value) (n : Nat) : flatR rows (n + 1) = flatR rows n ++ rows n := by simp [flatR, List.range_succ]
theorem flatR_len {rows : Nat → List Value} {k : Nat} : ∀ {n : Nat}, (∀ j, j < n → (rows j).length = k) → (flatR rows n).length = n * k
  | 0, _ => by simp [flatR]
  | n + 1, h => by
    rw [flatR_succ, List.length_append, flatR_len (fun j hj => h j (by omega)), h n (by omega), Nat.add_mul, Nat.one_mul]
theorem flatR_at {rows : Nat → List Value} {k : Nat} : ∀ {n : Nat}, (∀ j, j < n → (rows j).length = k) → ∀ j, j < n → ∀ i, i < k → (flatR rows n)[j * k + i]? = (rows j)[i]?
  | 0, _, j, hj, _, _ => by omega
  | n + 1, h, j, hj, i, hi => by
    have hl := flatR_len (rows := rows) (k := k) (n := n) (fun j hj => h j (by omega))
    rw [flatR_succ]
    by_cases e : j = n
    · subst e
      rw [List.getElem?_append_right (by rw [hl]; omega), hl]
      congr 1; omega
    · have : j * k + i < n * k := by
        have h1 : (j + 1) * k ≤ n * k := Nat.mul_le_mul_right k (by omega)
        rw [Nat.add_mul] at h1; omega
      rw [List.getElem?_append_left (by rw [hl]; exact this)]
      exact flatR_at (fun j hj => h j (by omega)) j (by omega) i hi
def newB (B : Nat) (b : Nat) : Bool := decide (B ≤ b)
theorem own_rows {B : Nat} {e : TypeId} {k : Nat} {w : World} {v : Value} {n : Nat} {rows : Nat → List Value} (h : w.ownsRow B e k v n (flatR rows n)) (hk : ∀ j, j < n → (rows j).length = k) :
    ∃ ao c, v = .slice ao n c ∧ n ≤ c ∧ c ≤ maxLen ∧ RowsAt k (seen (newB B) w) ao n rows := by
  rcases h.2 with ⟨rfl, rfl⟩ | ⟨g, cap, cur, rfl, hB, hg, h1, h2, _⟩
  · exact ⟨none, 0, rfl, Nat.le_refl _, by unfold maxLen; omega, fun hn => absurd hn (by omega)⟩
  · refine ⟨some ⟨g, 0, none⟩, cap, rfl, h1, h2, fun _ => ⟨g, 0, rfl, by rw [seen_size]; exact (Array.getElem?_eq_some_iff.1 hg).1, fun j hj i u hu => ?_⟩⟩
    have hi : i < k := by have := (List.getElem?_eq_some_iff.1 hu).1; rwa [hk j hj] at this
    have := h.cells (g := g) rfl (j * k + i) u (by rw [flatR_at hk j hj i hi]; exact hu)
    rw [Addr.add_lit] at this
    refine seen_cell.2 ⟨by simp [newB]; exact hB, ?_⟩
    rwa [show 0 + j * k + i = 0 + (j * k + i) by omega]

theorem infoS : (Try.prog.info? 9).map (fun i => (i.zero, i.size, i.bytes)) = some (some (.string ⟨#[]⟩), 1, 16) := by kernel_rfl





end Go.Proofs.Ytccbgdbipihoaaa.K
namespace Go.Proofs.Ytccbgdbipihoaaa.Fr
open Go.RowKit Q Q.D K

def tx (l : List ByteArray) : List Value := l.map Value.string
theorem tx_app (a b : List ByteArray) : tx (a ++ b) = tx a ++ tx b := by simp [tx]
theorem tx_len (a : List ByteArray) : (tx a).length = a.length := by simp [tx]
def OwnT (w : World) (B : Nat) (v : Value) (l : List ByteArray) : Prop := w.ownsRow B 9 1 v l.length (tx l)
theorem texts_flat (l : List ByteArray) : tx l = flatR (fun j => [.string (l.getD j ⟨#[]⟩)]) l.length := by
  refine List.ext_getElem? (fun y => ?_)
  have hk : ∀ j, j < l.length → ((fun j => [Value.string (l.getD j ⟨#[]⟩)]) j).length = 1 := fun j _ => rfl
  by_cases hy : y < l.length
  · have := flatR_at hk y hy 0 (by omega)
    rw [Nat.mul_one, Nat.add_zero] at this
    rw [this, List.getD_eq_getElem?_getD]
    simp [tx, hy]
  · rw [List.getElem?_eq_none (by simp [tx]; omega), List.getElem?_eq_none (by rw [flatR_len hk]; omega)]
theorem OwnT.at {w : World} {B : Nat} {v : Value} {l : List ByteArray} (h : OwnT w B v l) (hs : ∀ s ∈ l, s.size ≤ 9223372036854775807) : ∃ ao c, v = .slice ao l.length c ∧ LAt 1 TextR w ao c l := by
  unfold OwnT at h
  rw [texts_flat] at h
  obtain ⟨ao, c, rfl, l1, l2, hr⟩ := own_rows h (fun _ _ => rfl)
  refine ⟨ao, c, rfl, l1, l2, fun j => [.string (l.getD j ⟨#[]⟩)], RowsAt.ext hr (seen_ext _ _), fun i x hx => ⟨?_, hs x (List.mem_of_getElem? hx)⟩⟩
  simp only [List.getD_eq_getElem?_getD, hx]; rfl
theorem LAt.small {w : World} {ao : Option Addr} {c : Nat} {l : List ByteArray} (h : LAt 1 TextR w ao c l) : ∀ s ∈ l, s.size ≤ 9223372036854775807 := by
  intro s hs
  obtain ⟨_, _, _, _, k⟩ := h
  obtain ⟨i, hi⟩ := List.getElem?_of_mem hs
  exact (k i s hi).2
theorem LAt.cells {w : World} {a : Addr} {c : Nat} {l : List ByteArray} (h : LAt 1 TextR w (some a) c l) (j : Nat) (u : Value) (hj : (tx l)[j]? = some u) : w.cell? (a.add j) = some u := by
  obtain ⟨_, _, rows, hr, k⟩ := h
  have hj' : j < l.length := by have := (List.getElem?_eq_some_iff.1 hj).1; rwa [tx_len] at this
  obtain ⟨b, off, e, _, d⟩ := hr (by omega)
  cases e
  obtain ⟨x, hx⟩ : ∃ x, l[j]? = some x := ⟨_, List.getElem?_eq_getElem hj'⟩
  have hu : u = .string x := by
    simp only [tx, List.getElem?_map, hx] at hj
    exact (Option.some.inj hj).symm
  have := d j hj' 0 (.string x) (by rw [(k j x hx).1]; rfl)
  rw [Addr.add_lit, hu]
  simpa using this
theorem wpList_sappend {w : World} {ops : Array Oper} {rest : List Oper} {o : Oper} {a : Act} {Q : Exit → Act → World → Prop} (hgd : o.guard = none) (s x : Operand)
    (ho : o.op = .call { callee := .builtin .append, args := #[s, x], argTypes := #[24, 24] })
    (B : Nat) (v : Value) (l y : List ByteArray) (ao : Option Addr) (c : Nat) (hown : OwnT w B v l) (hs : a.eval s = v) (hx : a.eval x = .slice ao y.length c) (hy : LAt 1 TextR w ao c y)
    (hlen : l.length + y.length ≤ 8796093022200) (hB : B ≤ w.heap.size)
    (h : ∀ v' w', OwnT w' B v' (l ++ y) → w.grownBy w' v.ownBlock → Below B w w' → wpList Try.prog ops Q rest (a.put o.dst v') w') :
    wpList Try.prog ops Q (o :: rest) a w := by
  obtain ⟨i0, hi, hz0, hz1, hz2⟩ := info_parts infoS
  refine wpList_plain hgd fun K hK => ?_
  have key : ∃ v' w', (Builtin.append_ #[24, 24] o.type #[v, .slice ao y.length c]).run Try.prog w = .ok v' w' ∧ OwnT w' B v' (l ++ y) ∧ w.grownBy w' v.ownBlock := by
    cases ao with
    | none =>
      obtain rfl : y = [] := by
        obtain ⟨_, _, _, hr, _⟩ := hy
        rcases Nat.eq_zero_or_pos y.length with e | e
        · exact List.length_eq_zero_iff.1 e
        · obtain ⟨_, _, e, _⟩ := hr e; cases e
      refine ⟨v, w, ?_, by simpa using hown, World.grownBy.refl _ _⟩
      rcases hown.2 with ⟨rfl, e0⟩ | ⟨g, cap, cur, rfl, hbg, hg, hnc, hcm, hcs, htake⟩
      · have : l = [] := List.length_eq_zero_iff.1 e0
        subst this
        simp [Builtin.append_, run_underlying Try.underlying24, sizeOf, typeInfo, hi, Builtin.lenOf, Builtin.firstCells]
      · simp [Builtin.append_, run_underlying Try.underlying24, sizeOf, typeInfo, hi, Builtin.lenOf, Builtin.firstCells, loadCells, hnc, storeCells]
    | some a1 =>
      obtain ⟨v', w', hr, h2, h3, _, _⟩ := run_append_own_at (P := Try.prog) w B 24 o.type 9 i0 (.string ⟨#[]⟩) 1 16 Try.underlying24 hi hz0 hz1 hz2 rfl (by decide) v l.length (tx l) hown a1 y.length c (tx y) (by rw [tx_len, Nat.mul_one])
        (LAt.cells hy) (fun u hu => by simp only [tx, List.mem_map] at hu; obtain ⟨z, _, rfl⟩ := hu; rfl) (by unfold maxLen; omega) (by omega) hB
      exact ⟨v', w', hr, by unfold OwnT; rw [tx_app, List.length_append]; exact h2, h3⟩
  obtain ⟨v', w', hr, h2, h3⟩ := key
  unfold Oper.wp execOp
  simp only [ho, resolve, invoke, builtin, Sem.run_bind, Sem.run_pure, Result.andThen_ok, List.map_toArray, List.map_cons, List.map_nil, hs, hx, hr]
  exact hK _ _ (h v' w' h2 h3 ((Below.refl B w).grown h3 hB (fun k hk => (hown.lt k hk).1)))

theorem zc_len (n : Nat) : (Builtin.zeroCells (Value.string ⟨#[]⟩).cells n).size = n := by
  simp [Builtin.zeroCells, Value.cells]
set_option maxRecDepth 8000 in
set_option maxHeartbeats 1000000 in
theorem grow_nil (w : World) (n : Nat) (hn : n ≤ 8796093022200) :
    Calls Try.prog 35 #[.slice none 0 0, .int .i64 (n : Int)] w fun e w' => ∃ v, e = .returned v ∧ OwnT w' w.heap.size v [] ∧ Below w.heap.size w w' := by
  have hn0 : ¬ (n : Int) < 0 := by omega
  rcases Nat.eq_zero_or_pos n with rfl | hp
  · go_enter Try.func35, Try.ntmps35
    go_wp2
    go_ret
    exact ⟨_, rfl, World.ownsRow_nil _ _ _ _, Below.refl _ _⟩
  · obtain ⟨i0, hi, hz0, hz1, hz2⟩ := info_parts infoS
    have hrun := fun ty => Lib.run_append_nil_zeros (P := Try.prog) w 24 3 ty 9 i0 (.string ⟨#[]⟩) .i64 .i64 Try.underlying24 Try.underlying3 hi hz0 n hp (by omega) (by omega) (by rw [hz2]; omega)
    have hG : n ≤ grownCap w n 0 9 := grownCap_ge w _ _ _
    have hG2 := grownCap_le_maxLen w n 0 9 (by unfold maxLen; omega)
    have hG63 : grownCap w n 0 9 ≤ 9223372036854775807 := by unfold maxLen at hG2; omega
    have hp' : (n : Int) > 0 := by omega
    generalize grownCap w n 0 9 = G at *
    go_enter Try.func35, Try.ntmps35
    go_wp2_with (at_builtin; refine Lib.wpList_append_run _ rfl _ _ _ _ rfl _ _ rfl rfl _ _ (hrun _) ?_)
    go_ret
    refine ⟨_, rfl, ⟨by simp [tx], .inr ⟨w.heap.size, G, Builtin.zeroCells #[Value.string ⟨#[]⟩] n ++ Builtin.zeroCells #[Value.string ⟨#[]⟩] (G - n), rfl, Nat.le_refl _, ?_, Nat.zero_le _, hG2, ?_, by simp [tx]⟩⟩, ?_⟩
    · exact heap_alloc_new w _
    · have h1 := zc_len n
      have h2 := zc_len (G - n)
      rw [show (Value.string ⟨#[]⟩).cells = #[Value.string ⟨#[]⟩] from rfl] at h1 h2
      rw [Array.size_append, h1, h2]; omega
    · exact ((Below.refl _ _).alloc (Nat.le_refl _) _).drew

def TextsR (w : World) (r : List Value) (y : List ByteArray) : Prop := ∃ o c, r = [.slice o y.length c] ∧ LAt 1 TextR w o c y
theorem TextsR.below {w w' : World} (hb : Below w.heap.size w w') (r : List Value) (y : List ByteArray) (h : TextsR w r y) : TextsR w' r y := by
  obtain ⟨o, c, e, h⟩ := h
  exact ⟨o, c, e, h.below hb (fun _ _ h => h)⟩
theorem take_flat (ls : List (List ByteArray)) (i : Nat) (y : List ByteArray) (h : ls[i]? = some y) : (ls.take (i + 1)).flatten = (ls.take i).flatten ++ y := by
  rw [List.take_add_one, h, List.flatten_append]; simp
theorem take_len (ls : List (List ByteArray)) (i : Nat) : (ls.take i).flatten.length ≤ ls.flatten.length := by
  have h : ls.flatten = (ls.take i).flatten ++ (ls.drop i).flatten := by rw [← List.flatten_append, List.take_append_drop]
  rw [h, List.length_append]; omega
set_option maxRecDepth 8000 in
set_option maxHeartbeats 2000000 in
theorem concat_any (w : World) (ao : Option Addr) (c : Nat) (ls : List (List ByteArray)) (h : LAt 1 TextsR w ao c ls) (ht : ls.flatten.length ≤ 8796093022200) :
    Calls Try.prog 23 #[.slice ao ls.length c] w fun e w' => ∃ v, e = .returned v ∧ OwnT w' w.heap.size v ls.flatten ∧ Below w.heap.size w w' := by
  have hbig := h.big
  have HH := D.hidIt h
  clear h
  go_enter Try.func23, Try.ntmps23
  go_wp2_with fail
  go_loopw [3, 11] (fun sv iv wr => ∃ i : Nat, iv = .int .i64 (i : Int) ∧ i ≤ ls.length ∧ sv = .int .i64 (((ls.take i).flatten.length : Nat) : Int) ∧ wr = w) (fun _ iv _ => ls.length - (intOf iv).toNat)
  case atStart => exact ⟨0, rfl, Nat.zero_le _, by simp, rfl⟩
  case round =>
    obtain ⟨i, rfl, hi, rfl, hww⟩ := hrel
    have hww := hww.symm
    subst hww
    by_cases hlt : i < ls.length
    · have hlt' : (i : Int) < (ls.length : Int) := by omega
      obtain ⟨_, _, rows, hr, k⟩ := HH.out
      obtain ⟨b, off, rfl, _, d⟩ := hr (by omega)
      obtain ⟨y, hy⟩ : ∃ y, ls[i]? = some y := ⟨_, List.getElem?_eq_getElem hlt⟩
      obtain ⟨o2, c2, e2, h2⟩ := k i y hy
      have c0 := d i hlt 0 (.slice o2 y.length c2) (by rw [e2]; rfl)
      simp only [Nat.mul_one, Nat.add_zero] at c0
      have hf := take_flat ls i y hy
      have hl := take_len ls (i + 1)
      rw [hf, List.length_append] at hl
      have hneg : ¬ (((ls.take i).flatten.length : Nat) : Int) + (y.length : Int) < 0 := by omega
      generalize hS : (ls.take i).flatten = S at *
      clear d hr k h2 e2
      go_wp2_with fail
      go_roundw
      · exact ⟨i + 1, by go_num, by omega, by rw [hf, List.length_append]; go_num, by first | rfl | trivial⟩
      · simp [intOf]; omega
    · have hlt' : ¬ (i : Int) < (ls.length : Int) := by omega
      obtain rfl : i = ls.length := by omega
      rw [List.take_length]
      clear hlt hi
      obtain ⟨N, hN⟩ : ∃ N, N = ls.flatten.length := ⟨_, rfl⟩
      rw [← hN] at ht
      have HN := D.hidIt hN
      rw [← hN]
      clear hN
      have G := D.hidIt (grow_nil w N ht)
      go_wp2_with (go_at_call 35; refine G.out.mono ?_; rintro e w1 ⟨v1, rfl, ho1, hb1⟩; have HO1 := D.hidIt ho1; have HB1 := D.hidIt hb1; clear ho1 hb1)
      go_loopw [6, 27] (fun sv iv w2 => ∃ i : Nat, iv = .int .i64 (i : Int) ∧ i ≤ ls.length ∧ OwnT w2 w.heap.size sv (ls.take i).flatten ∧ Below w.heap.size w w2) (fun _ iv _ => ls.length - (intOf iv).toNat)
      case atStart => exact ⟨0, rfl, Nat.zero_le _, HO1.out, HB1.out⟩
      case round =>
        obtain ⟨i, rfl, hi, ho, hb⟩ := hrel
        have HO := D.hidIt ho
        have HB := D.hidIt hb
        have hsz := hb.size
        by_cases hlt : i < ls.length
        · have hlt' : (i : Int) < (ls.length : Int) := by omega
          obtain ⟨_, _, rows, hr, k⟩ := HH.out.below hb (TextsR.below hb)
          obtain ⟨b, off, rfl, _, d⟩ := hr (by omega)
          obtain ⟨y, hy⟩ : ∃ y, ls[i]? = some y := ⟨_, List.getElem?_eq_getElem hlt⟩
          obtain ⟨o2, c2, e2, h2⟩ := k i y hy
          have c0 := d i hlt 0 (.slice o2 y.length c2) (by rw [e2]; rfl)
          simp only [Nat.mul_one, Nat.add_zero] at c0
          have hf := take_flat ls i y hy
          have hl := take_len ls (i + 1)
          rw [hf, List.length_append, ← HN.out] at hl
          have HF := D.hidIt hf
          clear hf
          generalize (ls.take i).flatten = S at *
          have H2 := D.hidIt h2
          clear d hr k h2 e2 ho hb
          go_wp2_with (at_builtin; refine wpList_sappend rfl _ _ rfl w.heap.size _ _ _ _ _ HO.out rfl rfl H2.out (by omega) hsz ?_; intro v3 w3 ho3 _ hb3; have HO3 := D.hidIt ho3; have HB3 := D.hidIt (HB.out.trans hb3); clear ho3 hb3 c0)
          go_roundw
          · refine ⟨i + 1, by go_num, by omega, ?_, HB3.out⟩
            rw [HF.out]; exact HO3.out
          · simp [intOf]; omega
        · have hlt' : ¬ (i : Int) < (ls.length : Int) := by omega
          obtain rfl : i = ls.length := by omega
          clear ho hb
          go_wp2_with fail
          go_ret
          refine ⟨_, rfl, ?_, HB.out⟩
          have := HO.out
          rwa [List.take_length] at this
end Go.Proofs.Ytccbgdbipihoaaa.Fr
namespace Go.Proofs.Ytccbgdbipihoaaa.K
open Go.RowKit Q Q.D

def Blk (W : World) (b : Nat) (row : Array Value) (t : TypeId) : Prop := W.heap[b]? = some (.cells row t (0, 0))
theorem Blk.lt {W : World} {b : Nat} {row : Array Value} {t : TypeId} (h : Blk W b row t) : b < W.heap.size := (Array.getElem?_eq_some_iff.1 h).1
theorem Blk.cell {W : World} {b : Nat} {row : Array Value} {t : TypeId} (h : Blk W b row t) (i : Nat) : W.cell? ⟨b, i, none⟩ = row[i]? := by simp [World.cell?, show W.heap[b]? = _ from h]
theorem Blk.frozen {W : World} {b : Nat} {row : Array Value} {t : TypeId} (h : Blk W b row t) (i : Nat) : W.frozen? ⟨b, i, none⟩ = false := by simp [World.frozen?, show W.heap[b]? = _ from h]
theorem Blk.new (W : World) (row : Array Value) (t : TypeId) : Blk (W.alloc (.cells row t)) W.heap.size row t := World.alloc_heap_new W _
theorem Blk.below {X Y : World} {b : Nat} {row : Array Value} {t : TypeId} (h : Blk X b row t) (hb : Below X.heap.size X Y) : Blk Y b row t := (hb.block _ h.lt).trans h
theorem Blk.alloc {X : World} {b : Nat} {row : Array Value} {t : TypeId} (h : Blk X b row t) (o : Obj) : Blk (X.alloc o) b row t := h.below (balloc X o)
theorem Blk.set {W : World} {b : Nat} {row : Array Value} {t : TypeId} (h : Blk W b row t) (i : Nat) (v : Value) : Blk (W.setCell ⟨b, i, none⟩ v) b (row.setIfInBounds i v) t := by
  obtain ⟨hlt, hk⟩ := Array.getElem?_eq_some_iff.1 h
  show (W.heap.modify b _)[b]? = _
  rw [Array.getElem?_eq_getElem (by rw [Array.size_modify]; exact hlt), Array.getElem_modify_self, hk]
  rfl
theorem Blk.other {W : World} {b b' : Nat} {row : Array Value} {t : TypeId} (h : Blk W b row t) (hne : b ≠ b') (i : Nat) (v : Value) : Blk (W.setCell ⟨b', i, none⟩ v) b row t := by
  show (W.heap.modify b' _)[b]? = _
  rw [Array.getElem?_modify]
  rw [if_neg (fun e => hne e.symm)]
  exact h
theorem below_set {B : Nat} {w W : World} (h : Below B w W) {b : Nat} (hb : B ≤ b) (i : Nat) (v : Value) : Below B w (W.setCell ⟨b, i, none⟩ v) := h.setCell (p := ⟨b, i, none⟩) hb v

theorem own_keep {w w' : World} {B : Nat} {e : TypeId} {k : Nat} {v : Value} {n : Nat} {xs : List Value} (h : w.ownsRow B e k v n xs) (hb : Below w.heap.size w w') : w'.ownsRow B e k v n xs :=
  ⟨h.1, h.2.imp id (fun ⟨g, cap, cur, e, hB, hg, r⟩ => ⟨g, cap, cur, e, hB, (hb.block _ (Array.getElem?_eq_some_iff.1 hg).1).trans hg, r⟩)⟩
theorem own_not {w : World} {B : Nat} {e : TypeId} {k : Nat} {v : Value} {n : Nat} {xs : List Value} (h : w.ownsRow B e k v n xs) {b : Nat} {row : Array Value} {t : TypeId} (hb : Blk w b row t) (ht : t ≠ e) : v.ownBlock ≠ some b := fun eb => by
  obtain ⟨c, fz, h'⟩ := Lib.ownsRow_kind h b eb
  rw [show w.heap[b]? = _ from hb] at h'
  simp only [Option.some.injEq, Obj.cells.injEq] at h'
  exact ht h'.2.1
def newBut (lo : Nat) (v : Value) (b : Nat) : Bool := decide (lo ≤ b) && (v.ownBlock != some b)
theorem newBut_below {lo : Nat} {v : Value} {w w' : World} (h : Below w.heap.size w w') : Ext (seen (newBut lo v) w) (seen (newBut lo v) w') := seen_mono h.size (fun b hb hx => ⟨hx, h.block b hb⟩)
theorem newBut_set {lo : Nat} {v : Value} {w : World} {b : Nat} (hb : b < lo ∨ v.ownBlock = some b) (i : Nat) (u : Value) : Ext (seen (newBut lo v) w) (seen (newBut lo v) (w.setCell ⟨b, i, none⟩ u)) := seen_mono (by simp) (fun x _ hx => ⟨hx, by
  simp only [newBut, Bool.and_eq_true, decide_eq_true_eq, bne_iff_ne] at hx
  refine heap_setCell_other w ⟨b, i, none⟩ x u (fun e => ?_)
  rcases hb with h | h
  · simp at e; omega
  · exact hx.2 (by rw [h]; simpa using e.symm)⟩)

structure CpI (w W : World) (nm ds : ByteArray) (st nat : Bool) (stk loc : Int) (code : List Int) (hh : List HD) (rr : List RD) (a1 : Option Addr) (p1 : Nat) (a4 : Option Addr) (p4 : Nat) (a6 : Option Addr) (p6 : Nat) (rows : Nat → List Value) : Prop where
  X : Blk W w.heap.size #[.string nm, .string ds, .bool st, .bool nat, .int .i64 stk, .int .i64 loc, .slice a1 code.length p1, .slice a4 hh.length p4, .slice a6 rr.length p6] 32
  Y : Blk W (w.heap.size + 1) #[.string ⟨#[]⟩, .string ⟨#[]⟩, .bool false, .bool false, .int .i64 0, .int .i64 0, .slice none 0 0, .slice none 0 0, .slice none 0 0] 32
  B : Below w.heap.size w W
  V : View (seen (newBut (w.heap.size + 2) (.slice a6 rr.length p6)) W) (.slice a1 code.length p1) code
  L : LAt 4 HandR (seen (newBut (w.heap.size + 2) (.slice a6 rr.length p6)) W) a4 p4 hh
  o : W.ownsRow (w.heap.size + 2) 34 3 (.slice a6 rr.length p6) rr.length (flatR rows rr.length)
  k : ∀ j, j < rr.length → (rows j).length = 3
theorem CpI.below {w W W' : World} {nm ds : ByteArray} {st nat : Bool} {stk loc : Int} {code : List Int} {hh : List HD} {rr : List RD} {a1 : Option Addr} {p1 : Nat} {a4 : Option Addr} {p4 : Nat} {a6 : Option Addr} {p6 : Nat} {rows : Nat → List Value}
    (I : CpI w W nm ds st nat stk loc code hh rr a1 p1 a4 p4 a6 p6 rows) (h : Below W.heap.size W W') : CpI w W' nm ds st nat stk loc code hh rr a1 p1 a4 p4 a6 p6 rows :=
  ⟨I.X.below h, I.Y.below h, I.B.trans (h.mono I.B.size), View.ext I.V (newBut_below h), LAt.ext I.L (newBut_below h) (fun _ _ h => h), own_keep I.o h, I.k⟩
def setRow (rows : Nat → List Value) (i t : Nat) (u : Value) (j : Nat) : List Value := if j = i then (rows i).set t u else rows j
theorem setRow_len {rows : Nat → List Value} {k n i t : Nat} {u : Value} (h : ∀ j, j < n → (rows j).length = k) (hi : i < n) : ∀ j, j < n → (setRow rows i t u j).length = k := by
  intro j hj
  unfold setRow
  split
  · rw [List.length_set]; exact h i hi
  · exact h j hj
theorem flatR_set {rows : Nat → List Value} {k n i t : Nat} {u : Value} (h : ∀ j, j < n → (rows j).length = k) (hi : i < n) (ht : t < k) : (flatR rows n).set (i * k + t) u = flatR (setRow rows i t u) n := by
  have hl := flatR_len h
  have hl' := flatR_len (setRow_len (t := t) (u := u) h hi)
  have hlt : i * k + t < n * k := by
    have h1 : (i + 1) * k ≤ n * k := Nat.mul_le_mul_right k (by omega)
    rw [Nat.add_mul] at h1; omega
  refine List.ext_getElem? (fun y => ?_)
  by_cases hy : y < n * k
  · have hk : 0 < k := by omega
    have hq : y / k < n := (Nat.div_lt_iff_lt_mul hk).2 hy
    have hm := Nat.mod_lt y hk
    have e : y / k * k + y % k = y := by rw [Nat.mul_comm]; exact Nat.div_add_mod y k
    have A := flatR_at h (y / k) hq (y % k) hm
    have A' := flatR_at (setRow_len (t := t) (u := u) h hi) (y / k) hq (y % k) hm
    rw [e] at A A'
    rw [A', List.getElem?_set]
    unfold setRow
    by_cases e1 : i * k + t = y
    · have e2 : y / k = i := by rw [← e1, Nat.mul_comm, Nat.mul_add_div hk, Nat.div_eq_of_lt ht, Nat.add_zero]
      have e3 : y % k = t := by rw [← e1, Nat.mul_comm, Nat.mul_add_mod, Nat.mod_eq_of_lt ht]
      rw [if_pos e1, if_pos e2, e3, List.getElem?_set_self (by rw [h i hi]; exact ht), if_pos (by rw [hl]; exact hlt)]
    · rw [if_neg e1, A]
      by_cases e2 : y / k = i
      · rw [if_pos e2, List.getElem?_set_ne (fun e3 => e1 (by rw [← e, e2, ← e3])), e2]
      · rw [if_neg e2]
  · rw [List.getElem?_eq_none (by rw [List.length_set, hl]; omega), List.getElem?_eq_none (by rw [hl']; omega)]
theorem CpI.set {w W : World} {nm ds : ByteArray} {st nat : Bool} {stk loc : Int} {code : List Int} {hh : List HD} {rr : List RD} {a1 : Option Addr} {p1 : Nat} {a4 : Option Addr} {p4 : Nat} {g p6 : Nat} {rows : Nat → List Value}
    (I : CpI w W nm ds st nat stk loc code hh rr a1 p1 a4 p4 (some ⟨g, 0, none⟩) p6 rows) {i t : Nat} (hi : i < rr.length) (ht : t < 3) (u : Value) :
    CpI w (W.setCell ⟨g, i * 3 + t, none⟩ u) nm ds st nat stk loc code hh rr a1 p1 a4 p4 (some ⟨g, 0, none⟩) p6 (setRow rows i t u) ∧ Ext (seen (newBut (w.heap.size + 2) (.slice (some ⟨g, 0, none⟩) rr.length p6)) W) (seen (newBut (w.heap.size + 2) (.slice (some ⟨g, 0, none⟩) rr.length p6)) (W.setCell ⟨g, i * 3 + t, none⟩ u)) := by
  have hg := (I.o.lt g rfl).1
  have E := newBut_set (w := W) (lo := w.heap.size + 2) (v := .slice (some ⟨g, 0, none⟩) rr.length p6) (.inr rfl) (i * 3 + t) u
  refine ⟨⟨I.X.other (by omega) _ _, I.Y.other (by omega) _ _, below_set I.B (by omega) _ _, View.ext I.V E, LAt.ext I.L E (fun _ _ h => h), ?_, setRow_len I.k hi⟩, E⟩
  rw [← flatR_set I.k hi ht]
  exact (I.o.stored _ _).1


end Go.Proofs.Ytccbgdbipihoaaa.K
