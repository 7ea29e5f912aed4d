/- Ground of layer 7: maps with texts for keys, what one world has of another, members of a Kin and their lines. -/
import Derived.Test.YtknppdpcgdncdaaQCV
import Derived.Maps.OwnIn
import Derived.Maps.Keyed
namespace Go.Proofs.Ytknppdpcgdncdaa.K
open Go.RowKit Go.MapKept Go.ChangeMaps Q Q.D

/-- A map with strings for keys lies in block b. -/
def SMap (w : World) (b : Nat) (l : List (ByteArray × Value)) : Prop :=
  ∃ es clock, w.heap[b]? = some (.map es clock) ∧ es.toList.map (fun e => (e.key, e.val)) = l.map (fun p => (Value.string p.1, p.2))
def slook : List (ByteArray × Value) → ByteArray → Option Value
  | [], _ => none
  | p :: l, s => if s == p.1 then some p.2 else slook l s

theorem findNow_str (s : ByteArray) : ∀ (es : List MapEntry) (l : List (ByteArray × Value)) (i : Nat), es.map (fun e => (e.key, e.val)) = l.map (fun p => (Value.string p.1, p.2)) →
    (slook l s = none → Instr.findNow .string (.string s) es i = some none) ∧ (∀ v, slook l s = some v → ∃ j, Instr.findNow .string (.string s) es i = some (some (j, v)))
  | [], [], i, _ => ⟨fun _ => rfl, fun v h => by simp [slook] at h⟩
  | [], p :: l, i, h => by simp at h
  | e :: es, [], i, h => by simp at h
  | e :: es, p :: l, i, h => by
    simp only [List.map_cons, List.cons.injEq, Prod.mk.injEq] at h
    obtain ⟨⟨h1, h2⟩, h3⟩ := h
    obtain ⟨a, b⟩ := findNow_str s es l (i + 1) h3
    unfold slook Instr.findNow
    rw [h1]
    cases hs : s == p.1
    · simp only [Instr.sameNow, hs]
      exact ⟨a, b⟩
    · simp only [Instr.sameNow, hs]
      exact ⟨fun h => by simp at h, fun v h => ⟨i, by rw [h2]; simpa using h⟩⟩
theorem check_str {P : Program} {k : TypeId} (hk : P.underlying k = some .string) (e : Bool) (n : Nat) (s : ByteArray) (w : World) : (Instr.checkKey e (n + 1) k (.string s)).run P w = .ok () w := by
  simp [Instr.checkKey, run_underlying hk, Result.andThen]
theorem SMap.look {P : Program} {w : World} {b : Nat} {l : List (ByteArray × Value)} {t k e : TypeId} (h : SMap w b l) (ht : P.underlying t = some (.map k e)) (hk : P.underlying k = some .string)
    {z : Value} (hz : (zeroValue e).run P w = .ok z w) (s : ByteArray) : (Instr.lookup t (.map (some b)) (.string s) false).run P w = .ok ((slook l s).getD z) w := by
  obtain ⟨es, clock, hb, he⟩ := h
  obtain ⟨f1, f2⟩ := findNow_str s es.toList l 0 he
  cases hs : slook l s with
  | none => simp [Instr.lookup, run_underlying ht, MapKept.run_getObj_map hb, check_str hk _ 9999, run_underlying hk, Instr.findKey, f1 hs, hz, Result.andThen]
  | some v =>
    obtain ⟨j, f3⟩ := f2 v hs
    simp [Instr.lookup, run_underlying ht, MapKept.run_getObj_map hb, check_str hk _ 9999, run_underlying hk, Instr.findKey, f3, Result.andThen]
theorem SMap.put {P : Program} {w : World} {b : Nat} {l : List (ByteArray × Value)} {t k e : TypeId} (h : SMap w b l) (ht : P.underlying t = some (.map k e)) (hk : P.underlying k = some .string)
    (s : ByteArray) (v : Value) (hs : slook l s = none) : ∃ es clock, (Instr.mapUpdate t (.map (some b)) (.string s) v).run P w = .ok () (setBlock w b (.map es clock)) ∧ SMap (setBlock w b (.map es clock)) b (l ++ [(s, v)]) := by
  obtain ⟨es, clock, hb, he⟩ := h
  obtain ⟨f1, f2⟩ := findNow_str s es.toList l 0 he
  refine ⟨es.push ⟨.string s, v, clock⟩, clock + 1, ?_, ?_⟩
  · simp [Instr.mapUpdate, run_underlying ht, MapKept.run_getObj_map hb, check_str hk _ 9999, run_underlying hk, Instr.findKey, f1 hs, MapKept.run_setObj_map _ hb, Result.andThen, setBlock]
  · refine ⟨es.push ⟨.string s, v, clock⟩, clock + 1, ?_, ?_⟩
    · have := (Array.getElem?_eq_some_iff.1 hb).1
      simp [setBlock, this]
    · simp [he]
theorem SMap.kept {w w' : World} {b : Nat} {l : List (ByteArray × Value)} (h : SMap w b l) (hb : w'.heap[b]? = w.heap[b]?) : SMap w' b l := by
  obtain ⟨es, clock, h1, h2⟩ := h
  exact ⟨es, clock, hb.trans h1, h2⟩
theorem SMap.lt {w : World} {b : Nat} {l : List (ByteArray × Value)} (h : SMap w b l) : b < w.heap.size := by
  obtain ⟨es, clock, h1, _⟩ := h
  exact (Array.getElem?_eq_some_iff.1 h1).1

/-! What is read in one world is read in another. -/
structure Ext (w w' : World) : Prop where
  size : w.heap.size ≤ w'.heap.size
  cell : ∀ p v, w.cell? p = some v → w'.cell? p = some v
theorem Ext.refl (w : World) : Ext w w := ⟨Nat.le_refl _, fun _ _ h => h⟩
theorem Ext.trans {a b c : World} (h : Ext a b) (k : Ext b c) : Ext a c := ⟨Nat.le_trans h.size k.size, fun p v e => k.cell p v (h.cell p v e)⟩
theorem ext_below {w w' : World} (h : Below w.heap.size w w') : Ext w w' := ⟨h.size, fun p v e => by rw [h.cell (World.block_lt_of_cell? _ _ e)]; exact e⟩
theorem RowsAt.ext {k n : Nat} {w w' : World} {ao : Option Addr} {rows : Nat → List Value} (h : RowsAt k w ao n rows) (he : Ext w w') : RowsAt k w' ao n rows := by
  intro hn
  obtain ⟨b, off, e, hlt, hc⟩ := h hn
  exact ⟨b, off, e, Nat.lt_of_lt_of_le hlt he.size, fun j hj i v hv => he.cell _ _ (hc j hj i v hv)⟩
theorem LAt.ext {α : Type} {k : Nat} {R : World → List Value → α → Prop} {w w' : World} {ao : Option Addr} {c : Nat} {l : List α} (h : LAt k R w ao c l) (he : Ext w w') (hR : ∀ r x, R w r x → R w' r x) : LAt k R w' ao c l := by
  obtain ⟨h1, h2, rows, h3, h4⟩ := h
  exact ⟨h1, h2, rows, RowsAt.ext h3 he, fun i x hx => hR _ _ (h4 i x hx)⟩
theorem View.ext {w w' : World} {v : Value} {l : List Int} (h : View w v l) (he : Ext w w') : View w' v l := by
  obtain ⟨ao, cap, rfl, hc, hm, hy, hl⟩ := h
  refine ⟨ao, cap, rfl, hc, hm, hy, ?_⟩
  rcases hl with h | ⟨g, off, e, hl⟩
  · exact .inl h
  · exact .inr ⟨g, off, e, fun j x hj => he.cell _ _ (hl j x hj)⟩
theorem FrameR.ext {w w' : World} (he : Ext w w') {r : List Value} {f : RD} (h : FrameR w r f) : FrameR w' r f := by
  obtain ⟨o1, c1, o2, c2, e, h1, h2⟩ := h
  exact ⟨o1, c1, o2, c2, e, LAt.ext h1 he (fun _ _ h => h), LAt.ext h2 he (fun _ _ h => h)⟩
theorem MethR.ext {w w' : World} (he : Ext w w') {r : List Value} {m : MD} (h : MethR w r m) : MethR w' r m := by
  obtain ⟨o1, c1, o2, c2, o3, c3, e, s1, s2, h1, h2, h3⟩ := h
  exact ⟨o1, c1, o2, c2, o3, c3, e, s1, s2, View.ext h1 he, LAt.ext h2 he (fun _ _ h => h), LAt.ext h3 he (fun _ _ h => FrameR.ext he h)⟩

/-! A world of which only some blocks are seen. -/
def seen (X : Nat → Bool) (w : World) : World := { w with heap := w.heap.mapIdx fun i o => if X i then o else .cells #[] 0 }
theorem seen_size (X : Nat → Bool) (w : World) : (seen X w).heap.size = w.heap.size := by simp [seen]
theorem seen_cell {X : Nat → Bool} {w : World} {p : Addr} {v : Value} : (seen X w).cell? p = some v ↔ X p.block = true ∧ w.cell? p = some v := by
  unfold World.cell? seen
  simp only [Array.getElem?_mapIdx]
  cases h : w.heap[p.block]? with
  | none => simp
  | some o =>
    cases hx : X p.block
    · simp
    · simp
theorem seen_ext (X : Nat → Bool) (w : World) : Ext (seen X w) w := ⟨by rw [seen_size]; exact Nat.le_refl _, fun p v h => (seen_cell.1 h).2⟩
theorem seen_mono {X Y : Nat → Bool} {w w' : World} (hs : w.heap.size ≤ w'.heap.size) (h : ∀ b, b < w.heap.size → X b = true → Y b = true ∧ w'.heap[b]? = w.heap[b]?) : Ext (seen X w) (seen Y w') := by
  refine ⟨by rw [seen_size, seen_size]; exact hs, fun p v e => ?_⟩
  obtain ⟨h1, h2⟩ := seen_cell.1 e
  obtain ⟨h3, h4⟩ := h p.block (World.block_lt_of_cell? _ _ h2) h1
  refine seen_cell.2 ⟨h3, ?_⟩
  unfold World.cell? at h2 ⊢
  rw [h4]; exact h2

/-! Members. -/
structure Mem where
  k : KD
  b : Nat
def ptr : Option Mem → Value
  | none => .pointer none
  | some m => .pointer (some ⟨m.b, 0, none⟩)
/-- The newest one comes first. -/
def mfind : List Mem → ByteArray → Option Mem
  | [], _ => none
  | m :: o, s => if s == m.k.nm then some m else mfind o s
def lin : List Mem → ByteArray → List Mem
  | [], _ => []
  | m :: o, s => if s == m.k.nm then m :: lin o m.k.sup else lin o s
def clsCells (k : KD) (o1 : Option Addr) (c1 : Nat) (o2 : Option Addr) (c2 : Nat) (o3 : Option Addr) (c3 : Nat) : List Value :=
  [.string k.nm, .string k.sup, .slice o1 k.pool.length c1, .slice o2 k.fs.length c2, .slice o3 k.ms.length c3]
structure MemAt (w : World) (m : Mem) (ab : Option Mem) (o1 : Option Addr) (c1 : Nat) (o2 : Option Addr) (c2 : Nat) (o3 : Option Addr) (c3 : Nat) : Prop where
  e0 : w.cell? ⟨m.b, 0, none⟩ = some (.string m.k.nm)
  e1 : w.cell? ⟨m.b, 1, none⟩ = some (.string m.k.sup)
  e2 : w.cell? ⟨m.b, 2, none⟩ = some (.slice o1 m.k.pool.length c1)
  e3 : w.cell? ⟨m.b, 3, none⟩ = some (.slice o2 m.k.fs.length c2)
  e4 : w.cell? ⟨m.b, 4, none⟩ = some (.slice o3 m.k.ms.length c3)
  e5 : w.cell? ⟨m.b, 5, none⟩ = some (ptr ab)
  s1 : m.k.nm.size ≤ 9223372036854775807
  s2 : m.k.sup.size ≤ 9223372036854775807
  k1 : LAt 5 ConstR w o1 c1 m.k.pool
  k2 : LAt 3 FieldR w o2 c2 m.k.fs
  k3 : LAt 9 MethR w o3 c3 m.k.ms
def MemIn (w : World) (m : Mem) (ab : Option Mem) : Prop := ∃ o1 c1 o2 c2 o3 c3, MemAt w m ab o1 c1 o2 c2 o3 c3
theorem MemIn.ext {w w' : World} {m : Mem} {ab : Option Mem} (h : MemIn w m ab) (he : Ext w w') : MemIn w' m ab := by
  obtain ⟨o1, c1, o2, c2, o3, c3, h⟩ := h
  exact ⟨o1, c1, o2, c2, o3, c3, ⟨he.cell _ _ h.e0, he.cell _ _ h.e1, he.cell _ _ h.e2, he.cell _ _ h.e3, he.cell _ _ h.e4, he.cell _ _ h.e5, h.s1, h.s2, LAt.ext h.k1 he (fun _ _ h => h), LAt.ext h.k2 he (fun _ _ h => h), LAt.ext h.k3 he (fun _ _ h => MethR.ext he h)⟩⟩
theorem MemAt.cls {w : World} {m : Mem} {ab : Option Mem} {o1 : Option Addr} {c1 : Nat} {o2 : Option Addr} {c2 : Nat} {o3 : Option Addr} {c3 : Nat} (h : MemAt w m ab o1 c1 o2 c2 o3 c3) :
    ClassV w (.agg #[.string m.k.nm, .string m.k.sup, .slice o1 m.k.pool.length c1, .slice o2 m.k.fs.length c2, .slice o3 m.k.ms.length c3]) m.k :=
  ⟨o1, c1, o2, c2, o3, c3, rfl, h.s1, h.s2, h.k1, h.k2, h.k3⟩
def Mems (w : World) : List Mem → Prop
  | [] => True
  | m :: o => MemIn w m (mfind o m.k.sup) ∧ mfind o m.k.nm = none ∧ Mems w o
theorem Mems.ext {w w' : World} (he : Ext w w') : ∀ {l : List Mem}, Mems w l → Mems w' l
  | [], _ => trivial
  | _ :: _, ⟨h1, h2, h3⟩ => ⟨h1.ext he, h2, Mems.ext he h3⟩
/-- A line in memory. -/
def Chain (w : World) : Option Mem → List Mem → Prop
  | p, [] => p = none
  | p, m :: l => p = some m ∧ ∃ ab, MemIn w m ab ∧ Chain w ab l
theorem Chain.ext {w w' : World} (he : Ext w w') : ∀ {p : Option Mem} {l : List Mem}, Chain w p l → Chain w' p l
  | _, [], h => h
  | _, _ :: _, ⟨h1, ab, h2, h3⟩ => ⟨h1, ab, h2.ext he, Chain.ext he h3⟩
theorem Mems.chain {w : World} : ∀ {l : List Mem} (s : ByteArray), Mems w l → Chain w (mfind l s) (lin l s)
  | [], _, _ => rfl
  | m :: o, s, ⟨h1, h2, h3⟩ => by
    unfold mfind lin
    split
    · exact ⟨rfl, _, h1, Mems.chain _ h3⟩
    · exact Mems.chain s h3
theorem Chain.at {w : World} : ∀ {p : Option Mem} {l : List Mem}, Chain w p l → ∀ x ∈ l, ∃ ab, MemIn w x ab
  | _, [], _, x, hx => by simp at hx
  | _, m :: l, ⟨_, ab, h2, h3⟩, x, hx => by
    rcases List.mem_cons.1 hx with rfl | h
    · exact ⟨ab, h2⟩
    · exact h3.at x h
end Go.Proofs.Ytknppdpcgdncdaa.K
