/- Texts KA KC MQb. -/
import Derived.Test.YtccbgdbipihoaaaGreatBw25
import Derived.Maps.OwnIn
import Derived.Maps.Keyed
import Derived.Maps.AppendAt
import Derived.Test.YtccbgdbipihoaaaGreatBw20
import Derived.Test.YtccbgdbipihoaaaGreatBw08
namespace Go.Proofs.YtccbgdbipihoaaaGreat.K
open Go.RowKit Go.MapKept Go.ChangeMaps Q Q.D

def SMap (w : World) (b : Nat) (l : List (ByteArray × Value)) : Prop :=
  ∃ es clock, w.heap[b]? = some (.map es clock) ∧ es.toList.map (fun e => (e.key, e.val)) = l.map (fun p => (Value.string p.1, p.2))
def slook : List (ByteArray × Value) → ByteArray → Option Value
  | [], _ => none
  | p :: l, s => if s == p.1 then some p.2 else slook l s

theorem findNow_str (s : ByteArray) : ∀ (es : List MapEntry) (l : List (ByteArray × Value)) (i : Nat), es.map (fun e => (e.key, e.val)) = l.map (fun p => (Value.string p.1, p.2)) →
    (slook l s = none → Instr.findNow .string (.string s) es i = some none) ∧ (∀ v, slook l s = some v → ∃ j, Instr.findNow .string (.string s) es i = some (some (j, v)))
  | [], [], i, _ => ⟨fun _ => rfl, fun v h => by simp [slook] at h⟩
  | [], p :: l, i, h => by simp at h
  | e :: es, [], i, h => by simp at h
  | e :: es, p :: l, i, h => by
    simp only [List.map_cons, List.cons.injEq, Prod.mk.injEq] at h
    obtain ⟨⟨h1, h2⟩, h3⟩ := h
    obtain ⟨a, b⟩ := findNow_str s es l (i + 1) h3
    unfold slook Instr.findNow
    rw [h1]
    cases hs : s == p.1
    · simp only [Instr.sameNow, hs]
      exact ⟨a, b⟩
    · simp only [Instr.sameNow, hs]
      exact ⟨fun h => by simp at h, fun v h => ⟨i, by rw [h2]; simpa using h⟩⟩
theorem check_str {P : Program} {k : TypeId} (hk : P.underlying k = some .string) (e : Bool) (n : Nat) (s : ByteArray) (w : World) : (Instr.checkKey e (n + 1) k (.string s)).run P w = .ok () w := by
  simp [Instr.checkKey, run_underlying hk, Result.andThen]
theorem SMap.look {P : Program} {w : World} {b : Nat} {l : List (ByteArray × Value)} {t k e : TypeId} (h : SMap w b l) (ht : P.underlying t = some (.map k e)) (hk : P.underlying k = some .string)
    {z : Value} (hz : (zeroValue e).run P w = .ok z w) (s : ByteArray) : (Instr.lookup t (.map (some b)) (.string s) false).run P w = .ok ((slook l s).getD z) w := by
  obtain ⟨es, clock, hb, he⟩ := h
  obtain ⟨f1, f2⟩ := findNow_str s es.toList l 0 he
  cases hs : slook l s with
  | none => simp [Instr.lookup, run_underlying ht, MapKept.run_getObj_map hb, check_str hk _ 9999, run_underlying hk, Instr.findKey, f1 hs, hz, Result.andThen]
  | some v =>
    obtain ⟨j, f3⟩ := f2 v hs
    simp [Instr.lookup, run_underlying ht, MapKept.run_getObj_map hb, check_str hk _ 9999, run_underlying hk, Instr.findKey, f3, Result.andThen]
theorem SMap.put {P : Program} {w : World} {b : Nat} {l : List (ByteArray × Value)} {t k e : TypeId} (h : SMap w b l) (ht : P.underlying t = some (.map k e)) (hk : P.underlying k = some .string)
    (s : ByteArray) (v : Value) (hs : slook l s = none) : ∃ es clock, (Instr.mapUpdate t (.map (some b)) (.string s) v).run P w = .ok () (setBlock w b (.map es clock)) ∧ SMap (setBlock w b (.map es clock)) b (l ++ [(s, v)]) := by
  obtain ⟨es, clock, hb, he⟩ := h
  obtain ⟨f1, f2⟩ := findNow_str s es.toList l 0 he
  refine ⟨es.push ⟨.string s, v, clock⟩, clock + 1, ?_, ?_⟩
  · simp [Instr.mapUpdate, run_underlying ht, MapKept.run_getObj_map hb, check_str hk _ 9999, run_underlying hk, Instr.findKey, f1 hs, MapKept.run_setObj_map _ hb, Result.andThen, setBlock]
  · refine ⟨es.push ⟨.string s, v, clock⟩, clock + 1, ?_, ?_⟩
    · have := (Array.getElem?_eq_some_iff.1 hb).1
      simp [setBlock, this]
    · simp [he]
theorem SMap.kept {w w' : World} {b : Nat} {l : List (ByteArray × Value)} (h : SMap w b l) (hb : w'.heap[b]? = w.heap[b]?) : SMap w' b l := by
  obtain ⟨es, clock, h1, h2⟩ := h
  exact ⟨es, clock, hb.trans h1, h2⟩
theorem SMap.lt {w : World} {b : Nat} {l : List (ByteArray × Value)} (h : SMap w b l) : b < w.heap.size := by
  obtain ⟨es, clock, h1, _⟩ := h
  exact (Array.getElem?_eq_some_iff.1 h1).1

/-! What is read in one world is read in another. -/
structure Ext (w w' : World) : Prop where
  size : w.heap.size ≤ w'.heap.size
  cell : ∀ p v, w.cell? p = some v → w'.cell? p = some v
theorem Ext.refl (w : World) : Ext w w := ⟨Nat.le_refl _, fun _ _ h => h⟩
theorem Ext.trans {a b c : World} (h : Ext a b) (k : Ext b c) : Ext a c := ⟨Nat.le_trans h.size k.size, fun p v e => k.cell p v (h.cell p v e)⟩
theorem ext_below {w w' : World} (h : Below w.heap.size w w') : Ext w w' := ⟨h.size, fun p v e => by rw [h.cell (World.block_lt_of_cell? _ _ e)]; exact e⟩
theorem RowsAt.ext {k n : Nat} {w w' : World} {ao : Option Addr} {rows : Nat → List Value} (h : RowsAt k w ao n rows) (he : Ext w w') : RowsAt k w' ao n rows := by
  intro hn
  obtain ⟨b, off, e, hlt, hc⟩ := h hn
  exact ⟨b, off, e, Nat.lt_of_lt_of_le hlt he.size, fun j hj i v hv => he.cell _ _ (hc j hj i v hv)⟩
theorem LAt.ext {α : Type} {k : Nat} {R : World → List Value → α → Prop} {w w' : World} {ao : Option Addr} {c : Nat} {l : List α} (h : LAt k R w ao c l) (he : Ext w w') (hR : ∀ r x, R w r x → R w' r x) : LAt k R w' ao c l := by
  obtain ⟨h1, h2, rows, h3, h4⟩ := h
  exact ⟨h1, h2, rows, RowsAt.ext h3 he, fun i x hx => hR _ _ (h4 i x hx)⟩
theorem View.ext {w w' : World} {v : Value} {l : List Int} (h : View w v l) (he : Ext w w') : View w' v l := by
  obtain ⟨ao, cap, rfl, hc, hm, hy, hl⟩ := h
  refine ⟨ao, cap, rfl, hc, hm, hy, ?_⟩
  rcases hl with h | ⟨g, off, e, hl⟩
  · exact .inl h
  · exact .inr ⟨g, off, e, fun j x hj => he.cell _ _ (hl j x hj)⟩
theorem FrameR.ext {w w' : World} (he : Ext w w') {r : List Value} {f : RD} (h : FrameR w r f) : FrameR w' r f := by
  obtain ⟨o1, c1, o2, c2, e, h1, h2⟩ := h
  exact ⟨o1, c1, o2, c2, e, LAt.ext h1 he (fun _ _ h => h), LAt.ext h2 he (fun _ _ h => h)⟩
theorem MethR.ext {w w' : World} (he : Ext w w') {r : List Value} {m : MD} (h : MethR w r m) : MethR w' r m := by
  obtain ⟨o1, c1, o2, c2, o3, c3, e, s1, s2, h1, h2, h3⟩ := h
  exact ⟨o1, c1, o2, c2, o3, c3, e, s1, s2, View.ext h1 he, LAt.ext h2 he (fun _ _ h => h), LAt.ext h3 he (fun _ _ h => FrameR.ext he h)⟩

/-! A world of which only some blocks are seen. -/
def seen (X : Nat → Bool) (w : World) : World := { w with heap := w.heap.mapIdx fun i o => if X i then o else .cells #[] 0 }
theorem seen_size (X : Nat → Bool) (w : World) : (seen X w).heap.size = w.heap.size := by simp [seen]
theorem seen_cell {X : Nat → Bool} {w : World} {p : Addr} {v : Value} : (seen X w).cell? p = some v ↔ X p.block = true ∧ w.cell? p = some v := by
  unfold World.cell? seen
  simp only [Array.getElem?_mapIdx]
  cases h : w.heap[p.block]? with
  | none => simp
  | some o =>
    cases hx : X p.block
    · simp
    · simp
theorem seen_ext (X : Nat → Bool) (w : World) : Ext (seen X w) w := ⟨by rw [seen_size]; exact Nat.le_refl _, fun p v h => (seen_cell.1 h).2⟩
theorem seen_mono {X Y : Nat → Bool} {w w' : World} (hs : w.heap.size ≤ w'.heap.size) (h : ∀ b, b < w.heap.size → X b = true → Y b = true ∧ w'.heap[b]? = w.heap[b]?) : Ext (seen X w) (seen Y w') := by
  refine ⟨by rw [seen_size, seen_size]; exact hs, fun p v e => ?_⟩
  obtain ⟨h1, h2⟩ := seen_cell.1 e
  obtain ⟨h3, h4⟩ := h p.block (World.block_lt_of_cell? _ _ h2) h1
  refine seen_cell.2 ⟨h3, ?_⟩
  unfold World.cell? at h2 ⊢
  rw [h4]; exact h2

/-! Members. -/
structure Mem where
  k : KD
  b : Nat
def ptr : Option Mem → Value
  | none => .pointer none
  | some m => .pointer (some ⟨m.b, 0, none⟩)
def mfind : List Mem → ByteArray → Option Mem
  | [], _ => none
  | m :: o, s => if s == m.k.nm then some m else mfind o s
def lin : List Mem → ByteArray → List Mem
  | [], _ => []
  | m :: o, s => if s == m.k.nm then m :: lin o m.k.sup else lin o s
structure MemAt (w : World) (m : Mem) (ab : Option Mem) (o1 : Option Addr) (c1 : Nat) (o2 : Option Addr) (c2 : Nat) (o3 : Option Addr) (c3 : Nat) : Prop where
  e0 : w.cell? ⟨m.b, 0, none⟩ = some (.string m.k.nm)
  e1 : w.cell? ⟨m.b, 1, none⟩ = some (.string m.k.sup)
  e2 : w.cell? ⟨m.b, 2, none⟩ = some (.slice o1 m.k.pool.length c1)
  e3 : w.cell? ⟨m.b, 3, none⟩ = some (.slice o2 m.k.fs.length c2)
  e4 : w.cell? ⟨m.b, 4, none⟩ = some (.slice o3 m.k.ms.length c3)
  e5 : w.cell? ⟨m.b, 5, none⟩ = some (ptr ab)
  s1 : m.k.nm.size ≤ 9223372036854775807
  s2 : m.k.sup.size ≤ 9223372036854775807
  k1 : LAt 5 ConstR w o1 c1 m.k.pool
  k2 : LAt 3 FieldR w o2 c2 m.k.fs
  k3 : LAt 9 MethR w o3 c3 m.k.ms
def MemIn (w : World) (m : Mem) (ab : Option Mem) : Prop := ∃ o1 c1 o2 c2 o3 c3, MemAt w m ab o1 c1 o2 c2 o3 c3
theorem MemIn.ext {w w' : World} {m : Mem} {ab : Option Mem} (h : MemIn w m ab) (he : Ext w w') : MemIn w' m ab := by
  obtain ⟨o1, c1, o2, c2, o3, c3, h⟩ := h
  exact ⟨o1, c1, o2, c2, o3, c3, ⟨he.cell _ _ h.e0, he.cell _ _ h.e1, he.cell _ _ h.e2, he.cell _ _ h.e3, he.cell _ _ h.e4, he.cell _ _ h.e5, h.s1, h.s2, LAt.ext h.k1 he (fun _ _ h => h), LAt.ext h.k2 he (fun _ _ h => h), LAt.ext h.k3 he (fun _ _ h => MethR.ext he h)⟩⟩
theorem MemAt.cls {w : World} {m : Mem} {ab : Option Mem} {o1 : Option Addr} {c1 : Nat} {o2 : Option Addr} {c2 : Nat} {o3 : Option Addr} {c3 : Nat} (h : MemAt w m ab o1 c1 o2 c2 o3 c3) :
    ClassV w (.agg #[.string m.k.nm, .string m.k.sup, .slice o1 m.k.pool.length c1, .slice o2 m.k.fs.length c2, .slice o3 m.k.ms.length c3]) m.k :=
  ⟨o1, c1, o2, c2, o3, c3, rfl, h.s1, h.s2, h.k1, h.k2, h.k3⟩
def Mems (w : World) : List Mem → Prop
  | [] => True
  | m :: o => MemIn w m (mfind o m.k.sup) ∧ mfind o m.k.nm = none ∧ Mems w o
theorem Mems.ext {w w' : World} (he : Ext w w') : ∀ {l : List Mem}, Mems w l → Mems w' l
  | [], _ => trivial
  | _ :: _, ⟨h1, h2, h3⟩ => ⟨h1.ext he, h2, Mems.ext he h3⟩
def Chain (w : World) : Option Mem → List Mem → Prop
  | p, [] => p = none
  | p, m :: l => p = some m ∧ ∃ ab, MemIn w m ab ∧ Chain w ab l
theorem Chain.ext {w w' : World} (he : Ext w w') : ∀ {p : Option Mem} {l : List Mem}, Chain w p l → Chain w' p l
  | _, [], h => h
  | _, _ :: _, ⟨h1, ab, h2, h3⟩ => ⟨h1, ab, h2.ext he, Chain.ext he h3⟩
theorem Mems.chain {w : World} : ∀ {l : List Mem} (s : ByteArray), Mems w l → Chain w (mfind l s) (lin l s)
  | [], _, _ => rfl
  | m :: o, s, ⟨h1, h2, h3⟩ => by
    unfold mfind lin
    split
    · exact ⟨rfl, _, h1, Mems.chain _ h3⟩
    · exact Mems.chain s h3
theorem Chain.at {w : World} : ∀ {p : Option Mem} {l : List Mem}, Chain w p l → ∀ x ∈ l, ∃ ab, MemIn w x ab
  | _, [], _, x, hx => by simp at hx
  | _, m :: l, ⟨_, ab, h2, h3⟩, x, hx => by
    rcases List.mem_cons.1 hx with rfl | h
    · exact ⟨ab, h2⟩
    · exact h3.at x h
end Go.Proofs.YtccbgdbipihoaaaGreat.K
namespace Go.Proofs.YtccbgdbipihoaaaGreat.K
open Go.RowKit Q Q.D

def flatR (rows : Nat → List Value) (n : Nat) : List Value := (List.range n).flatMap rows
theorem flatR_succ (rows : Nat → List Value) (n : Nat) : flatR rows (n + 1) = flatR rows n ++ rows n := by simp [flatR, List.range_succ]
theorem flatR_len {rows : Nat → List Value} {k : Nat} : ∀ {n : Nat}, (∀ j, j < n → (rows j).length = k) → (flatR rows n).length = n * k
  | 0, _ => by simp [flatR]
  | n + 1, h => by
    rw [flatR_succ, List.length_append, flatR_len (fun j hj => h j (by omega)), h n (by omega), Nat.add_mul, Nat.one_mul]
theorem flatR_at {rows : Nat → List Value} {k : Nat} : ∀ {n : Nat}, (∀ j, j < n → (rows j).length = k) → ∀ j, j < n → ∀ i, i < k → (flatR rows n)[j * k + i]? = (rows j)[i]?
  | 0, _, j, hj, _, _ => by omega
  | n + 1, h, j, hj, i, hi => by
    have hl := flatR_len (rows := rows) (k := k) (n := n) (fun j hj => h j (by omega))
    rw [flatR_succ]
    by_cases e : j = n
    · subst e
      rw [List.getElem?_append_right (by rw [hl]; omega), hl]
      congr 1; omega
    · have : j * k + i < n * k := by
        have h1 : (j + 1) * k ≤ n * k := Nat.mul_le_mul_right k (by omega)
        rw [Nat.add_mul] at h1; omega
      rw [List.getElem?_append_left (by rw [hl]; exact this)]
      exact flatR_at (fun j hj => h j (by omega)) j (by omega) i hi
theorem flatR_inv {rows : Nat → List Value} {k n : Nat} (h : ∀ j, j < n → (rows j).length = k) {x : Nat} {u : Value} (hx : (flatR rows n)[x]? = some u) : x / k < n ∧ (rows (x / k))[x % k]? = some u := by
  have hlt : x < n * k := by have := (List.getElem?_eq_some_iff.1 hx).1; rwa [flatR_len h] at this
  have hk : 0 < k := Nat.pos_of_ne_zero (fun e => by subst e; simp at hlt)
  have hq : x / k < n := (Nat.div_lt_iff_lt_mul hk).2 hlt
  refine ⟨hq, ?_⟩
  rw [← flatR_at h (x / k) hq (x % k) (Nat.mod_lt _ hk)]
  have : x / k * k + x % k = x := by rw [Nat.mul_comm]; exact Nat.div_add_mod x k
  rw [this]; exact hx
theorem flatR_mem {rows : Nat → List Value} {n : Nat} {p : Value → Prop} (h : ∀ j, j < n → ∀ u ∈ rows j, p u) : ∀ u ∈ flatR rows n, p u := by
  intro u hu
  simp only [flatR, List.mem_flatMap, List.mem_range] at hu
  obtain ⟨j, hj, hu⟩ := hu
  exact h j hj u hu
theorem RowsAt.flat {k n : Nat} {w : World} {a : Addr} {rows : Nat → List Value} (h : RowsAt k w (some a) n rows) (hk : ∀ j, j < n → (rows j).length = k) (x : Nat) (u : Value) (hx : (flatR rows n)[x]? = some u) : w.cell? (a.add x) = some u := by
  obtain ⟨hq, hr⟩ := flatR_inv hk hx
  obtain ⟨b, off, e, _, hc⟩ := h (Nat.lt_of_le_of_lt (Nat.zero_le _) hq)
  cases e
  rw [Addr.add_lit]
  have hk0 : 0 < k := by have := (List.getElem?_eq_some_iff.1 hr).1; rw [hk _ hq] at this; omega
  have := hc (x / k) hq (x % k) u hr
  rwa [show off + x / k * k + x % k = off + x by rw [Nat.add_assoc, Nat.mul_comm, Nat.div_add_mod]] at this
def newB (B : Nat) (b : Nat) : Bool := decide (B ≤ b)
theorem own_rows {B : Nat} {e : TypeId} {k : Nat} {w : World} {v : Value} {n : Nat} {rows : Nat → List Value} (h : w.ownsRow B e k v n (flatR rows n)) (hk : ∀ j, j < n → (rows j).length = k) :
    ∃ ao c, v = .slice ao n c ∧ n ≤ c ∧ c ≤ maxLen ∧ RowsAt k (seen (newB B) w) ao n rows := by
  rcases h.2 with ⟨rfl, rfl⟩ | ⟨g, cap, cur, rfl, hB, hg, h1, h2, _⟩
  · exact ⟨none, 0, rfl, Nat.le_refl _, by unfold maxLen; omega, fun hn => absurd hn (by omega)⟩
  · refine ⟨some ⟨g, 0, none⟩, cap, rfl, h1, h2, fun _ => ⟨g, 0, rfl, by rw [seen_size]; exact (Array.getElem?_eq_some_iff.1 hg).1, fun j hj i u hu => ?_⟩⟩
    have hi : i < k := by have := (List.getElem?_eq_some_iff.1 hu).1; rwa [hk j hj] at this
    have := h.cells (g := g) rfl (j * k + i) u (by rw [flatR_at hk j hj i hi]; exact hu)
    rw [Addr.add_lit] at this
    refine seen_cell.2 ⟨by simp [newB]; exact hB, ?_⟩
    rwa [show 0 + j * k + i = 0 + (j * k + i) by omega]

theorem nilS (w : World) (a : Option Addr) (l c : Nat) : (binOp .eql 23 (.slice a l c) (.slice none 0 0)).run Tryz.prog w = .ok (.bool a.isNone) w := by
  simp [binOp, run_equal_slice_nil w 23 9 a l c Tryz.underlying23]
theorem infoS : (Tryz.prog.info? 9).map (fun i => (i.zero, i.size, i.bytes)) = some (some (.string ⟨#[]⟩), 1, 16) := by kernel_rfl
set_option maxRecDepth 8000 in
set_option maxHeartbeats 1000000 in
theorem cloneS (w : World) (ao : Option Addr) (n c : Nat) (rows : Nat → List Value) (h : RowsAt 1 w ao n rows) (hk : ∀ j, j < n → (rows j).length = 1) (h1 : ∀ j, j < n → ∀ u ∈ rows j, u.oneCell' = true) (hlen : n ≤ 100000) :
    Calls Tryz.prog 112 #[.slice ao n c] w fun e w' => Below w.heap.size w w' ∧ ∃ v', e = .returned v' ∧ w'.ownsRow w.heap.size 9 1 v' n (flatR rows n) := by
  obtain ⟨i0, hi, hz0, hz1, hz2⟩ := info_parts infoS
  cases ao with
  | none =>
    obtain rfl : n = 0 := by
      rcases Nat.eq_zero_or_pos n with e | e
      · exact e
      · obtain ⟨_, _, e, _⟩ := h e; cases e
    have hq := nilS w none 0 c
    go_enter Tryz.func112, Tryz.ntmps112
    go_wp2
    go_ret
    exact ⟨Below.refl _ _, _, rfl, World.ownsRow_nil _ _ _ _⟩
  | some a =>
    have hq := nilS w (some a) n c
    have hown0 : (w.alloc (.cells #[] 9)).ownsRow w.heap.size 9 1 (.slice (some ⟨w.heap.size, 0, none⟩) 0 0) 0 [] := World.ownsRow_made w #[] 0 (Nat.le_refl _) (by unfold maxLen; omega) rfl
    have hcells : ∀ j u, (flatR rows n)[j]? = some u → (w.alloc (.cells #[] 9)).cell? (a.add j) = some u := fun j u hj => cell_later ((Below.refl _ w).alloc (Nat.le_refl _) _) (RowsAt.flat h hk j u hj)
    have hlen2 := flatR_len hk
    have hone := flatR_mem h1
    clear h hk h1
    generalize flatR rows n = fl at *
    go_enter Tryz.func112, Tryz.ntmps112
    go_wp2_with (at_builtin; refine wpList_append_own_at _ rfl _ _ 23 rfl w.heap.size 9 i0 (.string ⟨#[]⟩) 1 16 Tryz.underlying23 hi hz0 hz1 hz2 rfl (by decide) _ _ _ rfl hown0 _ _ _ fl rfl hlen2 hcells hone (by unfold maxLen; omega) (by omega) (by simp) ?_; intro v1 w1 ho1 hg1 _ hat1)
    go_wp2
    go_ret
    refine ⟨((Below.refl _ _).alloc (Nat.le_refl _) _).grown hg1 (by simp) (fun k h => (hown0.lt k h).1), _, rfl, ?_⟩
    simpa using ho1

theorem nilC (w : World) (a : Option Addr) (l c : Nat) : (binOp .eql 39 (.slice a l c) (.slice none 0 0)).run Tryz.prog w = .ok (.bool a.isNone) w := by
  simp [binOp, run_equal_slice_nil w 39 134 a l c Tryz.underlying39]
theorem infoC : (Tryz.prog.info? 134).map (fun i => (i.zero, i.size, i.bytes)) = some (some (.agg #[.int .i64 0, .int .i32 0, .string ⟨#[]⟩, .string ⟨#[]⟩, .string ⟨#[]⟩]), 5, 64) := by kernel_rfl
set_option maxRecDepth 8000 in
set_option maxHeartbeats 1000000 in
theorem cloneC (w : World) (ao : Option Addr) (n c : Nat) (rows : Nat → List Value) (h : RowsAt 5 w ao n rows) (hk : ∀ j, j < n → (rows j).length = 5) (h1 : ∀ j, j < n → ∀ u ∈ rows j, u.oneCell' = true) (hlen : n ≤ 100000) :
    Calls Tryz.prog 89 #[.slice ao n c] w fun e w' => Below w.heap.size w w' ∧ ∃ v', e = .returned v' ∧ w'.ownsRow w.heap.size 134 5 v' n (flatR rows n) := by
  obtain ⟨i0, hi, hz0, hz1, hz2⟩ := info_parts infoC
  cases ao with
  | none =>
    obtain rfl : n = 0 := by
      rcases Nat.eq_zero_or_pos n with e | e
      · exact e
      · obtain ⟨_, _, e, _⟩ := h e; cases e
    have hq := nilC w none 0 c
    go_enter Tryz.func89, Tryz.ntmps89
    go_wp2
    go_ret
    exact ⟨Below.refl _ _, _, rfl, World.ownsRow_nil _ _ _ _⟩
  | some a =>
    have hq := nilC w (some a) n c
    have hown0 : (w.alloc (.cells #[] 134)).ownsRow w.heap.size 134 5 (.slice (some ⟨w.heap.size, 0, none⟩) 0 0) 0 [] := World.ownsRow_made w #[] 0 (Nat.le_refl _) (by unfold maxLen; omega) rfl
    have hcells : ∀ j u, (flatR rows n)[j]? = some u → (w.alloc (.cells #[] 134)).cell? (a.add j) = some u := fun j u hj => cell_later ((Below.refl _ w).alloc (Nat.le_refl _) _) (RowsAt.flat h hk j u hj)
    have hlen2 := flatR_len hk
    have hone := flatR_mem h1
    clear h hk h1
    generalize flatR rows n = fl at *
    go_enter Tryz.func89, Tryz.ntmps89
    go_wp2_with (at_builtin; refine wpList_append_own_at _ rfl _ _ 39 rfl w.heap.size 134 i0 (.agg #[.int .i64 0, .int .i32 0, .string ⟨#[]⟩, .string ⟨#[]⟩, .string ⟨#[]⟩]) 5 64 Tryz.underlying39 hi hz0 hz1 hz2 rfl (by decide) _ _ _ rfl hown0 _ _ _ fl rfl hlen2 hcells hone (by unfold maxLen; omega) (by omega) (by simp) ?_; intro v1 w1 ho1 hg1 _ hat1)
    go_wp2
    go_ret
    refine ⟨((Below.refl _ _).alloc (Nat.le_refl _) _).grown hg1 (by simp) (fun k h => (hown0.lt k h).1), _, rfl, ?_⟩
    simpa using ho1

theorem nilF (w : World) (a : Option Addr) (l c : Nat) : (binOp .eql 40 (.slice a l c) (.slice none 0 0)).run Tryz.prog w = .ok (.bool a.isNone) w := by
  simp [binOp, run_equal_slice_nil w 40 95 a l c Tryz.underlying40]
theorem infoF : (Tryz.prog.info? 95).map (fun i => (i.zero, i.size, i.bytes)) = some (some (.agg #[.string ⟨#[]⟩, .string ⟨#[]⟩, .bool false]), 3, 40) := by kernel_rfl
set_option maxRecDepth 8000 in
set_option maxHeartbeats 1000000 in
theorem cloneF (w : World) (ao : Option Addr) (n c : Nat) (rows : Nat → List Value) (h : RowsAt 3 w ao n rows) (hk : ∀ j, j < n → (rows j).length = 3) (h1 : ∀ j, j < n → ∀ u ∈ rows j, u.oneCell' = true) (hlen : n ≤ 100000) :
    Calls Tryz.prog 90 #[.slice ao n c] w fun e w' => Below w.heap.size w w' ∧ ∃ v', e = .returned v' ∧ w'.ownsRow w.heap.size 95 3 v' n (flatR rows n) := by
  obtain ⟨i0, hi, hz0, hz1, hz2⟩ := info_parts infoF
  cases ao with
  | none =>
    obtain rfl : n = 0 := by
      rcases Nat.eq_zero_or_pos n with e | e
      · exact e
      · obtain ⟨_, _, e, _⟩ := h e; cases e
    have hq := nilF w none 0 c
    go_enter Tryz.func90, Tryz.ntmps90
    go_wp2
    go_ret
    exact ⟨Below.refl _ _, _, rfl, World.ownsRow_nil _ _ _ _⟩
  | some a =>
    have hq := nilF w (some a) n c
    have hown0 : (w.alloc (.cells #[] 95)).ownsRow w.heap.size 95 3 (.slice (some ⟨w.heap.size, 0, none⟩) 0 0) 0 [] := World.ownsRow_made w #[] 0 (Nat.le_refl _) (by unfold maxLen; omega) rfl
    have hcells : ∀ j u, (flatR rows n)[j]? = some u → (w.alloc (.cells #[] 95)).cell? (a.add j) = some u := fun j u hj => cell_later ((Below.refl _ w).alloc (Nat.le_refl _) _) (RowsAt.flat h hk j u hj)
    have hlen2 := flatR_len hk
    have hone := flatR_mem h1
    clear h hk h1
    generalize flatR rows n = fl at *
    go_enter Tryz.func90, Tryz.ntmps90
    go_wp2_with (at_builtin; refine wpList_append_own_at _ rfl _ _ 40 rfl w.heap.size 95 i0 (.agg #[.string ⟨#[]⟩, .string ⟨#[]⟩, .bool false]) 3 40 Tryz.underlying40 hi hz0 hz1 hz2 rfl (by decide) _ _ _ rfl hown0 _ _ _ fl rfl hlen2 hcells hone (by unfold maxLen; omega) (by omega) (by simp) ?_; intro v1 w1 ho1 hg1 _ hat1)
    go_wp2
    go_ret
    refine ⟨((Below.refl _ _).alloc (Nat.le_refl _) _).grown hg1 (by simp) (fun k h => (hown0.lt k h).1), _, rfl, ?_⟩
    simpa using ho1

theorem nilM (w : World) (a : Option Addr) (l c : Nat) : (binOp .eql 41 (.slice a l c) (.slice none 0 0)).run Tryz.prog w = .ok (.bool a.isNone) w := by
  simp [binOp, run_equal_slice_nil w 41 30 a l c Tryz.underlying41]
theorem infoM : (Tryz.prog.info? 30).map (fun i => (i.zero, i.size, i.bytes)) = some (some (.agg #[.string ⟨#[]⟩, .string ⟨#[]⟩, .bool false, .bool false, .int .i64 0, .int .i64 0, .slice none 0 0, .slice none 0 0, .slice none 0 0]), 9, 128) := by kernel_rfl
set_option maxRecDepth 8000 in
set_option maxHeartbeats 1000000 in
theorem cloneM (w : World) (ao : Option Addr) (n c : Nat) (rows : Nat → List Value) (h : RowsAt 9 w ao n rows) (hk : ∀ j, j < n → (rows j).length = 9) (h1 : ∀ j, j < n → ∀ u ∈ rows j, u.oneCell' = true) (hlen : n ≤ 100000) :
    Calls Tryz.prog 91 #[.slice ao n c] w fun e w' => Below w.heap.size w w' ∧ ∃ v', e = .returned v' ∧ w'.ownsRow w.heap.size 30 9 v' n (flatR rows n) := by
  obtain ⟨i0, hi, hz0, hz1, hz2⟩ := info_parts infoM
  cases ao with
  | none =>
    obtain rfl : n = 0 := by
      rcases Nat.eq_zero_or_pos n with e | e
      · exact e
      · obtain ⟨_, _, e, _⟩ := h e; cases e
    have hq := nilM w none 0 c
    go_enter Tryz.func91, Tryz.ntmps91
    go_wp2
    go_ret
    exact ⟨Below.refl _ _, _, rfl, World.ownsRow_nil _ _ _ _⟩
  | some a =>
    have hq := nilM w (some a) n c
    have hown0 : (w.alloc (.cells #[] 30)).ownsRow w.heap.size 30 9 (.slice (some ⟨w.heap.size, 0, none⟩) 0 0) 0 [] := World.ownsRow_made w #[] 0 (Nat.le_refl _) (by unfold maxLen; omega) rfl
    have hcells : ∀ j u, (flatR rows n)[j]? = some u → (w.alloc (.cells #[] 30)).cell? (a.add j) = some u := fun j u hj => cell_later ((Below.refl _ w).alloc (Nat.le_refl _) _) (RowsAt.flat h hk j u hj)
    have hlen2 := flatR_len hk
    have hone := flatR_mem h1
    clear h hk h1
    generalize flatR rows n = fl at *
    go_enter Tryz.func91, Tryz.ntmps91
    go_wp2_with (at_builtin; refine wpList_append_own_at _ rfl _ _ 41 rfl w.heap.size 30 i0 (.agg #[.string ⟨#[]⟩, .string ⟨#[]⟩, .bool false, .bool false, .int .i64 0, .int .i64 0, .slice none 0 0, .slice none 0 0, .slice none 0 0]) 9 128 Tryz.underlying41 hi hz0 hz1 hz2 rfl (by decide) _ _ _ rfl hown0 _ _ _ fl rfl hlen2 hcells hone (by unfold maxLen; omega) (by omega) (by simp) ?_; intro v1 w1 ho1 hg1 _ hat1)
    go_wp2
    go_ret
    refine ⟨((Below.refl _ _).alloc (Nat.le_refl _) _).grown hg1 (by simp) (fun k h => (hown0.lt k h).1), _, rfl, ?_⟩
    simpa using ho1

theorem nilH (w : World) (a : Option Addr) (l c : Nat) : (binOp .eql 27 (.slice a l c) (.slice none 0 0)).run Tryz.prog w = .ok (.bool a.isNone) w := by
  simp [binOp, run_equal_slice_nil w 27 166 a l c Tryz.underlying27]
theorem infoH : (Tryz.prog.info? 166).map (fun i => (i.zero, i.size, i.bytes)) = some (some (.agg #[.int .i64 0, .int .i64 0, .int .i64 0, .string ⟨#[]⟩]), 4, 40) := by kernel_rfl
set_option maxRecDepth 8000 in
set_option maxHeartbeats 1000000 in
theorem cloneH (w : World) (ao : Option Addr) (n c : Nat) (rows : Nat → List Value) (h : RowsAt 4 w ao n rows) (hk : ∀ j, j < n → (rows j).length = 4) (h1 : ∀ j, j < n → ∀ u ∈ rows j, u.oneCell' = true) (hlen : n ≤ 100000) :
    Calls Tryz.prog 134 #[.slice ao n c] w fun e w' => Below w.heap.size w w' ∧ ∃ v', e = .returned v' ∧ w'.ownsRow w.heap.size 166 4 v' n (flatR rows n) := by
  obtain ⟨i0, hi, hz0, hz1, hz2⟩ := info_parts infoH
  cases ao with
  | none =>
    obtain rfl : n = 0 := by
      rcases Nat.eq_zero_or_pos n with e | e
      · exact e
      · obtain ⟨_, _, e, _⟩ := h e; cases e
    have hq := nilH w none 0 c
    go_enter Tryz.func134, Tryz.ntmps134
    go_wp2
    go_ret
    exact ⟨Below.refl _ _, _, rfl, World.ownsRow_nil _ _ _ _⟩
  | some a =>
    have hq := nilH w (some a) n c
    have hown0 : (w.alloc (.cells #[] 166)).ownsRow w.heap.size 166 4 (.slice (some ⟨w.heap.size, 0, none⟩) 0 0) 0 [] := World.ownsRow_made w #[] 0 (Nat.le_refl _) (by unfold maxLen; omega) rfl
    have hcells : ∀ j u, (flatR rows n)[j]? = some u → (w.alloc (.cells #[] 166)).cell? (a.add j) = some u := fun j u hj => cell_later ((Below.refl _ w).alloc (Nat.le_refl _) _) (RowsAt.flat h hk j u hj)
    have hlen2 := flatR_len hk
    have hone := flatR_mem h1
    clear h hk h1
    generalize flatR rows n = fl at *
    go_enter Tryz.func134, Tryz.ntmps134
    go_wp2_with (at_builtin; refine wpList_append_own_at _ rfl _ _ 27 rfl w.heap.size 166 i0 (.agg #[.int .i64 0, .int .i64 0, .int .i64 0, .string ⟨#[]⟩]) 4 40 Tryz.underlying27 hi hz0 hz1 hz2 rfl (by decide) _ _ _ rfl hown0 _ _ _ fl rfl hlen2 hcells hone (by unfold maxLen; omega) (by omega) (by simp) ?_; intro v1 w1 ho1 hg1 _ hat1)
    go_wp2
    go_ret
    refine ⟨((Below.refl _ _).alloc (Nat.le_refl _) _).grown hg1 (by simp) (fun k h => (hown0.lt k h).1), _, rfl, ?_⟩
    simpa using ho1

theorem nilR (w : World) (a : Option Addr) (l c : Nat) : (binOp .eql 28 (.slice a l c) (.slice none 0 0)).run Tryz.prog w = .ok (.bool a.isNone) w := by
  simp [binOp, run_equal_slice_nil w 28 25 a l c Tryz.underlying28]
theorem infoR : (Tryz.prog.info? 25).map (fun i => (i.zero, i.size, i.bytes)) = some (some (.agg #[.int .i64 0, .slice none 0 0, .slice none 0 0]), 3, 56) := by kernel_rfl
set_option maxRecDepth 8000 in
set_option maxHeartbeats 1000000 in
theorem cloneR (w : World) (ao : Option Addr) (n c : Nat) (rows : Nat → List Value) (h : RowsAt 3 w ao n rows) (hk : ∀ j, j < n → (rows j).length = 3) (h1 : ∀ j, j < n → ∀ u ∈ rows j, u.oneCell' = true) (hlen : n ≤ 100000) :
    Calls Tryz.prog 135 #[.slice ao n c] w fun e w' => Below w.heap.size w w' ∧ ∃ v', e = .returned v' ∧ w'.ownsRow w.heap.size 25 3 v' n (flatR rows n) := by
  obtain ⟨i0, hi, hz0, hz1, hz2⟩ := info_parts infoR
  cases ao with
  | none =>
    obtain rfl : n = 0 := by
      rcases Nat.eq_zero_or_pos n with e | e
      · exact e
      · obtain ⟨_, _, e, _⟩ := h e; cases e
    have hq := nilR w none 0 c
    go_enter Tryz.func135, Tryz.ntmps135
    go_wp2
    go_ret
    exact ⟨Below.refl _ _, _, rfl, World.ownsRow_nil _ _ _ _⟩
  | some a =>
    have hq := nilR w (some a) n c
    have hown0 : (w.alloc (.cells #[] 25)).ownsRow w.heap.size 25 3 (.slice (some ⟨w.heap.size, 0, none⟩) 0 0) 0 [] := World.ownsRow_made w #[] 0 (Nat.le_refl _) (by unfold maxLen; omega) rfl
    have hcells : ∀ j u, (flatR rows n)[j]? = some u → (w.alloc (.cells #[] 25)).cell? (a.add j) = some u := fun j u hj => cell_later ((Below.refl _ w).alloc (Nat.le_refl _) _) (RowsAt.flat h hk j u hj)
    have hlen2 := flatR_len hk
    have hone := flatR_mem h1
    clear h hk h1
    generalize flatR rows n = fl at *
    go_enter Tryz.func135, Tryz.ntmps135
    go_wp2_with (at_builtin; refine wpList_append_own_at _ rfl _ _ 28 rfl w.heap.size 25 i0 (.agg #[.int .i64 0, .slice none 0 0, .slice none 0 0]) 3 56 Tryz.underlying28 hi hz0 hz1 hz2 rfl (by decide) _ _ _ rfl hown0 _ _ _ fl rfl hlen2 hcells hone (by unfold maxLen; omega) (by omega) (by simp) ?_; intro v1 w1 ho1 hg1 _ hat1)
    go_wp2
    go_ret
    refine ⟨((Below.refl _ _).alloc (Nat.le_refl _) _).grown hg1 (by simp) (fun k h => (hown0.lt k h).1), _, rfl, ?_⟩
    simpa using ho1
end Go.Proofs.YtccbgdbipihoaaaGreat.K
namespace Go.Proofs.YtccbgdbipihoaaaGreat.M
open Go.RowKit

def qc (c : CD) : Q.CD := ⟨c.kind, c.n, c.cls, c.nm, c.dsc⟩
theorem qc_ok {c : CD} (h : P3.CD.Ok c) : (qc c).Ok := ⟨⟨h.c3, h.c4, h.c5⟩, h.nlo, h.nhi⟩
theorem flat_get {α : Type} (f : α → List Value) (k : Nat) : ∀ (l : List α) (_ : ∀ x ∈ l, (f x).length = k) (j : Nat) (x : α) (i : Nat), l[j]? = some x → i < k → (l.flatMap f)[j * k + i]? = (f x)[i]?
  | [], _, _, _, _, h, _ => by simp at h
  | y :: l, hk, 0, x, i, h, hi => by simp at h; subst h; rw [List.flatMap_cons, Nat.zero_mul, Nat.zero_add, List.getElem?_append_left (by rw [hk y (by simp)]; exact hi)]
  | y :: l, hk, j + 1, x, i, h, hi => by
    have := flat_get f k l (fun z hz => hk z (by simp [hz])) j x i (by simpa using h) hi
    have e : (j + 1) * k = j * k + k := Nat.succ_mul j k
    have hy := hk y (by simp)
    rw [List.flatMap_cons, List.getElem?_append_right (by rw [hy]; omega), show (j + 1) * k + i - (f y).length = j * k + i by rw [hy]; omega]
    exact this
theorem own_cell {w : World} {B T k n g cap : Nat} {xs : List Value} (h : w.ownsRow B T k (.slice (some ⟨g, 0, none⟩) n cap) n xs) {j : Nat} {u : Value} (hj : xs[j]? = some u) : w.cell? ⟨g, j, none⟩ = some u := by
  have := h.cells (g := g) rfl j u hj
  have e : (⟨g, 0, none⟩ : Addr).add j = ⟨g, j, none⟩ := by unfold Addr.add; split <;> simp_all
  rw [e] at this
  exact this
theorem lat_own {α β : Type} {w : World} {B T k : Nat} {v : Value} (f : α → List Value) (l : List α) (hk : ∀ x ∈ l, (f x).length = k) (m : List β) (R : World → List Value → β → Prop) (h : w.ownsRow B T k v l.length (l.flatMap f)) (hml : m.length = l.length) (hR : ∀ (j : Nat) x y, l[j]? = some x → m[j]? = some y → R w (f x) y) :
    ∃ ao c, v = .slice ao m.length c ∧ Q.LAt k R w ao c m := by
  have hrow : ∀ i y, m[i]? = some y → R w ((l[i]?).elim [] f) y := fun i y hy => by
    have hi := (List.getElem?_eq_some_iff.1 hy).1
    obtain ⟨x, hx⟩ : ∃ x, l[i]? = some x := ⟨_, List.getElem?_eq_getElem (by omega)⟩
    rw [hx]
    exact hR i x y hx hy
  rcases h.2 with ⟨rfl, h0⟩ | ⟨g, cap, cur, rfl, hB, hg, h1, h2, _⟩
  · refine ⟨none, 0, by rw [hml, h0], by rw [hml, h0]; exact Nat.le_refl _, by unfold maxLen; omega, fun i => (l[i]?).elim [] f, fun hn => absurd hn (by omega), hrow⟩
  · refine ⟨_, cap, by rw [hml], by rw [hml]; exact h1, h2, fun i => (l[i]?).elim [] f, fun hn => ⟨g, 0, rfl, (Array.getElem?_eq_some_iff.1 hg).1, fun j hj i u hu => ?_⟩, hrow⟩
    obtain ⟨x, hx⟩ : ∃ x, l[j]? = some x := ⟨_, List.getElem?_eq_getElem (by omega)⟩
    have hu' : (f x)[i]? = some u := by simpa [hx] using hu
    have hi : i < k := by have := (List.getElem?_eq_some_iff.1 hu').1; rwa [hk x (List.mem_of_getElem? hx)] at this
    rw [show 0 + j * k + i = j * k + i by omega]
    exact own_cell h (by rw [flat_get f k l hk j x i hx hi]; exact hu')
theorem lat_block {w : World} {g T : Nat} (l : List ByteArray) (h : w.heap[g]? = some (.cells (l.map Value.string).toArray T (0, 0))) (hs : ∀ s ∈ l, s.size ≤ 1000) (hl : l.length ≤ 1000) : Q.LAt 1 Q.TextR w (some ⟨g, 0, none⟩) l.length l := by
  refine ⟨Nat.le_refl _, by unfold maxLen; omega, fun i => [.string (l.getD i ⟨#[]⟩)], fun _ => ⟨g, 0, rfl, (Array.getElem?_eq_some_iff.1 h).1, fun j hj i u hu => ?_⟩, fun i x hx => ⟨by simp [hx], by have := hs x (List.mem_of_getElem? hx); omega⟩⟩
  obtain rfl : i = 0 := by have := (List.getElem?_eq_some_iff.1 hu).1; simp at this; omega
  simp at hu
  subst hu
  refine cell_row h _ ?_
  simp [hj]
def kindsT : Bool → List ByteArray
  | true => [⟨#[73]⟩, ⟨#[73]⟩, ⟨#[73]⟩, ⟨#[73]⟩]
  | false => [⟨#[73]⟩, ⟨#[73]⟩, ⟨#[73]⟩, ⟨#[73]⟩, ⟨#[76, 65, 59]⟩, ⟨#[76, 65, 59]⟩, ⟨#[91, 73]⟩, ⟨#[76, 84, 104, 114, 111, 119, 97, 98, 108, 101, 59]⟩, ⟨#[76, 84, 59]⟩, ⟨#[91, 76, 65, 59]⟩]
theorem kinds_t (pl : Bool) : kinds pl = (kindsT pl).map Value.string := by cases pl <;> rfl
theorem kindsT_small (pl : Bool) : ∀ s ∈ kindsT pl, s.size ≤ 1000 := by cases pl <;> decide
def thrT : ByteArray := ⟨#[76, 84, 104, 114, 111, 119, 97, 98, 108, 101, 59]⟩
def rdOf (pl : Bool) (z : Int × Bool) : Q.RD := ⟨z.1, kindsT pl, if z.2 then [thrT] else []⟩
def hdOf (h : HN) : Q.HD := ⟨h.f, h.t, h.a, h.ty⟩
def mdOf (k : BK) (σ : SG) : Q.MD := ⟨k.nm, k.ds, k.st, false, 16, ((kinds k.pl).length : Nat), (encL (codeZ σ) []).1, (handsZ σ).map hdOf, (framesZ σ).map (rdOf k.pl)⟩
theorem fr_row {pl : Bool} {w : World} {y : FM} {z : Int × Bool} (h : FR1 pl w y z) : Q.FrameR w (frow y) (rdOf pl z) := by
  obtain ⟨z1, z2⟩ := z
  obtain ⟨h1, ⟨g, h2, h3⟩, h4⟩ := h
  have hl : Q.LAt 1 Q.TextR w (some ⟨g, 0, none⟩) (kindsT pl).length (kindsT pl) := lat_block _ (by rw [← kinds_t]; exact h3) (kindsT_small pl) (by cases pl <;> decide)
  cases z2
  · refine ⟨_, _, none, 0, ?_, hl, Q.LAt.nil _ _ _ _ _ (by unfold maxLen; omega)⟩
    have h4' : y.st = .slice none 0 0 := h4
    have h1' : y.at_ = z1 := h1
    unfold frow
    rw [h1', h2, h4', kinds_t, List.length_map]
    rfl
  · obtain ⟨g2, h5, h6⟩ := h4
    have hl2 : Q.LAt 1 Q.TextR w (some ⟨g2, 0, none⟩) [thrT].length [thrT] := lat_block [thrT] (T := 9) h6 (by decide) (by decide)
    refine ⟨_, _, _, _, ?_, hl, hl2⟩
    have h1' : y.at_ = z1 := h1
    unfold frow
    rw [h1', h2, h5, kinds_t, List.length_map]
    rfl
theorem meth_view {w : World} {b : Nat} {k : BK} {σ : SG} {row : Array Value} (h : MLies w b k σ row) : Q.MethR w row.toList (mdOf k σ) := by
  obtain ⟨vc, vh, vf, fs, rfl, h1, h2, h3, h4⟩ := h
  obtain ⟨o2, c2, rfl, l2⟩ := lat_own (k := 4) hrow (handsZ σ) (fun _ _ => rfl) ((handsZ σ).map hdOf) Q.HandR h2 (by simp) (fun j x y hx hy => by
    rw [List.getElem?_map, hx] at hy
    cases hy
    refine ⟨rfl, ?_⟩
    have : x ∈ handsZ σ := List.mem_of_getElem? hx
    unfold handsZ at this
    obtain ⟨t, _, rfl⟩ := List.mem_map.1 this
    show (⟨#[84, 104, 114, 111, 119, 97, 98, 108, 101]⟩ : ByteArray).size ≤ 9223372036854775807
    decide)
  obtain ⟨o3, c3, rfl, l3⟩ := lat_own (k := 3) frow fs (fun _ _ => rfl) ((framesZ σ).map (rdOf k.pl)) Q.FrameR h3 (by rw [List.length_map, h4.1]) (fun j x y hx hy => by
    rw [List.getElem?_map] at hy
    obtain ⟨z, hz, rfl⟩ := Option.map_eq_some_iff.1 hy
    exact fr_row (h4.2 j x z hx hz))
  have hv : Q.View w vc (encL (codeZ σ) []).1 := by
    have hb := enc_bytes (codeZ σ) [] (fun x hx => by simp at hx)
    rcases h1.2 with ⟨rfl, h0⟩ | ⟨g, cap, cur, rfl, hB, hg, k1, k2, _⟩
    · exact ⟨none, 0, by rw [h0], by rw [h0]; exact Nat.le_refl _, by unfold maxLen; omega, hb, .inl (List.length_eq_zero_iff.1 h0)⟩
    · refine ⟨_, cap, rfl, k1, k2, hb, .inr ⟨g, 0, rfl, fun j x hj => ?_⟩⟩
      rw [Nat.zero_add]
      exact own_cell h1 (by unfold bcells; rw [List.getElem?_map, hj]; rfl)
  obtain ⟨o1, c1, rfl⟩ : ∃ o c, vc = .slice o (encL (codeZ σ) []).1.length c := by obtain ⟨o, c, e, _⟩ := hv; exact ⟨o, c, e⟩
  refine ⟨o1, c1, o2, c2, o3, c3, rfl, ?_, ?_, hv, l2, l3⟩
  · show k.nm.size ≤ 9223372036854775807
    cases k <;> decide
  · show k.ds.size ≤ 9223372036854775807
    cases k <;> decide
def fdOf (f : ByteArray × ByteArray × Bool) : Q.FD := ⟨f.1, f.2.1, f.2.2⟩
def kdOf (nm sup : ByteArray) (fs : List (ByteArray × ByteArray × Bool)) (pool : List CD) (ms : List (BK × SG)) : Q.KD := ⟨nm, sup, pool.map qc, fs.map fdOf, ms.map (fun m => mdOf m.1 m.2)⟩
theorem class_view {w : World} {b : Nat} {c : Array Value} {nm sup : ByteArray} {fs : List (ByteArray × ByteArray × Bool)} {pool : List CD} {ms : List (BK × SG)} (h : CLies w b c nm sup fs pool ms) (h1 : nm.size ≤ 1000) (h2 : sup.size ≤ 1000) (h3 : ∀ f ∈ fs, f.1.size ≤ 1000 ∧ f.2.1.size ≤ 1000) (h4 : fs.length ≤ 1000) : Q.ClassV w (.agg c) (kdOf nm sup fs pool ms) := by
  obtain ⟨vp, vf, vm, rfl, ⟨k1, k2⟩, k3, rows, k4, k5, k6⟩ := h
  obtain ⟨o1, c1, rfl, l1⟩ := lat_own (k := 5) P3.CD.cells pool (fun _ _ => rfl) (pool.map qc) Q.ConstR k1 (by simp) (fun j x y hx hy => by
    rw [List.getElem?_map, hx] at hy
    cases hy
    exact ⟨rfl, qc_ok (k2 x (List.mem_of_getElem? hx))⟩)
  rw [← k4] at k5
  obtain ⟨o3, c3, rfl, l3⟩ := lat_own (k := 9) Array.toList rows (fun r hr => by
      obtain ⟨j, hj⟩ := List.getElem?_of_mem hr
      have hlt := (List.getElem?_eq_some_iff.1 hj).1
      obtain ⟨m, hm⟩ : ∃ m, ms[j]? = some m := ⟨_, List.getElem?_eq_getElem (by omega)⟩
      obtain ⟨_, _, _, _, rfl, _⟩ := k6 j m r hm hj
      rfl) (ms.map (fun m => mdOf m.1 m.2)) Q.MethR k5 (by simp [k4]) (fun j x y hx hy => by
      rw [List.getElem?_map] at hy
      obtain ⟨m, hm, rfl⟩ := Option.map_eq_some_iff.1 hy
      exact meth_view (k6 j m _ hm hx))
  obtain ⟨o2, c2, rfl, l2⟩ : ∃ o c, vf = .slice o (fs.map fdOf).length c ∧ Q.LAt 3 Q.FieldR w o c (fs.map fdOf) := by
    rcases k3 with ⟨rfl, rfl⟩ | ⟨g, rfl, hg⟩
    · exact ⟨none, 0, rfl, Q.LAt.nil _ _ _ _ _ (by unfold maxLen; omega)⟩
    · refine ⟨some ⟨g, 0, none⟩, fs.length, by rw [List.length_map], by simp, by unfold maxLen; omega, fun i => (fs[i]?).elim [] fcell, fun _ => ⟨g, 0, rfl, (Array.getElem?_eq_some_iff.1 hg).1, fun j hj i u hu => ?_⟩, fun i y hy => ?_⟩
      · rw [List.length_map] at hj
        obtain ⟨x, hx⟩ : ∃ x, fs[j]? = some x := ⟨_, List.getElem?_eq_getElem hj⟩
        have hu' : (fcell x)[i]? = some u := by simpa [hx] using hu
        have hi : i < 3 := (List.getElem?_eq_some_iff.1 hu').1
        refine cell_row hg _ ?_
        rw [show 0 + j * 3 + i = j * 3 + i by omega, List.getElem?_toArray, flat_get fcell 3 fs (fun _ _ => rfl) j x i hx hi]
        exact hu'
      · rw [List.getElem?_map] at hy
        obtain ⟨x, hx, rfl⟩ := Option.map_eq_some_iff.1 hy
        show Q.FieldR w ((fs[i]?).elim [] fcell) (fdOf x)
        rw [hx]
        have := h3 x (List.mem_of_getElem? hx)
        exact ⟨rfl, by show x.1.size ≤ _; omega, by show x.2.1.size ≤ _; omega⟩
  exact ⟨o1, c1, o2, c2, o3, c3, rfl, by show nm.size ≤ _; omega, by show sup.size ≤ _; omega, l1, l2, l3⟩
end Go.Proofs.YtccbgdbipihoaaaGreat.M
