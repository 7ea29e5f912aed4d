import Derived.Test.YtpehimfnkmepnaaGreatBx05
import Derived.Maps.OwnIn
import Derived.Maps.Keyed
set_option maxRecDepth 8000
set_option maxHeartbeats 40000000
namespace Go.Proofs.YtpehimfnkmepnaaGreat.K
open Go.RowKit Go.MapKept Go.ChangeMaps Q Q.D
def SMap (w : World) (b : Nat) (l : List (ByteArray × Value)) : Prop :=
 ∃ es clock, w.heap[b]? = some (.map es clock) ∧ es.toList.map (fun e => (e.key, e.val)) = l.map (fun p => (Value.string p.1, p.2))
def zHc : List (ByteArray × Value) → ByteArray → Option Value
 | [], _ => none
 | p :: l, s => if s == p.1 then some p.2 else zHc l s
theorem zGo (s : ByteArray) : ∀ (es : List MapEntry) (l : List (ByteArray × Value)) (i : Nat), es.map (fun e => (e.key, e.val)) = l.map (fun p => (Value.string p.1, p.2)) →
 (zHc l s = none → Instr.findNow .string (.string s) es i = some none) ∧ (∀ v, zHc l s = some v → ∃ j, Instr.findNow .string (.string s) es i = some (some (j, v)))
 | [], [], i, _ => ⟨fun _ => rfl, fun v h => by simp [zHc] at h⟩
 | [], p :: l, i, h => by simp at h
 | e :: es, [], i, h => by simp at h
 | e :: es, p :: l, i, h => by
   simp only [List.map_cons, List.cons.injEq, Prod.mk.injEq] at h
   obtain ⟨⟨h1, h2⟩, h3⟩ := h
   obtain ⟨a, b⟩ := zGo s es l (i + 1) h3
   unfold zHc Instr.findNow
   rw [h1]
   cases hs : s == p.1
   · simp only [Instr.sameNow, hs]
     exact ⟨a, b⟩
   · simp only [Instr.sameNow, hs]
     exact ⟨fun h => by simp at h, fun v h => ⟨i, by rw [h2]; simpa using h⟩⟩
theorem zIz {P : Program} {k : TypeId} (hk : P.underlying k = some .string) (e : Bool) (n : Nat) (s : ByteArray) (w : World) : (Instr.checkKey e (n + 1) k (.string s)).run P w = .ok () w := by
 simp [Instr.checkKey, run_underlying hk, Result.andThen]
theorem SMap.look {P : Program} {w : World} {b : Nat} {l : List (ByteArray × Value)} {t k e : TypeId} (h : SMap w b l) (ht : P.underlying t = some (.map k e)) (hk : P.underlying k = some .string)
 {z : Value} (hz : (zeroValue e).run P w = .ok z w) (s : ByteArray) : (Instr.lookup t (.map (some b)) (.string s) false).run P w = .ok ((zHc l s).getD z) w := by
 obtain ⟨es, clock, hb, he⟩ := h
 obtain ⟨f1, f2⟩ := zGo s es.toList l 0 he
 cases hs : zHc l s with
 | none => simp [Instr.lookup, run_underlying ht, MapKept.run_getObj_map hb, zIz hk _ 9999, run_underlying hk, Instr.findKey, f1 hs, hz, Result.andThen]
 | some v =>
   obtain ⟨j, f3⟩ := f2 v hs
   simp [Instr.lookup, run_underlying ht, MapKept.run_getObj_map hb, zIz hk _ 9999, run_underlying hk, Instr.findKey, f3, Result.andThen]
theorem SMap.put {P : Program} {w : World} {b : Nat} {l : List (ByteArray × Value)} {t k e : TypeId} (h : SMap w b l) (ht : P.underlying t = some (.map k e)) (hk : P.underlying k = some .string)
 (s : ByteArray) (v : Value) (hs : zHc l s = none) : ∃ es clock, (Instr.mapUpdate t (.map (some b)) (.string s) v).run P w = .ok () (setBlock w b (.map es clock)) ∧ SMap (setBlock w b (.map es clock)) b (l ++ [(s, v)]) := by
 obtain ⟨es, clock, hb, he⟩ := h
 obtain ⟨f1, f2⟩ := zGo s es.toList l 0 he
 refine ⟨es.push ⟨.string s, v, clock⟩, clock + 1, ?_, ?_⟩
 · simp [Instr.mapUpdate, run_underlying ht, MapKept.run_getObj_map hb, zIz hk _ 9999, run_underlying hk, Instr.findKey, f1 hs, MapKept.run_setObj_map _ hb, Result.andThen, setBlock]
 · refine ⟨es.push ⟨.string s, v, clock⟩, clock + 1, ?_, ?_⟩
   · have := (Array.getElem?_eq_some_iff.1 hb).1
     simp [setBlock, this]
   · simp [he]
theorem SMap.kept {w w' : World} {b : Nat} {l : List (ByteArray × Value)} (h : SMap w b l) (hb : w'.heap[b]? = w.heap[b]?) : SMap w' b l := by
 obtain ⟨es, clock, h1, h2⟩ := h
 exact ⟨es, clock, hb.trans h1, h2⟩
theorem SMap.lt {w : World} {b : Nat} {l : List (ByteArray × Value)} (h : SMap w b l) : b < w.heap.size := by
 obtain ⟨es, clock, h1, _⟩ := h
 exact (Array.getElem?_eq_some_iff.1 h1).1
/-! What is read in one world is read in another. -/
structure Ext (w w' : World) : Prop where
 size : w.heap.size ≤ w'.heap.size
 cell : ∀ p v, w.cell? p = some v → w'.cell? p = some v
theorem Ext.trans {a b c : World} (h : Ext a b) (k : Ext b c) : Ext a c := ⟨Nat.le_trans h.size k.size, fun p v e => k.cell p v (h.cell p v e)⟩
theorem zBe {w w' : World} (h : Below w.heap.size w w') : Ext w w' := ⟨h.size, fun p v e => by rw [h.cell (World.block_lt_of_cell? _ _ e)]; exact e⟩
theorem zAo.ext {k n : Nat} {w w' : World} {ao : Option Addr} {rows : Nat → List Value} (h : zAo k w ao n rows) (he : Ext w w') : zAo k w' ao n rows := by
 intro hn
 obtain ⟨b, off, e, hlt, hc⟩ := h hn
 exact ⟨b, off, e, Nat.lt_of_lt_of_le hlt he.size, fun j hj i v hv => he.cell _ _ (hc j hj i v hv)⟩
theorem LAt.ext {α : Type} {k : Nat} {R : World → List Value → α → Prop} {w w' : World} {ao : Option Addr} {c : Nat} {l : List α} (h : LAt k R w ao c l) (he : Ext w w') (hR : ∀ r x, R w r x → R w' r x) : LAt k R w' ao c l := by
 obtain ⟨h1, h2, rows, h3, h4⟩ := h
 exact ⟨h1, h2, rows, zAo.ext h3 he, fun i x hx => hR _ _ (h4 i x hx)⟩
theorem View.ext {w w' : World} {v : Value} {l : List Int} (h : View w v l) (he : Ext w w') : View w' v l := by
 obtain ⟨ao, cap, rfl, hc, hm, hy, hl⟩ := h
 refine ⟨ao, cap, rfl, hc, hm, hy, ?_⟩
 rcases hl with h | ⟨g, off, e, hl⟩
 · exact .inl h
 · exact .inr ⟨g, off, e, fun j x hj => he.cell _ _ (hl j x hj)⟩
theorem zBi.ext {w w' : World} (he : Ext w w') {r : List Value} {f : RD} (h : zBi w r f) : zBi w' r f := by
 obtain ⟨o1, c1, o2, c2, e, h1, h2⟩ := h
 exact ⟨o1, c1, o2, c2, e, LAt.ext h1 he (fun _ _ h => h), LAt.ext h2 he (fun _ _ h => h)⟩
theorem zBk.ext {w w' : World} (he : Ext w w') {r : List Value} {m : MD} (h : zBk w r m) : zBk w' r m := by
 obtain ⟨o1, c1, o2, c2, o3, c3, e, s1, s2, h1, h2, h3⟩ := h
 exact ⟨o1, c1, o2, c2, o3, c3, e, s1, s2, View.ext h1 he, LAt.ext h2 he (fun _ _ h => h), LAt.ext h3 he (fun _ _ h => zBi.ext he h)⟩
/-! A world of which only some blocks are seen. -/
def seen (X : Nat → Bool) (w : World) : World := { w with heap := w.heap.mapIdx fun i o => if X i then o else .cells #[] 0 }
theorem zEt (X : Nat → Bool) (w : World) : (seen X w).heap.size = w.heap.size := by simp [seen]
theorem zC6 {X : Nat → Bool} {w : World} {p : Addr} {v : Value} : (seen X w).cell? p = some v ↔ X p.block = true ∧ w.cell? p = some v := by
 unfold World.cell? seen
 simp only [Array.getElem?_mapIdx]
 cases h : w.heap[p.block]? with
 | none => simp
 | some o =>
   cases hx : X p.block
   · simp
   · simp
theorem zF6 (X : Nat → Bool) (w : World) : Ext (seen X w) w := ⟨by rw [zEt]; exact Nat.le_refl _, fun p v h => (zC6.1 h).2⟩
theorem zAf {X Y : Nat → Bool} {w w' : World} (hs : w.heap.size ≤ w'.heap.size) (h : ∀ b, b < w.heap.size → X b = true → Y b = true ∧ w'.heap[b]? = w.heap[b]?) : Ext (seen X w) (seen Y w') := by
 refine ⟨by rw [zEt, zEt]; exact hs, fun p v e => ?_⟩
 obtain ⟨h1, h2⟩ := zC6.1 e
 obtain ⟨h3, h4⟩ := h p.block (World.block_lt_of_cell? _ _ h2) h1
 refine zC6.2 ⟨h3, ?_⟩
 unfold World.cell? at h2 ⊢
 rw [h4]; exact h2
/-! Members. -/
structure Mem where
 k : KD
 b : Nat
def ptr : Option Mem → Value
 | none => .pointer none
 | some m => .pointer (some ⟨m.b, 0, none⟩)
def zBm : List Mem → ByteArray → Option Mem
 | [], _ => none
 | m :: o, s => if s == m.k.nm then some m else zBm o s
def lin : List Mem → ByteArray → List Mem
 | [], _ => []
 | m :: o, s => if s == m.k.nm then m :: lin o m.k.sup else lin o s
structure MemAt (w : World) (m : Mem) (ab : Option Mem) (o1 : Option Addr) (c1 : Nat) (o2 : Option Addr) (c2 : Nat) (o3 : Option Addr) (c3 : Nat) : Prop where
 e0 : w.cell? ⟨m.b, 0, none⟩ = some (.string m.k.nm)
 e1 : w.cell? ⟨m.b, 1, none⟩ = some (.string m.k.sup)
 e2 : w.cell? ⟨m.b, 2, none⟩ = some (.slice o1 m.k.pool.length c1)
 e3 : w.cell? ⟨m.b, 3, none⟩ = some (.slice o2 m.k.fs.length c2)
 e4 : w.cell? ⟨m.b, 4, none⟩ = some (.slice o3 m.k.ms.length c3)
 e5 : w.cell? ⟨m.b, 5, none⟩ = some (ptr ab)
 s1 : m.k.nm.size ≤ 9223372036854775807
 s2 : m.k.sup.size ≤ 9223372036854775807
 k1 : LAt 5 zIo w o1 c1 m.k.pool
 k2 : LAt 3 zH2 w o2 c2 m.k.fs
 k3 : LAt 9 zBk w o3 c3 m.k.ms
def zGa (w : World) (m : Mem) (ab : Option Mem) : Prop := ∃ o1 c1 o2 c2 o3 c3, MemAt w m ab o1 c1 o2 c2 o3 c3
theorem zGa.ext {w w' : World} {m : Mem} {ab : Option Mem} (h : zGa w m ab) (he : Ext w w') : zGa w' m ab := by
 obtain ⟨o1, c1, o2, c2, o3, c3, h⟩ := h
 exact ⟨o1, c1, o2, c2, o3, c3, ⟨he.cell _ _ h.e0, he.cell _ _ h.e1, he.cell _ _ h.e2, he.cell _ _ h.e3, he.cell _ _ h.e4, he.cell _ _ h.e5, h.s1, h.s2, LAt.ext h.k1 he (fun _ _ h => h), LAt.ext h.k2 he (fun _ _ h => h), LAt.ext h.k3 he (fun _ _ h => zBk.ext he h)⟩⟩
def Mems (w : World) : List Mem → Prop
 | [] => True
 | m :: o => zGa w m (zBm o m.k.sup) ∧ zBm o m.k.nm = none ∧ Mems w o
theorem Mems.ext {w w' : World} (he : Ext w w') : ∀ {l : List Mem}, Mems w l → Mems w' l
 | [], _ => trivial
 | _ :: _, ⟨h1, h2, h3⟩ => ⟨h1.ext he, h2, Mems.ext he h3⟩
def zEj (w : World) : Option Mem → List Mem → Prop
 | p, [] => p = none
 | p, m :: l => p = some m ∧ ∃ ab, zGa w m ab ∧ zEj w ab l
theorem zEj.ext {w w' : World} (he : Ext w w') : ∀ {p : Option Mem} {l : List Mem}, zEj w p l → zEj w' p l
 | _, [], h => h
 | _, _ :: _, ⟨h1, ab, h2, h3⟩ => ⟨h1, ab, h2.ext he, zEj.ext he h3⟩
theorem Mems.chain {w : World} : ∀ {l : List Mem} (s : ByteArray), Mems w l → zEj w (zBm l s) (lin l s)
 | [], _, _ => rfl
 | m :: o, s, ⟨h1, h2, h3⟩ => by
   unfold zBm lin
   split
   · exact ⟨rfl, _, h1, Mems.chain _ h3⟩
   · exact Mems.chain s h3
theorem zEj.at {w : World} : ∀ {p : Option Mem} {l : List Mem}, zEj w p l → ∀ x ∈ l, ∃ ab, zGa w x ab
 | _, [], _, x, hx => by simp at hx
 | _, m :: l, ⟨_, ab, h2, h3⟩, x, hx => by
   rcases List.mem_cons.1 hx with rfl | h
   · exact ⟨ab, h2⟩
   · exact h3.at x h
end Go.Proofs.YtpehimfnkmepnaaGreat.K
namespace Go.Proofs.YtpehimfnkmepnaaGreat.K
open Go.RowKit Q Q.D
def zAv (rows : Nat → List Value) (n : Nat) : List Value := (List.range n).flatMap rows
theorem zC2 (rows : Nat → List Value) (n : Nat) : zAv rows (n + 1) = zAv rows n ++ rows n := by simp [zAv, List.range_succ]
theorem zBc {rows : Nat → List Value} {k : Nat} : ∀ {n : Nat}, (∀ j, j < n → (rows j).length = k) → (zAv rows n).length = n * k
 | 0, _ => by simp [zAv]
 | n + 1, h => by
   rw [zC2, List.length_append, zBc (fun j hj => h j (by omega)), h n (by omega), Nat.add_mul, Nat.one_mul]
theorem zA9 {rows : Nat → List Value} {k : Nat} : ∀ {n : Nat}, (∀ j, j < n → (rows j).length = k) → ∀ j, j < n → ∀ i, i < k → (zAv rows n)[j * k + i]? = (rows j)[i]?
 | 0, _, j, hj, _, _ => by omega
 | n + 1, h, j, hj, i, hi => by
   have hl := zBc (rows := rows) (k := k) (n := n) (fun j hj => h j (by omega))
   rw [zC2]
   by_cases e : j = n
   · subst e
     rw [List.getElem?_append_right (by rw [hl]; omega), hl]
     congr 1; omega
   · have : j * k + i < n * k := by
      have h1 : (j + 1) * k ≤ n * k := Nat.mul_le_mul_right k (by omega)
      rw [Nat.add_mul] at h1; omega
     rw [List.getElem?_append_left (by rw [hl]; exact this)]
     exact zA9 (fun j hj => h j (by omega)) j (by omega) i hi
theorem zQr {rows : Nat → List Value} {k n : Nat} (h : ∀ j, j < n → (rows j).length = k) {x : Nat} {u : Value} (hx : (zAv rows n)[x]? = some u) : x / k < n ∧ (rows (x / k))[x % k]? = some u := by
 have hlt : x < n * k := by have := (List.getElem?_eq_some_iff.1 hx).1; rwa [zBc h] at this
 have hk : 0 < k := Nat.pos_of_ne_zero (fun e => by subst e; simp at hlt)
 have hq : x / k < n := (Nat.div_lt_iff_lt_mul hk).2 hlt
 refine ⟨hq, ?_⟩
 rw [← zA9 h (x / k) hq (x % k) (Nat.mod_lt _ hk)]
 have : x / k * k + x % k = x := by rw [Nat.mul_comm]; exact Nat.div_add_mod x k
 rw [this]; exact hx
theorem zE6 {rows : Nat → List Value} {n : Nat} {p : Value → Prop} (h : ∀ j, j < n → ∀ u ∈ rows j, p u) : ∀ u ∈ zAv rows n, p u := by
 intro u hu
 simp only [zAv, List.mem_flatMap, List.mem_range] at hu
 obtain ⟨j, hj, hu⟩ := hu
 exact h j hj u hu
theorem zAo.flat {k n : Nat} {w : World} {a : Addr} {rows : Nat → List Value} (h : zAo k w (some a) n rows) (hk : ∀ j, j < n → (rows j).length = k) (x : Nat) (u : Value) (hx : (zAv rows n)[x]? = some u) : w.cell? (a.add x) = some u := by
 obtain ⟨hq, hr⟩ := zQr hk hx
 obtain ⟨b, off, e, _, hc⟩ := h (Nat.lt_of_le_of_lt (Nat.zero_le _) hq)
 cases e
 rw [Addr.add_lit]
 have hk0 : 0 < k := by have := (List.getElem?_eq_some_iff.1 hr).1; rw [hk _ hq] at this; omega
 have := hc (x / k) hq (x % k) u hr
 rwa [show off + x / k * k + x % k = off + x by rw [Nat.add_assoc, Nat.mul_comm, Nat.div_add_mod]] at this
def newB (B : Nat) (b : Nat) : Bool := decide (B ≤ b)
theorem zB9 {B : Nat} {e : TypeId} {k : Nat} {w : World} {v : Value} {n : Nat} {rows : Nat → List Value} (h : w.ownsRow B e k v n (zAv rows n)) (hk : ∀ j, j < n → (rows j).length = k) :
 ∃ ao c, v = .slice ao n c ∧ n ≤ c ∧ c ≤ maxLen ∧ zAo k (seen (newB B) w) ao n rows := by
 rcases h.2 with ⟨rfl, rfl⟩ | ⟨g, cap, cur, rfl, hB, hg, h1, h2, _⟩
 · exact ⟨none, 0, rfl, Nat.le_refl _, by unfold maxLen; omega, fun hn => absurd hn (by omega)⟩
 · refine ⟨some ⟨g, 0, none⟩, cap, rfl, h1, h2, fun _ => ⟨g, 0, rfl, by rw [zEt]; exact (Array.getElem?_eq_some_iff.1 hg).1, fun j hj i u hu => ?_⟩⟩
   have hi : i < k := by have := (List.getElem?_eq_some_iff.1 hu).1; rwa [hk j hj] at this
   have := h.cells (g := g) rfl (j * k + i) u (by rw [zA9 hk j hj i hi]; exact hu)
   rw [Addr.add_lit] at this
   refine zC6.2 ⟨by simp [newB]; exact hB, ?_⟩
   rwa [show 0 + j * k + i = 0 + (j * k + i) by omega]
theorem nilS (w : World) (a : Option Addr) (l c : Nat) : (binOp .eql 47 (.slice a l c) (.slice none 0 0)).run Tryz.prog w = .ok (.bool a.isNone) w := by
 simp [binOp, run_equal_slice_nil w 47 9 a l c Tryz.underlying47]
theorem zT7 : (Tryz.prog.info? 9).map (fun i => (i.zero, i.size, i.bytes)) = some (some (.string ⟨#[]⟩), 1, 16) := by kernel_rfl
theorem zOk (w : World) (ao : Option Addr) (n c : Nat) (rows : Nat → List Value) (h : zAo 1 w ao n rows) (hk : ∀ j, j < n → (rows j).length = 1) (h1 : ∀ j, j < n → ∀ u ∈ rows j, u.oneCell' = true) (hlen : n ≤ 100000) :
 Calls Tryz.prog 62 #[.slice ao n c] w fun e w' => Below w.heap.size w w' ∧ ∃ v', e = .returned v' ∧ w'.ownsRow w.heap.size 9 1 v' n (zAv rows n) := by
 obtain ⟨i0, hi, hz0, hz1, hz2⟩ := info_parts zT7
 cases ao with
 | none =>
   obtain rfl : n = 0 := by
    rcases Nat.eq_zero_or_pos n with e | e
    · exact e
    · obtain ⟨_, _, e, _⟩ := h e; cases e
   have hq := nilS w none 0 c
   go_enter Tryz.func62, Tryz.ntmps62
   go_wp2
   go_ret
   exact ⟨Below.refl _ _, _, rfl, World.ownsRow_nil _ _ _ _⟩
 | some a =>
   have hq := nilS w (some a) n c
   have hown0 : (w.alloc (.cells #[] 9)).ownsRow w.heap.size 9 1 (.slice (some ⟨w.heap.size, 0, none⟩) 0 0) 0 [] := World.ownsRow_made w #[] 0 (Nat.le_refl _) (by unfold maxLen; omega) rfl
   have zC7 : ∀ j u, (zAv rows n)[j]? = some u → (w.alloc (.cells #[] 9)).cell? (a.add j) = some u := fun j u hj => cell_later ((Below.refl _ w).alloc (Nat.le_refl _) _) (zAo.flat h hk j u hj)
   have hlen2 := zBc hk
   have hone := zE6 h1
   clear h hk h1
   generalize zAv rows n = fl at *
   go_enter Tryz.func62, Tryz.ntmps62
   go_wp2_with (at_builtin; refine wpList_append_own_at _ rfl _ _ 47 rfl w.heap.size 9 i0 (.string ⟨#[]⟩) 1 16 Tryz.underlying47 hi hz0 hz1 hz2 rfl (by decide) _ _ _ rfl hown0 _ _ _ fl rfl hlen2 zC7 hone (by unfold maxLen; omega) (by omega) (by simp) ?_; intro v1 w1 ho1 hg1 _ hat1)
   go_wp2
   go_ret
   refine ⟨((Below.refl _ _).alloc (Nat.le_refl _) _).grown hg1 (by simp) (fun k h => (hown0.lt k h).1), _, rfl, ?_⟩
   simpa using ho1
theorem nilC (w : World) (a : Option Addr) (l c : Nat) : (binOp .eql 27 (.slice a l c) (.slice none 0 0)).run Tryz.prog w = .ok (.bool a.isNone) w := by
 simp [binOp, run_equal_slice_nil w 27 112 a l c Tryz.underlying27]
theorem infoC : (Tryz.prog.info? 112).map (fun i => (i.zero, i.size, i.bytes)) = some (some (.agg #[.int .i64 0, .int .i32 0, .string ⟨#[]⟩, .string ⟨#[]⟩, .string ⟨#[]⟩]), 5, 64) := by kernel_rfl
theorem cloneC (w : World) (ao : Option Addr) (n c : Nat) (rows : Nat → List Value) (h : zAo 5 w ao n rows) (hk : ∀ j, j < n → (rows j).length = 5) (h1 : ∀ j, j < n → ∀ u ∈ rows j, u.oneCell' = true) (hlen : n ≤ 100000) :
 Calls Tryz.prog 107 #[.slice ao n c] w fun e w' => Below w.heap.size w w' ∧ ∃ v', e = .returned v' ∧ w'.ownsRow w.heap.size 112 5 v' n (zAv rows n) := by
 obtain ⟨i0, hi, hz0, hz1, hz2⟩ := info_parts infoC
 cases ao with
 | none =>
   obtain rfl : n = 0 := by
    rcases Nat.eq_zero_or_pos n with e | e
    · exact e
    · obtain ⟨_, _, e, _⟩ := h e; cases e
   have hq := nilC w none 0 c
   go_enter Tryz.func107, Tryz.ntmps107
   go_wp2
   go_ret
   exact ⟨Below.refl _ _, _, rfl, World.ownsRow_nil _ _ _ _⟩
 | some a =>
   have hq := nilC w (some a) n c
   have hown0 : (w.alloc (.cells #[] 112)).ownsRow w.heap.size 112 5 (.slice (some ⟨w.heap.size, 0, none⟩) 0 0) 0 [] := World.ownsRow_made w #[] 0 (Nat.le_refl _) (by unfold maxLen; omega) rfl
   have zC7 : ∀ j u, (zAv rows n)[j]? = some u → (w.alloc (.cells #[] 112)).cell? (a.add j) = some u := fun j u hj => cell_later ((Below.refl _ w).alloc (Nat.le_refl _) _) (zAo.flat h hk j u hj)
   have hlen2 := zBc hk
   have hone := zE6 h1
   clear h hk h1
   generalize zAv rows n = fl at *
   go_enter Tryz.func107, Tryz.ntmps107
   go_wp2_with (at_builtin; refine wpList_append_own_at _ rfl _ _ 27 rfl w.heap.size 112 i0 (.agg #[.int .i64 0, .int .i32 0, .string ⟨#[]⟩, .string ⟨#[]⟩, .string ⟨#[]⟩]) 5 64 Tryz.underlying27 hi hz0 hz1 hz2 rfl (by decide) _ _ _ rfl hown0 _ _ _ fl rfl hlen2 zC7 hone (by unfold maxLen; omega) (by omega) (by simp) ?_; intro v1 w1 ho1 hg1 _ hat1)
   go_wp2
   go_ret
   refine ⟨((Below.refl _ _).alloc (Nat.le_refl _) _).grown hg1 (by simp) (fun k h => (hown0.lt k h).1), _, rfl, ?_⟩
   simpa using ho1
theorem nilF (w : World) (a : Option Addr) (l c : Nat) : (binOp .eql 28 (.slice a l c) (.slice none 0 0)).run Tryz.prog w = .ok (.bool a.isNone) w := by
 simp [binOp, run_equal_slice_nil w 28 44 a l c Tryz.underlying28]
theorem infoF : (Tryz.prog.info? 44).map (fun i => (i.zero, i.size, i.bytes)) = some (some (.agg #[.string ⟨#[]⟩, .string ⟨#[]⟩, .bool false]), 3, 40) := by kernel_rfl
theorem cloneF (w : World) (ao : Option Addr) (n c : Nat) (rows : Nat → List Value) (h : zAo 3 w ao n rows) (hk : ∀ j, j < n → (rows j).length = 3) (h1 : ∀ j, j < n → ∀ u ∈ rows j, u.oneCell' = true) (hlen : n ≤ 100000) :
 Calls Tryz.prog 108 #[.slice ao n c] w fun e w' => Below w.heap.size w w' ∧ ∃ v', e = .returned v' ∧ w'.ownsRow w.heap.size 44 3 v' n (zAv rows n) := by
 obtain ⟨i0, hi, hz0, hz1, hz2⟩ := info_parts infoF
 cases ao with
 | none =>
   obtain rfl : n = 0 := by
    rcases Nat.eq_zero_or_pos n with e | e
    · exact e
    · obtain ⟨_, _, e, _⟩ := h e; cases e
   have hq := nilF w none 0 c
   go_enter Tryz.func108, Tryz.ntmps108
   go_wp2
   go_ret
   exact ⟨Below.refl _ _, _, rfl, World.ownsRow_nil _ _ _ _⟩
 | some a =>
   have hq := nilF w (some a) n c
   have hown0 : (w.alloc (.cells #[] 44)).ownsRow w.heap.size 44 3 (.slice (some ⟨w.heap.size, 0, none⟩) 0 0) 0 [] := World.ownsRow_made w #[] 0 (Nat.le_refl _) (by unfold maxLen; omega) rfl
   have zC7 : ∀ j u, (zAv rows n)[j]? = some u → (w.alloc (.cells #[] 44)).cell? (a.add j) = some u := fun j u hj => cell_later ((Below.refl _ w).alloc (Nat.le_refl _) _) (zAo.flat h hk j u hj)
   have hlen2 := zBc hk
   have hone := zE6 h1
   clear h hk h1
   generalize zAv rows n = fl at *
   go_enter Tryz.func108, Tryz.ntmps108
   go_wp2_with (at_builtin; refine wpList_append_own_at _ rfl _ _ 28 rfl w.heap.size 44 i0 (.agg #[.string ⟨#[]⟩, .string ⟨#[]⟩, .bool false]) 3 40 Tryz.underlying28 hi hz0 hz1 hz2 rfl (by decide) _ _ _ rfl hown0 _ _ _ fl rfl hlen2 zC7 hone (by unfold maxLen; omega) (by omega) (by simp) ?_; intro v1 w1 ho1 hg1 _ hat1)
   go_wp2
   go_ret
   refine ⟨((Below.refl _ _).alloc (Nat.le_refl _) _).grown hg1 (by simp) (fun k h => (hown0.lt k h).1), _, rfl, ?_⟩
   simpa using ho1
theorem nilM (w : World) (a : Option Addr) (l c : Nat) : (binOp .eql 29 (.slice a l c) (.slice none 0 0)).run Tryz.prog w = .ok (.bool a.isNone) w := by
 simp [binOp, run_equal_slice_nil w 29 39 a l c Tryz.underlying29]
theorem infoM : (Tryz.prog.info? 39).map (fun i => (i.zero, i.size, i.bytes)) = some (some (.agg #[.string ⟨#[]⟩, .string ⟨#[]⟩, .bool false, .bool false, .int .i64 0, .int .i64 0, .slice none 0 0, .slice none 0 0, .slice none 0 0]), 9, 128) := by kernel_rfl
theorem cloneM (w : World) (ao : Option Addr) (n c : Nat) (rows : Nat → List Value) (h : zAo 9 w ao n rows) (hk : ∀ j, j < n → (rows j).length = 9) (h1 : ∀ j, j < n → ∀ u ∈ rows j, u.oneCell' = true) (hlen : n ≤ 100000) :
 Calls Tryz.prog 109 #[.slice ao n c] w fun e w' => Below w.heap.size w w' ∧ ∃ v', e = .returned v' ∧ w'.ownsRow w.heap.size 39 9 v' n (zAv rows n) := by
 obtain ⟨i0, hi, hz0, hz1, hz2⟩ := info_parts infoM
 cases ao with
 | none =>
   obtain rfl : n = 0 := by
    rcases Nat.eq_zero_or_pos n with e | e
    · exact e
    · obtain ⟨_, _, e, _⟩ := h e; cases e
   have hq := nilM w none 0 c
   go_enter Tryz.func109, Tryz.ntmps109
   go_wp2
   go_ret
   exact ⟨Below.refl _ _, _, rfl, World.ownsRow_nil _ _ _ _⟩
 | some a =>
   have hq := nilM w (some a) n c
   have hown0 : (w.alloc (.cells #[] 39)).ownsRow w.heap.size 39 9 (.slice (some ⟨w.heap.size, 0, none⟩) 0 0) 0 [] := World.ownsRow_made w #[] 0 (Nat.le_refl _) (by unfold maxLen; omega) rfl
   have zC7 : ∀ j u, (zAv rows n)[j]? = some u → (w.alloc (.cells #[] 39)).cell? (a.add j) = some u := fun j u hj => cell_later ((Below.refl _ w).alloc (Nat.le_refl _) _) (zAo.flat h hk j u hj)
   have hlen2 := zBc hk
   have hone := zE6 h1
   clear h hk h1
   generalize zAv rows n = fl at *
   go_enter Tryz.func109, Tryz.ntmps109
   go_wp2_with (at_builtin; refine wpList_append_own_at _ rfl _ _ 29 rfl w.heap.size 39 i0 (.agg #[.string ⟨#[]⟩, .string ⟨#[]⟩, .bool false, .bool false, .int .i64 0, .int .i64 0, .slice none 0 0, .slice none 0 0, .slice none 0 0]) 9 128 Tryz.underlying29 hi hz0 hz1 hz2 rfl (by decide) _ _ _ rfl hown0 _ _ _ fl rfl hlen2 zC7 hone (by unfold maxLen; omega) (by omega) (by simp) ?_; intro v1 w1 ho1 hg1 _ hat1)
   go_wp2
   go_ret
   refine ⟨((Below.refl _ _).alloc (Nat.le_refl _) _).grown hg1 (by simp) (fun k h => (hown0.lt k h).1), _, rfl, ?_⟩
   simpa using ho1
theorem nilH (w : World) (a : Option Addr) (l c : Nat) : (binOp .eql 36 (.slice a l c) (.slice none 0 0)).run Tryz.prog w = .ok (.bool a.isNone) w := by
 simp [binOp, run_equal_slice_nil w 36 154 a l c Tryz.underlying36]
theorem infoH : (Tryz.prog.info? 154).map (fun i => (i.zero, i.size, i.bytes)) = some (some (.agg #[.int .i64 0, .int .i64 0, .int .i64 0, .string ⟨#[]⟩]), 4, 40) := by kernel_rfl
theorem cloneH (w : World) (ao : Option Addr) (n c : Nat) (rows : Nat → List Value) (h : zAo 4 w ao n rows) (hk : ∀ j, j < n → (rows j).length = 4) (h1 : ∀ j, j < n → ∀ u ∈ rows j, u.oneCell' = true) (hlen : n ≤ 100000) :
 Calls Tryz.prog 114 #[.slice ao n c] w fun e w' => Below w.heap.size w w' ∧ ∃ v', e = .returned v' ∧ w'.ownsRow w.heap.size 154 4 v' n (zAv rows n) := by
 obtain ⟨i0, hi, hz0, hz1, hz2⟩ := info_parts infoH
 cases ao with
 | none =>
   obtain rfl : n = 0 := by
    rcases Nat.eq_zero_or_pos n with e | e
    · exact e
    · obtain ⟨_, _, e, _⟩ := h e; cases e
   have hq := nilH w none 0 c
   go_enter Tryz.func114, Tryz.ntmps114
   go_wp2
   go_ret
   exact ⟨Below.refl _ _, _, rfl, World.ownsRow_nil _ _ _ _⟩
 | some a =>
   have hq := nilH w (some a) n c
   have hown0 : (w.alloc (.cells #[] 154)).ownsRow w.heap.size 154 4 (.slice (some ⟨w.heap.size, 0, none⟩) 0 0) 0 [] := World.ownsRow_made w #[] 0 (Nat.le_refl _) (by unfold maxLen; omega) rfl
   have zC7 : ∀ j u, (zAv rows n)[j]? = some u → (w.alloc (.cells #[] 154)).cell? (a.add j) = some u := fun j u hj => cell_later ((Below.refl _ w).alloc (Nat.le_refl _) _) (zAo.flat h hk j u hj)
   have hlen2 := zBc hk
   have hone := zE6 h1
   clear h hk h1
   generalize zAv rows n = fl at *
   go_enter Tryz.func114, Tryz.ntmps114
   go_wp2_with (at_builtin; refine wpList_append_own_at _ rfl _ _ 36 rfl w.heap.size 154 i0 (.agg #[.int .i64 0, .int .i64 0, .int .i64 0, .string ⟨#[]⟩]) 4 40 Tryz.underlying36 hi hz0 hz1 hz2 rfl (by decide) _ _ _ rfl hown0 _ _ _ fl rfl hlen2 zC7 hone (by unfold maxLen; omega) (by omega) (by simp) ?_; intro v1 w1 ho1 hg1 _ hat1)
   go_wp2
   go_ret
   refine ⟨((Below.refl _ _).alloc (Nat.le_refl _) _).grown hg1 (by simp) (fun k h => (hown0.lt k h).1), _, rfl, ?_⟩
   simpa using ho1
theorem nilR (w : World) (a : Option Addr) (l c : Nat) : (binOp .eql 37 (.slice a l c) (.slice none 0 0)).run Tryz.prog w = .ok (.bool a.isNone) w := by
 simp [binOp, run_equal_slice_nil w 37 67 a l c Tryz.underlying37]
theorem infoR : (Tryz.prog.info? 67).map (fun i => (i.zero, i.size, i.bytes)) = some (some (.agg #[.int .i64 0, .slice none 0 0, .slice none 0 0]), 3, 56) := by kernel_rfl
theorem cloneR (w : World) (ao : Option Addr) (n c : Nat) (rows : Nat → List Value) (h : zAo 3 w ao n rows) (hk : ∀ j, j < n → (rows j).length = 3) (h1 : ∀ j, j < n → ∀ u ∈ rows j, u.oneCell' = true) (hlen : n ≤ 100000) :
 Calls Tryz.prog 115 #[.slice ao n c] w fun e w' => Below w.heap.size w w' ∧ ∃ v', e = .returned v' ∧ w'.ownsRow w.heap.size 67 3 v' n (zAv rows n) := by
 obtain ⟨i0, hi, hz0, hz1, hz2⟩ := info_parts infoR
 cases ao with
 | none =>
   obtain rfl : n = 0 := by
    rcases Nat.eq_zero_or_pos n with e | e
    · exact e
    · obtain ⟨_, _, e, _⟩ := h e; cases e
   have hq := nilR w none 0 c
   go_enter Tryz.func115, Tryz.ntmps115
   go_wp2
   go_ret
   exact ⟨Below.refl _ _, _, rfl, World.ownsRow_nil _ _ _ _⟩
 | some a =>
   have hq := nilR w (some a) n c
   have hown0 : (w.alloc (.cells #[] 67)).ownsRow w.heap.size 67 3 (.slice (some ⟨w.heap.size, 0, none⟩) 0 0) 0 [] := World.ownsRow_made w #[] 0 (Nat.le_refl _) (by unfold maxLen; omega) rfl
   have zC7 : ∀ j u, (zAv rows n)[j]? = some u → (w.alloc (.cells #[] 67)).cell? (a.add j) = some u := fun j u hj => cell_later ((Below.refl _ w).alloc (Nat.le_refl _) _) (zAo.flat h hk j u hj)
   have hlen2 := zBc hk
   have hone := zE6 h1
   clear h hk h1
   generalize zAv rows n = fl at *
   go_enter Tryz.func115, Tryz.ntmps115
   go_wp2_with (at_builtin; refine wpList_append_own_at _ rfl _ _ 37 rfl w.heap.size 67 i0 (.agg #[.int .i64 0, .slice none 0 0, .slice none 0 0]) 3 56 Tryz.underlying37 hi hz0 hz1 hz2 rfl (by decide) _ _ _ rfl hown0 _ _ _ fl rfl hlen2 zC7 hone (by unfold maxLen; omega) (by omega) (by simp) ?_; intro v1 w1 ho1 hg1 _ hat1)
   go_wp2
   go_ret
   refine ⟨((Below.refl _ _).alloc (Nat.le_refl _) _).grown hg1 (by simp) (fun k h => (hown0.lt k h).1), _, rfl, ?_⟩
   simpa using ho1
end Go.Proofs.YtpehimfnkmepnaaGreat.K
