import Derived.Test.YtpehimfnkmepnaaGreatBz35
set_option maxRecDepth 8000
set_option maxHeartbeats 40000000
namespace Go.Proofs.YtpehimfnkmepnaaGreat.K
open Go.RowKit Go.ChangeMaps Q Q.D
theorem zBr {P : Program} {ops : Array Oper} {o : Oper} {a : Act} {w w' : World} {K : Act → World → Prop} {Q : Exit → Act → World → Prop} {E : Prop} {s x : Operand} {t : TypeId} {v vb v' : Value} (hgd : o.guard = none)
 (ho : o.op = .call { callee := .builtin .append, args := #[s, x], argTypes := #[t, t] }) (hs : a.eval s = v) (hx : a.eval x = vb) (hr : (Builtin.append_ #[t, t] o.type #[v, vb]).run P w = .ok v' w') (h : K (a.put o.dst v') w') :
 if Region.wanted o (yielded ops a.tmps) = true then Oper.wp P o a w K Q else E := by
 rw [if_pos (by simp [Region.wanted, hgd])]
 unfold Oper.wp execOp
 simp only [ho, resolve, invoke, builtin, Sem.run_bind, Sem.run_pure, Result.andThen_ok, List.map_toArray, List.map_cons, List.map_nil, hs, hx, hr]
 exact h
def zCl (R : List Mem) : List Value := R.reverse.map fun m => .string m.k.nm
def offK (pk mb : Nat) (v : Value) (b : Nat) : Bool := (b != pk) && ((b != mb) && (v.ownBlock != some b))
theorem zCr {pk mb : Nat} {v : Value} {b : Nat} : offK pk mb v b = true ↔ b ≠ pk ∧ b ≠ mb ∧ v.ownBlock ≠ some b := by simp [offK]
theorem zBu (w : World) (b k : Nat) (o : Obj) (h : k ≠ b) : (setBlock w b o).heap[k]? = w.heap[k]? := by
 unfold setBlock
 simp [Ne.symm h]
structure KinO (n0 : Nat) (W : World) (pk mb : Nat) (v : Value) (R : List Mem) : Prop where
 hpk : n0 ≤ pk
 hmb : n0 ≤ mb
 box : Blk W pk #[v, .map (some mb)] 99
 own : W.ownsRow n0 9 1 v R.length (zCl R)
 map : SMap W mb (ents R)
 mems : Mems (seen (offK pk mb v) W) R
structure zFm (pk mb : Nat) (v : Value) (W W' : World) : Prop where
 os : W'.os = W.os
 tape : W'.tape = W.tape
 output : W'.output = W.output
 size : W.heap.size ≤ W'.heap.size
 block : ∀ b, b < W.heap.size → b ≠ pk → b ≠ mb → v.ownBlock ≠ some b → W'.heap[b]? = W.heap[b]?
def offG (G : Nat → Bool) (pk mb : Nat) (v : Value) (b : Nat) : Bool := offK pk mb v b && G b
theorem zCd {G : Nat → Bool} {pk mb : Nat} {v : Value} {b : Nat} : offG G pk mb v b = true ↔ offK pk mb v b = true ∧ G b = true := by simp [offG]
theorem zAp.ext' {w w' : World} (he : Ext w w') {v : Value} {k : KD} (h : zAp w v k) : zAp w' v k := by
 obtain ⟨o1, c1, o2, c2, o3, c3, rfl, z1, z2, k1, k2, k3⟩ := h
 exact ⟨o1, c1, o2, c2, o3, c3, rfl, z1, z2, LAt.ext k1 he (fun _ _ h => h), LAt.ext k2 he (fun _ _ h => h), LAt.ext k3 he (fun _ _ h => zB1.ext he h)⟩
theorem zJz (n0 : Nat) (W : World) (pk mb : Nat) (v : Value) (R : List Mem) (h : KinO n0 W pk mb v R) (k : KD) (cv : Value) (G : Nat → Bool) (hG : ∀ b, W.heap.size ≤ b → G b = true) (hc : zAp (seen (offG G pk mb v) W) cv k) (hnew : zB7 R k.nm = none) (hR : R.length ≤ 1000) :
 Calls Tryz.prog 53 #[.pointer (some ⟨pk, 0, none⟩), cv] W fun e w' => (∃ u, e = .returned u) ∧ ∃ v' b, KinO n0 w' pk mb v' (⟨k, b⟩ :: R) ∧ zFm pk mb v W w' ∧ (∀ g, v'.ownBlock = some g → v.ownBlock = some g ∨ W.heap.size ≤ g) ∧ zF2 (seen (offG G pk mb v') w') ⟨k, b⟩ (zB7 R k.sup) := by
 obtain ⟨o1, c1, o2, c2, o3, c3, rfl, z1, z2, K1, K2, K3⟩ := hc
 have E0 : Ext (seen (offG G pk mb v) W) (seen (offK pk mb v) W) := zAl (Nat.le_refl _) (fun b _ hb => ⟨(zCd.1 hb).1, rfl⟩)
 have k1 := LAt.ext K1 E0 (fun _ _ h => h)
 have k2 := LAt.ext K2 E0 (fun _ _ h => h)
 have k3 := LAt.ext K3 E0 (fun _ _ h => zB1.ext E0 h)
 have hsz0 : n0 ≤ W.heap.size := by have := h.hpk; have := h.box.lt; omega
 obtain ⟨i0, hi, hz0, hz1, hz2⟩ := info_parts zSd
 obtain ⟨W1, hW1⟩ : ∃ W1, W.alloc (.cells #[.string k.nm, .string k.sup, .slice o1 k.pool.length c1, .slice o2 k.fs.length c2, .slice o3 k.ms.length c3] 31) = W1 := ⟨_, rfl⟩
 have C1 : Blk W1 W.heap.size #[.string k.nm, .string k.sup, .slice o1 k.pool.length c1, .slice o2 k.fs.length c2, .slice o3 k.ms.length c3] 31 := by rw [← hW1]; exact Blk.new W _ _
 have B1 : Below W.heap.size W W1 := by rw [← hW1]; exact zA9 W _
 have hs1 : W1.heap.size = W.heap.size + 1 := by rw [← hW1]; simp
 have X1 := h.box.below B1
 have O1 := zC0 h.own B1
 have M1 := h.map.kept (B1.block _ h.map.lt)
 have s1 := X1.cell 0
 have s2 := C1.cell 0
 simp at s1 s2
 obtain ⟨W2, hW2⟩ : ∃ W2, W1.drew.alloc (.cells #[.string k.nm] 9) = W2 := ⟨_, rfl⟩
 have B2 : Below W1.heap.size W1 W2 := by rw [← hW2]; exact (Below.refl _ W1).drew.trans (zA9 W1.drew _)
 have s3 := (X1.below B2).cell 0
 have s4 := (C1.below B2).cell 0
 simp at s3 s4
 obtain ⟨v', w3, hr, ho, hg, _, hat⟩ := run_append_own_at (P := Tryz.prog) (w := W2) n0 47 47 9 i0 (.string ⟨#[]⟩) 1 16 Tryz.underlying47 hi hz0 hz1 hz2 rfl (by decide) v R.length (zCl R)
  (zC0 O1 B2) ⟨W1.heap.size, 0, none⟩ 1 1 [.string k.nm] rfl (fun j u hj => by
   match j, hj with
   | 0, hj => simp at hj; subst hj; rw [← hW2]; exact (zEr W1.drew _ _).1
   | j + 1, hj => simp at hj) (by simp [Value.oneCell']) (by unfold maxLen; omega) (by omega) (by have := B2.size; omega)
 have hvpk : v.ownBlock ≠ some pk := zBc h.own h.box (by decide)
 have hvB : v.ownBlock ≠ some W.heap.size := fun e => by have := (h.own.lt _ e).2; omega
 have X3 : Blk w3 pk #[v, .map (some mb)] 99 := (hg.block pk (X1.below B2).lt (fun e => hvpk e.symm)).trans (X1.below B2)
 have C3 : Blk w3 W.heap.size #[.string k.nm, .string k.sup, .slice o1 k.pool.length c1, .slice o2 k.fs.length c2, .slice o3 k.ms.length c3] 31 := (hg.block W.heap.size (C1.below B2).lt (fun e => hvB e.symm)).trans (C1.below B2)
 have s5 := X3.cell 0
 have s6 := C3.cell 0
 have f5 := X3.frozen 0
 obtain ⟨g', cap', rfl⟩ := ownsRow_succ ho
 have X4 := X3.set 0 (.slice (some ⟨g', 0, none⟩) (R.length + 1) cap')
 have C4 := C3.other (b' := pk) (by have := h.box.lt; omega) 0 (.slice (some ⟨g', 0, none⟩) (R.length + 1) cap')
 have s7 := X4.cell 0
 have s8 := C4.cell 0
 simp at s5 s6 s7 s8
 obtain ⟨W4, hW4⟩ : ∃ W4, w3.setCell ⟨pk, 0, none⟩ (.slice (some ⟨g', 0, none⟩) (R.length + 1) cap') = W4 := ⟨_, rfl⟩
 have s8o := s8
 rw [hW4] at X4 C4 s7 s8
 have hbs := h.box.lt
 have hms := h.map.lt
 have hmp : mb ≠ pk := fun e => by
  obtain ⟨es, cl, hm, _⟩ := h.map
  rw [e, show W.heap[pk]? = _ from h.box] at hm; cases hm
 have hmv : v.ownBlock ≠ some mb := fun e => by
  obtain ⟨c, fz, hk⟩ := Lib.ownsRow_kind h.own mb e
  obtain ⟨es, cl, hm, _⟩ := h.map
  rw [hm] at hk; cases hk
 have hs2 := B2.size
 have hs3 : W2.heap.size ≤ w3.heap.size := hg.size
 have hs4 : W4.heap.size = w3.heap.size := by rw [← hW4]; simp
 have hblk : ∀ b, b < W.heap.size → b ≠ pk → v.ownBlock ≠ some b → W4.heap[b]? = W.heap[b]? := fun b hb h1 h2 => by
  rw [← hW4, heap_setCell_other w3 ⟨pk, 0, none⟩ b _ (fun e => h1 e), hg.block b (by omega) (fun e => h2 e.symm), B2.block b (by omega), B1.block b hb]
 have M4 : SMap W4 mb (ents R) := h.map.kept (hblk mb hms hmp hmv)
 obtain ⟨q, hq⟩ : ∃ q, ptr (zB7 R k.sup) = .pointer q := by cases zB7 R k.sup <;> exact ⟨_, rfl⟩
 have hl4 : (Instr.lookup 97 (.map (some mb)) (.string k.sup) false).run Tryz.prog W4.drew = .ok (.pointer q) W4.drew := by
  rw [← hq, SMap.look (show SMap W4.drew mb (ents R) from M4) Tryz.underlying97 Tryz.underlying9 (Tryz.zeroValue108 _) k.sup, zEp k.sup h.mems.apart]
  cases zB7 R k.sup <;> rfl
 have hsl : zFl (ents R) k.nm = none := by rw [zEp k.nm h.mems.apart, hnew]; rfl
 obtain ⟨W5, hW5⟩ : ∃ W5, (W4.alloc (.cells #[.string k.nm, .string k.sup, .slice o1 k.pool.length c1, .slice o2 k.fs.length c2, .slice o3 k.ms.length c3, .pointer q] 110)).drew = W5 := ⟨_, rfl⟩
 have B5 : Below W4.heap.size W4 W5 := by rw [← hW5]; exact (zA9 W4 _).drew
 have N5 : Blk W5 W4.heap.size #[.string k.nm, .string k.sup, .slice o1 k.pool.length c1, .slice o2 k.fs.length c2, .slice o3 k.ms.length c3, .pointer q] 110 := by rw [← hW5]; exact Blk.new W4 _ _
 have M5 := M4.kept (B5.block _ M4.lt)
 obtain ⟨es, clk, hput, M6⟩ := M5.put Tryz.underlying97 Tryz.underlying9 k.nm (.pointer (some ⟨W4.heap.size, 0, none⟩)) hsl
 have X5 := X4.below B5
 have C5 := C4.below B5
 have hmW : mb ≠ W.heap.size := by omega
 have X6 : Blk (setBlock W5 mb (.map es clk)) pk #[.slice (some ⟨g', 0, none⟩) (R.length + 1) cap', .map (some mb)] 99 := (zBu _ _ _ _ (fun e => hmp e.symm)).trans X5
 have C6 : Blk (setBlock W5 mb (.map es clk)) W.heap.size #[.string k.nm, .string k.sup, .slice o1 k.pool.length c1, .slice o2 k.fs.length c2, .slice o3 k.ms.length c3] 31 := (zBu _ _ _ _ (fun e => hmW e.symm)).trans C5
 have HS2 := D.zA0 (⟨X4.cell 1, C4.cell 0, C4.cell 1, C4.cell 2, C4.cell 3, C4.cell 4⟩ : W4.cell? ⟨pk, 1, none⟩ = some (.map (some mb)) ∧ (W4.cell? ⟨W.heap.size, 0, none⟩ = some (.string k.nm) ∧ W4.cell? ⟨W.heap.size, 1, none⟩ = some (.string k.sup) ∧ W4.cell? ⟨W.heap.size, 2, none⟩ = some (.slice o1 k.pool.length c1) ∧ W4.cell? ⟨W.heap.size, 3, none⟩ = some (.slice o2 k.fs.length c2) ∧ W4.cell? ⟨W.heap.size, 4, none⟩ = some (.slice o3 k.ms.length c3)))
 have HS3 : Hid ((W4.alloc (.cells #[.string k.nm, .string k.sup, .slice o1 k.pool.length c1, .slice o2 k.fs.length c2, .slice o3 k.ms.length c3, .pointer q] 110)).drew.cell? ⟨pk, 1, none⟩ = some (.map (some mb)) ∧ ((W4.alloc (.cells #[.string k.nm, .string k.sup, .slice o1 k.pool.length c1, .slice o2 k.fs.length c2, .slice o3 k.ms.length c3, .pointer q] 110)).drew.cell? ⟨W.heap.size, 0, none⟩ = some (.string k.nm) ∧ (W4.alloc (.cells #[.string k.nm, .string k.sup, .slice o1 k.pool.length c1, .slice o2 k.fs.length c2, .slice o3 k.ms.length c3, .pointer q] 110)).drew.cell? ⟨W.heap.size, 1, none⟩ = some (.string k.sup) ∧ (W4.alloc (.cells #[.string k.nm, .string k.sup, .slice o1 k.pool.length c1, .slice o2 k.fs.length c2, .slice o3 k.ms.length c3, .pointer q] 110)).drew.cell? ⟨W.heap.size, 2, none⟩ = some (.slice o1 k.pool.length c1) ∧ (W4.alloc (.cells #[.string k.nm, .string k.sup, .slice o1 k.pool.length c1, .slice o2 k.fs.length c2, .slice o3 k.ms.length c3, .pointer q] 110)).drew.cell? ⟨W.heap.size, 3, none⟩ = some (.slice o2 k.fs.length c2) ∧ (W4.alloc (.cells #[.string k.nm, .string k.sup, .slice o1 k.pool.length c1, .slice o2 k.fs.length c2, .slice o3 k.ms.length c3, .pointer q] 110)).drew.cell? ⟨W.heap.size, 4, none⟩ = some (.slice o3 k.ms.length c3))) := by
  rw [hW5]; exact D.zA0 ⟨X5.cell 1, C5.cell 0, C5.cell 1, C5.cell 2, C5.cell 3, C5.cell 4⟩
 have HS4 := D.zA0 (⟨X6.cell 1, C6.cell 0, C6.cell 1, C6.cell 2, C6.cell 3, C6.cell 4⟩ : (setBlock W5 mb (.map es clk)).cell? ⟨pk, 1, none⟩ = some (.map (some mb)) ∧ ((setBlock W5 mb (.map es clk)).cell? ⟨W.heap.size, 0, none⟩ = some (.string k.nm) ∧ (setBlock W5 mb (.map es clk)).cell? ⟨W.heap.size, 1, none⟩ = some (.string k.sup) ∧ (setBlock W5 mb (.map es clk)).cell? ⟨W.heap.size, 2, none⟩ = some (.slice o1 k.pool.length c1) ∧ (setBlock W5 mb (.map es clk)).cell? ⟨W.heap.size, 3, none⟩ = some (.slice o2 k.fs.length c2) ∧ (setBlock W5 mb (.map es clk)).cell? ⟨W.heap.size, 4, none⟩ = some (.slice o3 k.ms.length c3)))
 have hput' : (Instr.mapUpdate 97 (.map (some mb)) (.string k.nm) (.pointer (some ⟨W4.heap.size, 0, none⟩))).run Tryz.prog (W4.alloc (.cells #[.string k.nm, .string k.sup, .slice o1 k.pool.length c1, .slice o2 k.fs.length c2, .slice o3 k.ms.length c3, .pointer q] 110)).drew = .ok () (setBlock W5 mb (.map es clk)) := by rw [hW5]; exact hput
 have hb6 : ∀ b, b < W.heap.size → b ≠ pk → b ≠ mb → v.ownBlock ≠ some b → (setBlock W5 mb (.map es clk)).heap[b]? = W.heap[b]? := fun b hb h1 h2 h3 => by
  rw [zBu _ _ _ _ h2, B5.block b (by omega), hblk b hb h1 h3]
 have hgn : g' < w3.heap.size := (ho.lt g' rfl).2
 have E6 : Ext (seen (offK pk mb v) W) (seen (offK pk mb (.slice (some ⟨g', 0, none⟩) (R.length + 1) cap')) (setBlock W5 mb (.map es clk))) := zAl (by have := B5.size; simp [setBlock]; omega) (fun b hb hx => by
  obtain ⟨x1, x2, x3⟩ := zCr.1 hx
  refine ⟨zCr.2 ⟨x1, x2, fun e => ?_⟩, hb6 b hb x1 x2 x3⟩
  rcases hat with e' | e'
  · rw [e'] at e; exact x3 e
  · rw [e', Option.some.injEq] at e; omega)
 have E6G : Ext (seen (offG G pk mb v) W) (seen (offG G pk mb (.slice (some ⟨g', 0, none⟩) (R.length + 1) cap')) (setBlock W5 mb (.map es clk))) := zAl (by have := B5.size; simp [setBlock]; omega) (fun b hb hx => by
  obtain ⟨hx, hgx⟩ := zCd.1 hx
  obtain ⟨x1, x2, x3⟩ := zCr.1 hx
  refine ⟨zCd.2 ⟨zCr.2 ⟨x1, x2, fun e => ?_⟩, hgx⟩, hb6 b hb x1 x2 x3⟩
  rcases hat with e' | e'
  · rw [e'] at e; exact x3 e
  · rw [e', Option.some.injEq] at e; omega)
 have hgm : g' ≠ mb := fun e => by
  obtain ⟨c, fz, hk⟩ := Lib.ownsRow_kind ho mb (by simp [Value.ownBlock, e])
  obtain ⟨es', cl', hm, _⟩ := M4
  rw [← hW4, heap_setCell_other w3 ⟨pk, 0, none⟩ mb _ hmp, hk] at hm; cases hm
 have hgp : g' ≠ pk := fun e => zBc ho X3 (by decide) (by simp [Value.ownBlock, e])
 have N6 : Blk (setBlock W5 mb (.map es clk)) W4.heap.size #[.string k.nm, .string k.sup, .slice o1 k.pool.length c1, .slice o2 k.fs.length c2, .slice o3 k.ms.length c3, .pointer q] 110 := (zBu _ _ _ _ (by omega)).trans N5
 have hsee : offK pk mb (.slice (some ⟨g', 0, none⟩) (R.length + 1) cap') W4.heap.size = true := zCr.2 ⟨by omega, by omega, by simp [Value.ownBlock]; omega⟩
 have cN := fun i v (hv : (#[.string k.nm, .string k.sup, .slice o1 k.pool.length c1, .slice o2 k.fs.length c2, .slice o3 k.ms.length c3, .pointer q] : Array Value)[i]? = some v) => (zBe (X := offK pk mb (.slice (some ⟨g', 0, none⟩) (R.length + 1) cap')) (p := ⟨W4.heap.size, i, none⟩)).2 ⟨hsee, (N6.cell i).trans hv, zGx N6⟩
 have cNG := fun i v (hv : (#[.string k.nm, .string k.sup, .slice o1 k.pool.length c1, .slice o2 k.fs.length c2, .slice o3 k.ms.length c3, .pointer q] : Array Value)[i]? = some v) => (zBe (X := offG G pk mb (.slice (some ⟨g', 0, none⟩) (R.length + 1) cap')) (p := ⟨W4.heap.size, i, none⟩)).2 ⟨zCd.2 ⟨hsee, hG W4.heap.size (by omega)⟩, (N6.cell i).trans hv, zGx N6⟩
 have FIN := D.zA0 (⟨.slice (some ⟨g', 0, none⟩) (R.length + 1) cap', W4.heap.size, ⟨h.hpk, h.hmb, X6, by
  have o5 := zC0 (ownsRow_setCell_other (a := ⟨pk, 0, none⟩) ho (by simp [Value.ownBlock]; exact hgp) (.slice (some ⟨g', 0, none⟩) (R.length + 1) cap'))  (hW4 ▸ B5)
  have e : zCl (⟨k, W4.heap.size⟩ :: R) = zCl R ++ [.string k.nm] := by simp [zCl]
  rw [e]
  refine ⟨by simpa using o5.1, o5.2.imp id (fun ⟨g, cap, cur, e1, hB, hgg, r⟩ => ⟨g, cap, cur, e1, hB, (zBu _ _ _ _ ?_).trans hgg, r⟩)⟩
  simp only [Value.slice.injEq, Option.some.injEq, Addr.mk.injEq] at e1
  rw [← e1.1.1]; exact hgm, by
  have e : ents (⟨k, W4.heap.size⟩ :: R) = ents R ++ [(k.nm, .pointer (some ⟨W4.heap.size, 0, none⟩))] := by simp [ents, enc]
  rw [e]; exact M6, ⟨o1, c1, o2, c2, o3, c3, cN 0 _ rfl, cN 1 _ rfl, cN 2 _ rfl, cN 3 _ rfl, cN 4 _ rfl, by rw [hq]; exact cN 5 _ rfl, z1, z2, LAt.ext k1 E6 (fun _ _ h => h), LAt.ext k2 E6 (fun _ _ h => h), LAt.ext k3 E6 (fun _ _ h => zB1.ext E6 h)⟩, hnew, h.mems.ext E6⟩,
  ⟨B5.os.trans (by rw [← hW4]; exact hg.os.trans (B2.os.trans B1.os)), B5.tape.trans (by rw [← hW4]; exact hg.tape.trans (B2.tape.trans B1.tape)), B5.output.trans (by rw [← hW4]; exact hg.output.trans (B2.output.trans B1.output)), by have := B5.size; simp [setBlock]; omega, hb6⟩, fun g hg => by
   rcases hat with e' | e'
   · exact .inl (e' ▸ hg)
   · rw [e', Option.some.injEq] at hg; exact .inr (by omega), ⟨o1, c1, o2, c2, o3, c3, cNG 0 _ rfl, cNG 1 _ rfl, cNG 2 _ rfl, cNG 3 _ rfl, cNG 4 _ rfl, by rw [hq]; exact cNG 5 _ rfl, z1, z2, LAt.ext K1 E6G (fun _ _ h => h), LAt.ext K2 E6G (fun _ _ h => h), LAt.ext K3 E6G (fun _ _ h => zB1.ext E6G h)⟩⟩ : ∃ v' b, KinO n0 (setBlock W5 mb (.map es clk)) pk mb v' (⟨k, b⟩ :: R) ∧ zFm pk mb v W (setBlock W5 mb (.map es clk)) ∧ (∀ g, v'.ownBlock = some g → v.ownBlock = some g ∨ W.heap.size ≤ g) ∧ zF2 (seen (offG G pk mb v') (setBlock W5 mb (.map es clk))) ⟨k, b⟩ (zB7 R k.sup))
 have HW4 := D.zA0 hW4
 have HW5 := D.zA0 hW5
 have HB := D.zA0 hblk
 have HSZ := D.zA0 hs4
 have HQ := D.zA0 hq
 clear N6 N5 cN cNG E6G E0 K1 K2 K3 hG hsee hgp hgm E6 hgn hb6 M6 M5 X6 C6 X5 C5 hat ho hg hq hW4 hW5 hblk hput hs4
 replace hr : (Builtin.append_ #[47, 47] 47 #[v, .slice (some ⟨W1.heap.size, 0, none⟩) 1 1]).run Tryz.prog (W1.alloc (.cells #[.string k.nm] 9)).drew = .ok (.slice (some ⟨g', 0, none⟩) (R.length + 1) cap') w3 := by
  rw [show (W1.alloc (.cells #[.string k.nm] 9)).drew = W2 from hW2]; exact hr
 have s3' : (W1.alloc (.cells #[.string k.nm] 9)).drew.cell? ⟨pk, 0, none⟩ = some v := by rw [show (W1.alloc (.cells #[.string k.nm] 9)).drew = W2 from hW2]; exact s3
 have s4' : (W1.alloc (.cells #[.string k.nm] 9)).drew.cell? ⟨W.heap.size, 0, none⟩ = some (.string k.nm) := by rw [show (W1.alloc (.cells #[.string k.nm] 9)).drew = W2 from hW2]; exact s4
 have HW1 := D.zA0 hW1
 have HW2 := D.zA0 hW2
 have HS1 := D.zA0 hs1
 have HR := D.zA0 hr
 clear hW1 hW2 hs1 s3 s4 hr hz0 hz1 hz2 hi
 go_enter Tryz.func53, Tryz.ntmps53
 go_wp2_with fail
 rw [HW1.out]
 refine wp_region_noPanic ?_
 refine wp_region_held_drew (S := (fun X => X.cell? ⟨W.heap.size, 0, none⟩ = some (.string k.nm))) (by kernel_rfl) ?_ (fun hHeld => ?_)
 · (try dsimp only); first | exact s4' | exact s2 | exact s6 | exact s8o
 refine tH 0 ?q0 rfl rfl ?q1 ?q2
 case q1 => intro w hSw; (try dsimp only at hSw); go_simp; try with_reducible rfl
 try simp only [Act.put, sq1, sq2, sq3]
 refine tH 1 ?q3 rfl rfl ?q4 ?q5
 case q4 => intro w hSw; (try dsimp only at hSw); go_simp; try with_reducible rfl
 try simp only [Act.put, sq1, sq2, sq3]
 refine tH 2 ?q6 rfl rfl ?q7 ?q8
 case q7 => intro w hSw; (try dsimp only at hSw); go_simp; try with_reducible rfl
 try simp only [Act.put, sq1, sq2, sq3]
 refine tH 3 ?q9 rfl rfl ?qa ?qb
 case qa => intro w hSw; (try dsimp only at hSw); go_simp; try with_reducible rfl
 try simp only [Act.put, sq1, sq2, sq3]
 refine tH 5 ?qc rfl rfl ?qd ?qe
 case qd => intro w hSw; (try dsimp only at hSw); go_simp; try with_reducible rfl
 try simp only [Act.put, sq1, sq2, sq3]
 refine tH 6 ?qf rfl rfl ?qg ?qh
 case qg => intro w hSw; (try dsimp only at hSw); go_simp; try with_reducible rfl
 try simp only [Act.put, sq1, sq2, sq3]
 refine wpAnyH_ready (rs := [4, 7]) (by kernel_rfl) (by simp) ?_
 refine (cH rfl (fun K hK => ?_) (cH rfl (fun K hK => ?_) AllReadyH.nil))
 · have hdum := True.intro
   go_simp
   try go_wp2_with fail
   refine hK.out _ _ ?qi ?qj
   case qi => (try dsimp only); first | exact s4' | exact s2 | exact s6 | exact s8o
   clear hK K hHeld
   intro hHeld
   try simp only [Act.put, sq1, sq2, sq3]
   refine oH 7 rfl (fun K hK => ?_)
   go_simp
   try go_wp2_with fail
   refine hK.out _ _ ?qk ?ql
   case qk => (try dsimp only); first | exact s4' | exact s2 | exact s6 | exact s8o
   clear hK K hHeld
   intro hHeld
   try simp only [Act.put, sq1, sq2, sq3]
   refine oH 8 rfl (fun K hK => ?_)
   refine zBr (v := v) (vb := .slice (some ⟨W1.heap.size, 0, none⟩) 1 1) rfl rfl rfl rfl HR.out ?_
   refine hK.out _ _ ?qm ?qn
   case qm => (try dsimp only); first | exact s4' | exact s2 | exact s6 | exact s8o
   clear hK K hHeld
   intro hHeld
   try simp only [Act.put, sq1, sq2, sq3]
   refine tH 9 ?qo rfl rfl ?qp ?qq
   case qp => intro w hSw; (try dsimp only at hSw); go_simp; try with_reducible rfl
   try simp only [Act.put, sq1, sq2, sq3]
   refine tH 10 ?qr rfl rfl ?qs ?qt
   case qs => intro w hSw; (try dsimp only at hSw); go_simp; try with_reducible rfl
   try simp only [Act.put, sq1, sq2, sq3]
   refine oH 11 rfl (fun K hK => ?_)
   go_simp
   try go_wp2_with fail
   refine hK.out _ _ ?qu ?qv
   case qu => (try dsimp only); first | exact s4' | exact s2 | exact s6 | exact s8o
   clear hK K hHeld
   intro hHeld
   try simp only [Act.put, sq1, sq2, sq3]
   refine eH ?_
   refine NoPanic.normal ?_
   go_wp2_with fail
   rw [HW4.out]
   refine wp_region_noPanic ?_
   refine wp_region_held_drew (S := (fun X => X.cell? ⟨pk, 1, none⟩ = some (.map (some mb)) ∧ (X.cell? ⟨W.heap.size, 0, none⟩ = some (.string k.nm) ∧ X.cell? ⟨W.heap.size, 1, none⟩ = some (.string k.sup) ∧ X.cell? ⟨W.heap.size, 2, none⟩ = some (.slice o1 k.pool.length c1) ∧ X.cell? ⟨W.heap.size, 3, none⟩ = some (.slice o2 k.fs.length c2) ∧ X.cell? ⟨W.heap.size, 4, none⟩ = some (.slice o3 k.ms.length c3)))) (by kernel_rfl) ?_ (fun hHeld => ?_)
   · (try dsimp only); first | exact HS2.out | exact HS3.out | exact HS4.out
   refine tH 0 ?qw rfl rfl ?qx ?qy
   case qx => intro w hSw; (try dsimp only at hSw); go_simp; try with_reducible rfl
   try simp only [Act.put, sq1, sq2, sq3]
   refine tH 1 ?qz rfl rfl ?qA ?qB
   case qA => intro w hSw; (try dsimp only at hSw); go_simp; try with_reducible rfl
   try simp only [Act.put, sq1, sq2, sq3]
   refine tH 2 ?qC rfl rfl ?qD ?qE
   case qD => intro w hSw; (try dsimp only at hSw); go_simp; try with_reducible rfl
   try simp only [Act.put, sq1, sq2, sq3]
   refine tH 3 ?qF rfl rfl ?qG ?qH
   case qG => intro w hSw; (try dsimp only at hSw); go_simp; try with_reducible rfl
   try simp only [Act.put, sq1, sq2, sq3]
   refine tH 4 ?qI rfl rfl ?qJ ?qK
   case qJ => intro w hSw; (try dsimp only at hSw); go_simp; try with_reducible rfl
   try simp only [Act.put, sq1, sq2, sq3]
   refine tH 5 ?qL rfl rfl ?qM ?qN
   case qM => intro w hSw; (try dsimp only at hSw); go_simp; try with_reducible rfl
   try simp only [Act.put, sq1, sq2, sq3]
   refine tH 6 ?qO rfl rfl ?qP ?qQ
   case qP => intro w hSw; (try dsimp only at hSw); go_simp; try with_reducible rfl
   try simp only [Act.put, sq1, sq2, sq3]
   refine tH 7 ?qR rfl rfl ?qS ?qT
   case qS => intro w hSw; (try dsimp only at hSw); go_simp; try with_reducible rfl
   try simp only [Act.put, sq1, sq2, sq3]
   refine tH 8 ?qU rfl rfl ?qV ?qW
   case qV => intro w hSw; (try dsimp only at hSw); go_simp; try with_reducible rfl
   try simp only [Act.put, sq1, sq2, sq3]
   refine tH 9 ?qX rfl rfl ?qY ?qZ
   case qY => intro w hSw; (try dsimp only at hSw); go_simp; try with_reducible rfl
   try simp only [Act.put, sq1, sq2, sq3]
   refine tH 10 ?j0 rfl rfl ?j1 ?j2
   case j1 => intro w hSw; (try dsimp only at hSw); go_simp; try with_reducible rfl
   try simp only [Act.put, sq1, sq2, sq3]
   refine tH 11 ?j3 rfl rfl ?j4 ?j5
   case j4 => intro w hSw; (try dsimp only at hSw); go_simp; try with_reducible rfl
   try simp only [Act.put, sq1, sq2, sq3]
   refine tH 12 ?j6 rfl rfl ?j7 ?j8
   case j7 => intro w hSw; (try dsimp only at hSw); go_simp; try with_reducible rfl
   try simp only [Act.put, sq1, sq2, sq3]
   refine oH 13 rfl (fun K hK => ?_)
   go_simp
   try go_wp2_with fail
   refine hK.out _ _ ?j9 ?ja
   case j9 => (try dsimp only); first | exact HS2.out | exact HS3.out | exact HS4.out
   clear hK K hHeld
   intro hHeld
   try simp only [Act.put, sq1, sq2, sq3]
   refine tH 14 (.agg #[.string k.nm, .string k.sup, .slice o1 k.pool.length c1, .slice o2 k.fs.length c2, .slice o3 k.ms.length c3, .pointer q]) rfl rfl ?jb ?jc
   case jb => intro w hSw; (try dsimp only at hSw); go_simp; try with_reducible rfl
   try simp only [Act.put, sq1, sq2, sq3]
   refine oH 15 rfl (fun K hK => ?_)
   go_simp
   try go_wp2_with fail
   refine hK.out _ _ ?jd ?je
   case jd => (try dsimp only); first | exact HS2.out | exact HS3.out | exact HS4.out
   clear hK K hHeld
   intro hHeld
   try simp only [Act.put, sq1, sq2, sq3]
   refine oH 16 rfl (fun K hK => ?_)
   go_simp
   try go_wp2_with fail
   refine hK.out _ _ ?jf ?jg
   case jf => (try dsimp only); first | exact HS2.out | exact HS3.out | exact HS4.out
   clear hK K hHeld
   intro hHeld
   try simp only [Act.put, sq1, sq2, sq3]
   refine eH ?_
   refine NoPanic.normal ?_
   go_end0
   exact ⟨⟨_, rfl⟩, FIN.out⟩
 · have hdum := True.intro
   go_simp
   try go_wp2_with fail
   refine hK.out _ _ ?jh ?ji
   case jh => (try dsimp only); first | exact s4' | exact s2 | exact s6 | exact s8o
   clear hK K hHeld
   intro hHeld
   try simp only [Act.put, sq1, sq2, sq3]
   refine oH 4 rfl (fun K hK => ?_)
   go_simp
   try go_wp2_with fail
   refine hK.out _ _ ?jj ?jk
   case jj => (try dsimp only); first | exact s4' | exact s2 | exact s6 | exact s8o
   clear hK K hHeld
   intro hHeld
   try simp only [Act.put, sq1, sq2, sq3]
   refine oH 8 rfl (fun K hK => ?_)
   refine zBr (v := v) (vb := .slice (some ⟨W1.heap.size, 0, none⟩) 1 1) rfl rfl rfl rfl HR.out ?_
   refine hK.out _ _ ?jl ?jm
   case jl => (try dsimp only); first | exact s4' | exact s2 | exact s6 | exact s8o
   clear hK K hHeld
   intro hHeld
   try simp only [Act.put, sq1, sq2, sq3]
   refine tH 9 ?jn rfl rfl ?jo ?jp
   case jo => intro w hSw; (try dsimp only at hSw); go_simp; try with_reducible rfl
   try simp only [Act.put, sq1, sq2, sq3]
   refine tH 10 ?jq rfl rfl ?jr ?js
   case jr => intro w hSw; (try dsimp only at hSw); go_simp; try with_reducible rfl
   try simp only [Act.put, sq1, sq2, sq3]
   refine oH 11 rfl (fun K hK => ?_)
   go_simp
   try go_wp2_with fail
   refine hK.out _ _ ?jt ?ju
   case jt => (try dsimp only); first | exact s4' | exact s2 | exact s6 | exact s8o
   clear hK K hHeld
   intro hHeld
   try simp only [Act.put, sq1, sq2, sq3]
   refine eH ?_
   refine NoPanic.normal ?_
   go_wp2_with fail
   rw [HW4.out]
   refine wp_region_noPanic ?_
   refine wp_region_held_drew (S := (fun X => X.cell? ⟨pk, 1, none⟩ = some (.map (some mb)) ∧ (X.cell? ⟨W.heap.size, 0, none⟩ = some (.string k.nm) ∧ X.cell? ⟨W.heap.size, 1, none⟩ = some (.string k.sup) ∧ X.cell? ⟨W.heap.size, 2, none⟩ = some (.slice o1 k.pool.length c1) ∧ X.cell? ⟨W.heap.size, 3, none⟩ = some (.slice o2 k.fs.length c2) ∧ X.cell? ⟨W.heap.size, 4, none⟩ = some (.slice o3 k.ms.length c3)))) (by kernel_rfl) ?_ (fun hHeld => ?_)
   · (try dsimp only); first | exact HS2.out | exact HS3.out | exact HS4.out
   refine tH 0 ?jv rfl rfl ?jw ?jx
   case jw => intro w hSw; (try dsimp only at hSw); go_simp; try with_reducible rfl
   try simp only [Act.put, sq1, sq2, sq3]
   refine tH 1 ?jy rfl rfl ?jz ?jA
   case jz => intro w hSw; (try dsimp only at hSw); go_simp; try with_reducible rfl
   try simp only [Act.put, sq1, sq2, sq3]
   refine tH 2 ?jB rfl rfl ?jC ?jD
   case jC => intro w hSw; (try dsimp only at hSw); go_simp; try with_reducible rfl
   try simp only [Act.put, sq1, sq2, sq3]
   refine tH 3 ?jE rfl rfl ?jF ?jG
   case jF => intro w hSw; (try dsimp only at hSw); go_simp; try with_reducible rfl
   try simp only [Act.put, sq1, sq2, sq3]
   refine tH 4 ?jH rfl rfl ?jI ?jJ
   case jI => intro w hSw; (try dsimp only at hSw); go_simp; try with_reducible rfl
   try simp only [Act.put, sq1, sq2, sq3]
   refine tH 5 ?jK rfl rfl ?jL ?jM
   case jL => intro w hSw; (try dsimp only at hSw); go_simp; try with_reducible rfl
   try simp only [Act.put, sq1, sq2, sq3]
   refine tH 6 ?jN rfl rfl ?jO ?jP
   case jO => intro w hSw; (try dsimp only at hSw); go_simp; try with_reducible rfl
   try simp only [Act.put, sq1, sq2, sq3]
   refine tH 7 ?jQ rfl rfl ?jR ?jS
   case jR => intro w hSw; (try dsimp only at hSw); go_simp; try with_reducible rfl
   try simp only [Act.put, sq1, sq2, sq3]
   refine tH 8 ?jT rfl rfl ?jU ?jV
   case jU => intro w hSw; (try dsimp only at hSw); go_simp; try with_reducible rfl
   try simp only [Act.put, sq1, sq2, sq3]
   refine tH 9 ?jW rfl rfl ?jX ?jY
   case jX => intro w hSw; (try dsimp only at hSw); go_simp; try with_reducible rfl
   try simp only [Act.put, sq1, sq2, sq3]
   refine tH 10 ?jZ rfl rfl ?k0 ?k4
   case k0 => intro w hSw; (try dsimp only at hSw); go_simp; try with_reducible rfl
   try simp only [Act.put, sq1, sq2, sq3]
   refine tH 11 ?k5 rfl rfl ?k6 ?k7
   case k6 => intro w hSw; (try dsimp only at hSw); go_simp; try with_reducible rfl
   try simp only [Act.put, sq1, sq2, sq3]
   refine tH 12 ?k8 rfl rfl ?k9 ?ka
   case k9 => intro w hSw; (try dsimp only at hSw); go_simp; try with_reducible rfl
   try simp only [Act.put, sq1, sq2, sq3]
   refine oH 13 rfl (fun K hK => ?_)
   go_simp
   try go_wp2_with fail
   refine hK.out _ _ ?kb ?kc
   case kb => (try dsimp only); first | exact HS2.out | exact HS3.out | exact HS4.out
   clear hK K hHeld
   intro hHeld
   try simp only [Act.put, sq1, sq2, sq3]
   refine tH 14 (.agg #[.string k.nm, .string k.sup, .slice o1 k.pool.length c1, .slice o2 k.fs.length c2, .slice o3 k.ms.length c3, .pointer q]) rfl rfl ?kd ?ke
   case kd => intro w hSw; (try dsimp only at hSw); go_simp; try with_reducible rfl
   try simp only [Act.put, sq1, sq2, sq3]
   refine oH 15 rfl (fun K hK => ?_)
   go_simp
   try go_wp2_with fail
   refine hK.out _ _ ?kf ?kg
   case kf => (try dsimp only); first | exact HS2.out | exact HS3.out | exact HS4.out
   clear hK K hHeld
   intro hHeld
   try simp only [Act.put, sq1, sq2, sq3]
   refine oH 16 rfl (fun K hK => ?_)
   go_simp
   try go_wp2_with fail
   refine hK.out _ _ ?kh ?ki
   case kh => (try dsimp only); first | exact HS2.out | exact HS3.out | exact HS4.out
   clear hK K hHeld
   intro hHeld
   try simp only [Act.put, sq1, sq2, sq3]
   refine eH ?_
   refine NoPanic.normal ?_
   go_end0
   exact ⟨⟨_, rfl⟩, FIN.out⟩
theorem zQf (n0 : Nat) (W : World) (pk mb : Nat) (v : Value) (R : List Mem) (h : KinO n0 W pk mb v R) (k : KD) (cv : Value) (hc : zAp (seen (offK pk mb v) W) cv k) (hnew : zB7 R k.nm = none) (hR : R.length ≤ 1000) :
 Calls Tryz.prog 53 #[.pointer (some ⟨pk, 0, none⟩), cv] W fun e w' => (∃ u, e = .returned u) ∧ ∃ v' b, KinO n0 w' pk mb v' (⟨k, b⟩ :: R) ∧ zFm pk mb v W w' ∧ (∀ g, v'.ownBlock = some g → v.ownBlock = some g ∨ W.heap.size ≤ g) := by
 refine (zJz n0 W pk mb v R h k cv (fun _ => true) (fun _ _ => rfl) (zAp.ext' (zAl (Nat.le_refl _) (fun b _ hb => ⟨zCd.2 ⟨hb, rfl⟩, rfl⟩)) hc) hnew hR).mono ?_
 rintro e w' ⟨hu, v', b, hk, hs, ho, _⟩
 exact ⟨hu, v', b, hk, hs, ho⟩
end Go.Proofs.YtpehimfnkmepnaaGreat.K
