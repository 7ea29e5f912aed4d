import Derived.Test.YtpehimfnkmepnaaGreatBx38
set_option maxRecDepth 8000
set_option maxHeartbeats 40000000
namespace Go.Proofs.YtpehimfnkmepnaaGreat.M
open Go.RowKit
theorem Tryz.info39x : (Tryz.prog.info? 39).map (fun i => (i.zero, i.size, i.bytes)) = some (some (.agg #[.string ⟨#[]⟩, .string ⟨#[]⟩, .bool false, .bool false, .int .i64 0, .int .i64 0, .slice none 0 0, .slice none 0 0, .slice none 0 0]), 9, 128) := by kernel_rfl
theorem zC1 {w : World} {ops : Array Oper} {rest : List Oper} {o : Oper} {a : Act} {Q : Exit → Act → World → Prop} (hgd : o.guard = none) (s x : Operand)
 (ho : o.op = .call { callee := .builtin .append, args := #[s, x], argTypes := #[29, 29] })
 (B : Nat) (v : Value) (n : Nat) (xs ys : List Value) (b m : Nat) (hs : a.eval s = v) (hx : a.eval x = .slice (some ⟨b, 0, none⟩) m m) (hown : w.ownsRow B 39 9 v n xs) (hg : w.heap[b]? = some (.cells ys.toArray 39 (0, 0)))
 (hy : ys.length = m * 9) (hone : ∀ u ∈ ys, u.oneCell' = true) (hm0 : 0 < m) (hm : m ≤ 10) (hlen : n ≤ 1000000) (hB : B ≤ w.heap.size)
 (h : ∀ v' w', w'.ownsRow B 39 9 v' (n + m) (xs ++ ys) → w.grownBy w' v.ownBlock → wpList Tryz.prog ops Q rest (a.put o.dst v') w') :
 wpList Tryz.prog ops Q (o :: rest) a w := by
 obtain ⟨i0, hi, hz0, hz1, hz2⟩ := info_parts Tryz.info39x
 refine wpList_plain hgd fun K hK => ?_
 obtain ⟨v', w', hr, h2, h3, _, h4⟩ := run_append_own_at (P := Tryz.prog) w B 29 o.type 39 i0 _ 9 128 Tryz.underlying29 hi hz0 hz1 hz2 rfl (by decide) v n xs hown ⟨b, 0, none⟩ m m ys hy
  (fun j u hj => by
   have e : (⟨b, 0, none⟩ : Addr).add j = ⟨b, j, none⟩ := by unfold Addr.add; split <;> simp_all
   rw [e]
   exact zA1 hg j (by simpa using hj)) hone (by unfold maxLen; omega) (by omega) (by omega)
 unfold Oper.wp execOp
 simp only [ho, resolve, invoke, builtin, Sem.run_bind, Sem.run_pure, Result.andThen_ok, List.map_toArray, List.map_cons, List.map_nil, hs, hx, hr]
 exact hK _ _ (h v' w' h2 h3)
theorem Kq.same {pr : Nat} {w w' : World} (h : Kq w.heap.size pr w w') {cs : Array Value} (hp : w.heap[pr]? = some (.cells cs 104 (0, 0))) {T : TypeId} (hT : T ≠ 104) : Same T w w' := fun g cur hg => by
 rw [h.block g (Array.getElem?_eq_some_iff.1 hg).1 (zBn hg hp hT)]; exact hg
theorem zCf.same {pr : Nat} {w w' : World} (hr : zCf pr w) (h : Kq w.heap.size pr w w') {T : TypeId} (hT : T ≠ 104) : Same T w w' := by
 obtain ⟨_, _, _, h1, _⟩ := hr
 exact h.same h1 hT
theorem zCf.lt {pr : Nat} {w : World} (hr : zCf pr w) : pr < w.heap.size := by
 obtain ⟨_, _, _, h1, _⟩ := hr
 exact (Array.getElem?_eq_some_iff.1 h1).1
theorem zCf.below {pr : Nat} {w w' : World} (hr : zCf pr w) (h : Below w.heap.size w w') : zCf pr w' := by
 obtain ⟨vr, rl, at_, h1, h2, h3⟩ := hr
 exact ⟨vr, rl, at_, (h.block pr (Array.getElem?_eq_some_iff.1 h1).1).trans h1, (h2.kq (Kq.of_below h (Nat.le_refl _))).mono h.size, h3⟩
theorem zCf.other {pr k o : Nat} {w : World} {u : Value} (hr : zCf pr w) (hk : pr < k) : zCf pr (w.setCell ⟨k, o, none⟩ u) := by
 obtain ⟨vr, rl, at_, h1, h2, h3⟩ := hr
 have hK : Kq k pr w (w.setCell ⟨k, o, none⟩ u) := (Kq.refl k pr w).set (.inl (Nat.le_refl _))
 refine ⟨vr, rl, at_, (Below.heap_setCell _ _ _ _ (by show pr ≠ k; omega)).trans h1, ?_, h3⟩
 obtain ⟨ao', cap', e1, hc, hm, hx, hl⟩ := h2
 refine ⟨ao', cap', e1, hc, hm, hx, ?_⟩
 rcases hl with h | ⟨g, off, e2, hg, hp, hl⟩
 · exact .inl h
 · exact .inr ⟨g, off, e2, by simpa using hg, hp, fun j x hj => (World.cell?_of_block (a := ⟨g, off + j, none⟩) (hK.block g (by omega) (Nat.ne_of_lt hp))).trans (hl j x hj)⟩
theorem zCf.row {pr k : Nat} {w : World} {cs : Array Value} (hr : zCf pr w) (hk : pr < k) : zCf pr (w.setRow k cs) := by
 obtain ⟨vr, rl, at_, h1, h2, h3⟩ := hr
 refine ⟨vr, rl, at_, (setRow_other _ _ _ _ (by omega)).trans h1, ?_, h3⟩
 obtain ⟨ao', cap', e1, hc, hm, hx, hl⟩ := h2
 refine ⟨ao', cap', e1, hc, hm, hx, ?_⟩
 rcases hl with h | ⟨g, off, e2, hg, hp, hl⟩
 · exact .inl h
 · exact .inr ⟨g, off, e2, by simpa [World.setRow] using hg, hp, fun j x hj => (World.cell?_of_block (a := ⟨g, off + j, none⟩) (setRow_other _ _ _ _ (by show g ≠ k; omega))).trans (hl j x hj)⟩
theorem zGn.parts {k : BK} {pool : List CD} {pr : Nat} {w w' : World} {e : Ending} (h : zGn k pool pr w e w') : ∃ σ ac nc capc ah nh caph af nf capf aop capp, zDg k pool σ ∧ e = .returned (.tuple #[.agg #[.string k.nm, .string k.ds, .bool k.st, .bool false, .int .i64 16, .int .i64 ((zBj k.pl).length : Nat), .slice ac nc capc, .slice ah nh caph, .slice af nf capf], .slice aop σ.pool.length capp]) ∧ zCf pr w' ∧ Kq w.heap.size pr w w' ∧
 (w'.ownsRow 0 112 5 (.slice aop σ.pool.length capp) σ.pool.length (zAu σ.pool) ∧ ∀ x ∈ σ.pool, P3.CD.Ok x) ∧ zI1 w' w.heap.size k σ #[.string k.nm, .string k.ds, .bool k.st, .bool false, .int .i64 16, .int .i64 ((zBj k.pl).length : Nat), .slice ac nc capc, .slice ah nh caph, .slice af nf capf] := by
 obtain ⟨σ, row, vp, hb, he, hr, hk, hp, hok, hl⟩ := h
 obtain ⟨aop, capp, rfl⟩ := zA4 hp
 have hl' := hl
 obtain ⟨vc, vh, vf, fs, rfl, h1, h2, h3, h4⟩ := hl
 obtain ⟨ac, capc, rfl⟩ := zA4 h1
 obtain ⟨ah, caph, rfl⟩ := zA4 h2
 obtain ⟨af, capf, rfl⟩ := zA4 h3
 exact ⟨σ, ac, _, capc, ah, _, caph, af, _, capf, aop, capp, hb, he, hr, hk, ⟨hp, hok⟩, hl'⟩
def zRh (f : ByteArray × ByteArray × Bool) : List Value := [.string f.1, .string f.2.1, .bool f.2.2]
def FLies (w : World) (v : Value) (fs : List (ByteArray × ByteArray × Bool)) : Prop := (fs = [] ∧ v = .slice none 0 0) ∨ ∃ g, v = .slice (some ⟨g, 0, none⟩) fs.length fs.length ∧ w.heap[g]? = some (.cells (fs.flatMap zRh).toArray 44 (0, 0))
def zBz (w : World) (b : Nat) (c : Array Value) (nm sup : ByteArray) (fs : List (ByteArray × ByteArray × Bool)) (pool : List CD) (ms : List (BK × SG)) : Prop :=
 ∃ vp vf vm, c = #[.string nm, .string sup, vp, vf, vm] ∧ (w.ownsRow 0 112 5 vp pool.length (zAu pool) ∧ ∀ x ∈ pool, P3.CD.Ok x) ∧ FLies w vf fs ∧ ∃ rows : List (Array Value), rows.length = ms.length ∧ w.ownsRow b 39 9 vm ms.length (rows.flatMap Array.toList) ∧ ∀ (j : Nat) m r, ms[j]? = some m → rows[j]? = some r → zI1 w 0 m.1 m.2 r
structure zQt (σa : SG) (ob : Option SG) (σt σm σc : SG) : Prop where
 a : zDg .go [] σa
 b : ∀ σ, ob = some σ → zDg .go [] σ
 t : zDg .run [] σt
 m : zDg .main [] σm
 c : zDg .calc σm.pool σc
def zSh : List (ByteArray × ByteArray × Bool) := [(sx, sI, false), (zVz, sLA, false), (⟨#[115]⟩, sI, true), (sr, sLA, true)]
def zN3 : List (ByteArray × ByteArray × Bool) := [(⟨#[121]⟩, sI, false), (⟨#[111, 116, 104, 101, 114]⟩, sLA, false)]
def zSa : Option SG → List CD
 | none => []
 | some σ => σ.pool
def methB : Option SG → List (BK × SG)
 | none => []
 | some σ => [(.go, σ)]
def zGs (w : World) (e : Ending) (w' : World) : Prop := ∃ (g : Nat) (cA cB cT cC : Array Value) (σa : SG) (ob : Option SG) (σt σm σc : SG), zQt σa ob σt σm σc ∧ e = .returned (.slice (some ⟨g, 0, none⟩) 4 4) ∧ w.heap.size ≤ g ∧ w'.heap[g]? = some (.cells (cA ++ cB ++ cT ++ cC) 31 (0, 0)) ∧ Below w.heap.size w w' ∧
 zBz w' w.heap.size cA sA sObj zSh σa.pool [(.go, σa)] ∧ zBz w' w.heap.size cB sB sA zN3 (zSa ob) (methB ob) ∧ zBz w' w.heap.size cT sT zNi [] σt.pool [(.run, σt)] ∧ zBz w' w.heap.size cC sMain sObj [] σc.pool [(.main, σm), (.calc, σc)]
end Go.Proofs.YtpehimfnkmepnaaGreat.M
