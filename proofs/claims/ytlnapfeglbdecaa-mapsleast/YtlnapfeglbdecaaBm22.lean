/- Texts MCa. -/
import Derived.Test.YtlnapfeglbdecaaBm21
namespace Go.Proofs.Ytlnapfeglbdecaa.M
open Go.RowKit

theorem Try.info38x : (Try.prog.info? 38).map (fun i => (i.zero, i.size, i.bytes)) = some (some (.agg #[.string ⟨#[]⟩, .string ⟨#[]⟩, .bool false, .bool false, .int .i64 0, .int .i64 0, .slice none 0 0, .slice none 0 0, .slice none 0 0]), 9, 128) := by kernel_rfl
theorem wpList_mappend {w : World} {ops : Array Oper} {rest : List Oper} {o : Oper} {a : Act} {Q : Exit → Act → World → Prop} (hgd : o.guard = none) (s x : Operand)
    (ho : o.op = .call { callee := .builtin .append, args := #[s, x], argTypes := #[41, 41] })
    (B : Nat) (v : Value) (n : Nat) (xs ys : List Value) (b m : Nat) (hs : a.eval s = v) (hx : a.eval x = .slice (some ⟨b, 0, none⟩) m m) (hown : w.ownsRow B 38 9 v n xs) (hg : w.heap[b]? = some (.cells ys.toArray 38 (0, 0)))
    (hy : ys.length = m * 9) (hone : ∀ u ∈ ys, u.oneCell' = true) (hm0 : 0 < m) (hm : m ≤ 10) (hlen : n ≤ 1000000) (hB : B ≤ w.heap.size)
    (h : ∀ v' w', w'.ownsRow B 38 9 v' (n + m) (xs ++ ys) → w.grownBy w' v.ownBlock → wpList Try.prog ops Q rest (a.put o.dst v') w') :
    wpList Try.prog ops Q (o :: rest) a w := by
  obtain ⟨i0, hi, hz0, hz1, hz2⟩ := info_parts Try.info38x
  refine wpList_plain hgd fun K hK => ?_
  obtain ⟨v', w', hr, h2, h3, _, h4⟩ := run_append_own_at (P := Try.prog) w B 41 o.type 38 i0 _ 9 128 Try.underlying41 hi hz0 hz1 hz2 rfl (by decide) v n xs hown ⟨b, 0, none⟩ m m ys hy
    (fun j u hj => by
      have e : (⟨b, 0, none⟩ : Addr).add j = ⟨b, j, none⟩ := by unfold Addr.add; split <;> simp_all
      rw [e]
      exact cell_row hg j (by simpa using hj)) hone (by unfold maxLen; omega) (by omega) (by omega)
  unfold Oper.wp execOp
  simp only [ho, resolve, invoke, builtin, Sem.run_bind, Sem.run_pure, Result.andThen_ok, List.map_toArray, List.map_cons, List.map_nil, hs, hx, hr]
  exact hK _ _ (h v' w' h2 h3)
theorem Kq.same {pr : Nat} {w w' : World} (h : Kq w.heap.size pr w w') {cs : Array Value} (hp : w.heap[pr]? = some (.cells cs 60 (0, 0))) {T : TypeId} (hT : T ≠ 60) : Same T w w' := fun g cur hg => by
  rw [h.block g (Array.getElem?_eq_some_iff.1 hg).1 (other_block hg hp hT)]; exact hg
theorem RecIs.same {pr : Nat} {w w' : World} (hr : RecIs pr w) (h : Kq w.heap.size pr w w') {T : TypeId} (hT : T ≠ 60) : Same T w w' := by
  obtain ⟨_, _, _, h1, _⟩ := hr
  exact h.same h1 hT
theorem RecIs.lt {pr : Nat} {w : World} (hr : RecIs pr w) : pr < w.heap.size := by
  obtain ⟨_, _, _, h1, _⟩ := hr
  exact (Array.getElem?_eq_some_iff.1 h1).1
theorem RecIs.below {pr : Nat} {w w' : World} (hr : RecIs pr w) (h : Below w.heap.size w w') : RecIs pr w' := by
  obtain ⟨vr, rl, at_, h1, h2, h3⟩ := hr
  exact ⟨vr, rl, at_, (h.block pr (Array.getElem?_eq_some_iff.1 h1).1).trans h1, (h2.kq (Kq.of_below h (Nat.le_refl _))).mono h.size, h3⟩
theorem RecIs.other {pr k o : Nat} {w : World} {u : Value} (hr : RecIs pr w) (hk : pr < k) : RecIs pr (w.setCell ⟨k, o, none⟩ u) := by
  obtain ⟨vr, rl, at_, h1, h2, h3⟩ := hr
  have hK : Kq k pr w (w.setCell ⟨k, o, none⟩ u) := (Kq.refl k pr w).set (.inl (Nat.le_refl _))
  refine ⟨vr, rl, at_, (Below.heap_setCell _ _ _ _ (by show pr ≠ k; omega)).trans h1, ?_, h3⟩
  obtain ⟨ao', cap', e1, hc, hm, hx, hl⟩ := h2
  refine ⟨ao', cap', e1, hc, hm, hx, ?_⟩
  rcases hl with h | ⟨g, off, e2, hg, hp, hl⟩
  · exact .inl h
  · exact .inr ⟨g, off, e2, by simpa using hg, hp, fun j x hj => (World.cell?_of_block (a := ⟨g, off + j, none⟩) (hK.block g (by omega) (Nat.ne_of_lt hp))).trans (hl j x hj)⟩
theorem RecIs.row {pr k : Nat} {w : World} {cs : Array Value} (hr : RecIs pr w) (hk : pr < k) : RecIs pr (w.setRow k cs) := by
  obtain ⟨vr, rl, at_, h1, h2, h3⟩ := hr
  refine ⟨vr, rl, at_, (setRow_other _ _ _ _ (by omega)).trans h1, ?_, h3⟩
  obtain ⟨ao', cap', e1, hc, hm, hx, hl⟩ := h2
  refine ⟨ao', cap', e1, hc, hm, hx, ?_⟩
  rcases hl with h | ⟨g, off, e2, hg, hp, hl⟩
  · exact .inl h
  · exact .inr ⟨g, off, e2, by simpa [World.setRow] using hg, hp, fun j x hj => (World.cell?_of_block (a := ⟨g, off + j, none⟩) (setRow_other _ _ _ _ (by show g ≠ k; omega))).trans (hl j x hj)⟩
theorem BodyQ.parts {k : BK} {pool : List CD} {pr : Nat} {w w' : World} {e : Ending} (h : BodyQ k pool pr w e w') : ∃ σ ac nc capc ah nh caph af nf capf aop capp, BodyIs k pool σ ∧ e = .returned (.tuple #[.agg #[.string k.nm, .string k.ds, .bool k.st, .bool false, .int .i64 16, .int .i64 ((kinds k.pl).length : Nat), .slice ac nc capc, .slice ah nh caph, .slice af nf capf], .slice aop σ.pool.length capp]) ∧ RecIs pr w' ∧ Kq w.heap.size pr w w' ∧
    (w'.ownsRow 0 99 5 (.slice aop σ.pool.length capp) σ.pool.length (ccells σ.pool) ∧ ∀ x ∈ σ.pool, P3.CD.Ok x) ∧ MLies w' w.heap.size k σ #[.string k.nm, .string k.ds, .bool k.st, .bool false, .int .i64 16, .int .i64 ((kinds k.pl).length : Nat), .slice ac nc capc, .slice ah nh caph, .slice af nf capf] := by
  obtain ⟨σ, row, vp, hb, he, hr, hk, hp, hok, hl⟩ := h
  obtain ⟨aop, capp, rfl⟩ := own_slice hp
  have hl' := hl
  obtain ⟨vc, vh, vf, fs, rfl, h1, h2, h3, h4⟩ := hl
  obtain ⟨ac, capc, rfl⟩ := own_slice h1
  obtain ⟨ah, caph, rfl⟩ := own_slice h2
  obtain ⟨af, capf, rfl⟩ := own_slice h3
  exact ⟨σ, ac, _, capc, ah, _, caph, af, _, capf, aop, capp, hb, he, hr, hk, ⟨hp, hok⟩, hl'⟩
def fcell (f : ByteArray × ByteArray × Bool) : List Value := [.string f.1, .string f.2.1, .bool f.2.2]
def FLies (w : World) (v : Value) (fs : List (ByteArray × ByteArray × Bool)) : Prop := (fs = [] ∧ v = .slice none 0 0) ∨ ∃ g, v = .slice (some ⟨g, 0, none⟩) fs.length fs.length ∧ w.heap[g]? = some (.cells (fs.flatMap fcell).toArray 62 (0, 0))
def CLies (w : World) (b : Nat) (c : Array Value) (nm sup : ByteArray) (fs : List (ByteArray × ByteArray × Bool)) (pool : List CD) (ms : List (BK × SG)) (b0 : Nat := 0) : Prop :=
  ∃ vp vf vm, c = #[.string nm, .string sup, vp, vf, vm] ∧ (w.ownsRow 0 99 5 vp pool.length (ccells pool) ∧ ∀ x ∈ pool, P3.CD.Ok x) ∧ FLies w vf fs ∧ ∃ rows : List (Array Value), rows.length = ms.length ∧ w.ownsRow b 38 9 vm ms.length (rows.flatMap Array.toList) ∧ ∀ (j : Nat) m r, ms[j]? = some m → rows[j]? = some r → MLies w b0 m.1 m.2 r
structure ClassesIs (σa : SG) (ob : Option SG) (σt σm σc : SG) : Prop where
  a : BodyIs .go [] σa
  b : ∀ σ, ob = some σ → BodyIs .go [] σ
  t : BodyIs .run [] σt
  m : BodyIs .main [] σm
  c : BodyIs .calc σm.pool σc
def fieldsA : List (ByteArray × ByteArray × Bool) := [(sx, sI, false), (sNext, sLA, false), (⟨#[115]⟩, sI, true), (sr, sLA, true)]
def fieldsB : List (ByteArray × ByteArray × Bool) := [(⟨#[121]⟩, sI, false), (⟨#[111, 116, 104, 101, 114]⟩, sLA, false)]
def poolB : Option SG → List CD
  | none => []
  | some σ => σ.pool
def methB : Option SG → List (BK × SG)
  | none => []
  | some σ => [(.go, σ)]
def ClassesQ (w : World) (e : Ending) (w' : World) : Prop := ∃ (g : Nat) (cA cB cT cC : Array Value) (σa : SG) (ob : Option SG) (σt σm σc : SG), ClassesIs σa ob σt σm σc ∧ e = .returned (.slice (some ⟨g, 0, none⟩) 4 4) ∧ w.heap.size ≤ g ∧ w'.heap[g]? = some (.cells (cA ++ cB ++ cT ++ cC) 43 (0, 0)) ∧ Below w.heap.size w w' ∧
  CLies w' w.heap.size cA sA sObj fieldsA σa.pool [(.go, σa)] ∧ CLies w' w.heap.size cB sB sA fieldsB (poolB ob) (methB ob) ∧ CLies w' w.heap.size cT sT sThread [] σt.pool [(.run, σt)] ∧ CLies w' w.heap.size cC sMain sObj [] σc.pool [(.main, σm), (.calc, σc)]
def ClassesG (w : World) (e : Ending) (w' : World) : Prop := ∃ (g : Nat) (cA cB cT cC : Array Value) (σa : SG) (ob : Option SG) (σt σm σc : SG), ClassesIs σa ob σt σm σc ∧ e = .returned (.slice (some ⟨g, 0, none⟩) 4 4) ∧ w.heap.size ≤ g ∧ w'.heap[g]? = some (.cells (cA ++ cB ++ cT ++ cC) 43 (0, 0)) ∧ Below w.heap.size w w' ∧
  CLies w' w.heap.size cA sA sObj fieldsA σa.pool [(.go, σa)] w.heap.size ∧ CLies w' w.heap.size cB sB sA fieldsB (poolB ob) (methB ob) ∧ CLies w' w.heap.size cT sT sThread [] σt.pool [(.run, σt)] ∧ CLies w' w.heap.size cC sMain sObj [] σc.pool [(.main, σm), (.calc, σc)]
theorem CLies.any {w : World} {b b0 : Nat} {c : Array Value} {nm sup : ByteArray} {fs : List (ByteArray × ByteArray × Bool)} {pool : List CD} {ms : List (BK × SG)} (h : CLies w b c nm sup fs pool ms b0) : CLies w b c nm sup fs pool ms := by
  obtain ⟨vp, vf, vm, e, h1, h2, rows, h3, h4, h5⟩ := h
  exact ⟨vp, vf, vm, e, h1, h2, rows, h3, h4, fun j m r hm hr => (h5 j m r hm hr).wk (Nat.zero_le _)⟩
theorem ClassesG.q {w w' : World} {e : Ending} (h : ClassesG w e w') : ClassesQ w e w' := by
  obtain ⟨g, cA, cB, cT, cC, σa, ob, σt, σm, σc, h1, h2, h3, h4, h5, h6, h7⟩ := h
  exact ⟨g, cA, cB, cT, cC, σa, ob, σt, σm, σc, h1, h2, h3, h4, h5, h6.any, h7⟩
end Go.Proofs.Ytlnapfeglbdecaa.M
