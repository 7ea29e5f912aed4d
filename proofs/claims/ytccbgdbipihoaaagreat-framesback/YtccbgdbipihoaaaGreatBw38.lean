/- Texts FRf FRs. -/
import Derived.Test.YtccbgdbipihoaaaGreatBw37
import Derived.Deep.RegionHeld3
import Derived.Shelf.Spec.SlicesInsert
import Derived.Shelf.Spec.SlicesInsertGrow
import Derived.Test.YtccbgdbipihoaaaGreatProg
namespace Go.Proofs.YtccbgdbipihoaaaGreat.Fr
open Go.RowKit Q Q.D K

def FrB (v : Value) (M : Nat) : Prop := ∀ at' v1 v2, v = .agg #[at', v1, v2] → ∀ k, v1.ownBlock = some k ∨ v2.ownBlock = some k → k < M
theorem OwnF.b {w : World} {B : Nat} {v : Value} {f : RD} (h : OwnF w B v f) : FrB v w.heap.size := by
  obtain ⟨v1, v2, m, rfl, h1, h2, _⟩ := h
  intro at' u1 u2 e k hk
  cases e
  rcases hk with hk | hk
  · exact (h1.lt k hk).2
  · exact (h2.lt k hk).2
theorem results_row3 {fn : Func} {p t1 t2 : Tmp} {ty : TypeId} (h : fn.results = #[.cell p ty, .tmp t1, .tmp t2]) (tmps : Array Value) (w : World) (g : Nat) (t : TypeId) (cs : Array Value) (fr : Nat × Nat) (d : TypeDesc)
    (hp : tmps.getD p undef = .pointer (some ⟨g, 0, none⟩)) (hg : w.heap[g]? = some (.cells cs t fr))
    (hu : Tryz.prog.underlying ty = some d) (hd : (match d with | .struct _ | .array _ _ => true | _ => false) = true) (hi : (Tryz.prog.info? ty).map (·.size) = some cs.size) :
    (results fn tmps).run Tryz.prog w = .ok (.tuple #[.agg cs, tmps.getD t1 undef, tmps.getD t2 undef]) w := by
  have hp' : tmps[p]?.getD undef = .pointer (some ⟨g, 0, none⟩) := by simpa using hp
  have hL := run_loadVar_row (P := Tryz.prog) w g t ty cs fr d hg hu (by cases d <;> simp_all) hi
  simp [results, h, hp', asAddr, hL, Result.andThen]
theorem LAt.drop {w : World} {a : Addr} {c : Nat} {l : List ByteArray} (h : LAt 1 TextR w (some a) c l) (n : Nat) (hn : n < l.length) : LAt 1 TextR w (some (a.add n)) (c - n) (l.drop n) := by
  obtain ⟨h1, h2, rows, h3, h4⟩ := h
  refine ⟨by rw [List.length_drop]; omega, by omega, fun j => rows (n + j), fun _ => ?_, fun i x hx => ?_⟩
  · obtain ⟨b, off, e, hb, d⟩ := h3 (by omega)
    cases e
    refine ⟨b, off + n, by rw [Addr.add_lit], hb, fun j hj i u hu => ?_⟩
    rw [List.length_drop] at hj
    have := d (n + j) (by omega) i u hu
    rwa [show off + (n + j) * 1 + i = off + n + j * 1 + i by omega] at this
  · rw [List.getElem?_drop] at hx
    exact h4 _ _ hx
def PopQ (w : World) (f : RD) (k : Nat) (e : Ending) (w' : World) : Prop :=
  ∃ v vp M, e = .returned (.tuple #[v, vp, .int .i64 0]) ∧ OwnF w' w.heap.size v ⟨f.aT, f.loc, f.stk.take k⟩ ∧ FrB v M ∧ OwnT w' M vp (f.stk.drop k) ∧ w.heap.size ≤ M ∧ Below w.heap.size w w'
set_option maxRecDepth 8000 in
set_option maxHeartbeats 2000000 in
theorem pop_no (w : World) (v : Value) (f : RD) (h : FrV w v f) (n : Int) (hn : n < 0 ∨ (f.stk.length : Int) < n) :
    Calls Tryz.prog 20 #[v, .int .i64 n] w fun e w' => e = .returned (.tuple #[zeroF, .slice none 0 0, .int .i64 18]) ∧ Below w.heap.size w w' := by
  obtain ⟨o1, c1, o2, c2, rfl, k1, k2⟩ := h
  obtain ⟨aT, loc, stk⟩ := f
  simp only at *
  have B2 : Below w.heap.size w ((w.alloc (.cells #[.int .i64 aT, .slice o1 loc.length c1, .slice o2 stk.length c2] 25)).alloc (.cells #[.int .i64 0, .slice none 0 0, .slice none 0 0] 25)) := ((Below.refl _ w).alloc (Nat.le_refl _) _).alloc (by simp) _
  have Y2 := Blk.new (w.alloc (.cells #[.int .i64 aT, .slice o1 loc.length c1, .slice o2 stk.length c2] 25)) #[.int .i64 0, .slice none 0 0, .slice none 0 0] 25
  rw [World.size_alloc] at Y2
  clear k1 k2
  have hd : decide (n < 0) = true ∨ decide (n < 0) = false ∧ (n > (stk.length : Int)) := by
    by_cases h0 : n < 0
    · exact .inl (by simpa using h0)
    · exact .inr ⟨by simpa using h0, by omega⟩
  rcases hd with hd | ⟨hd, hge⟩
  · have hn0 : n < 0 := by simpa using hd
    go_enter Tryz.func20, Tryz.ntmps20
    go_wp2_with (refine wpList_store_row rfl 25 _ _ rfl (w.heap.size + 1) #[.int .i64 0, .slice none 0 0, .slice none 0 0] rfl rfl 25 _ Y2 (by kernel_rfl) rfl (by simp [Value.oneCell']) ?_)
    refine bodyPost_ret (results_row3 rfl _ _ (w.heap.size + 1) 25 _ (0, 0) _ rfl (setRow_heap _ _ _ _ _ _ Y2) Tryz.underlying25 rfl (by kernel_rfl)) rfl ?_
    exact ⟨rfl, below_setRow B2 (by omega) _⟩
  · have hn0 : ¬ n < 0 := by simpa using hd
    go_enter Tryz.func20, Tryz.ntmps20
    go_wp2_with (refine wpList_store_row rfl 25 _ _ rfl (w.heap.size + 1) #[.int .i64 0, .slice none 0 0, .slice none 0 0] rfl rfl 25 _ Y2 (by kernel_rfl) rfl (by simp [Value.oneCell']) ?_)
    refine bodyPost_ret (results_row3 rfl _ _ (w.heap.size + 1) 25 _ (0, 0) _ rfl (setRow_heap _ _ _ _ _ _ Y2) Tryz.underlying25 rfl (by kernel_rfl)) rfl ?_
    exact ⟨rfl, below_setRow B2 (by omega) _⟩
theorem lists_blk {W : World} {nb : Nat} {o : Option Addr} {c K : Nat} {l : List ByteArray} (hb : Blk W nb #[.slice o K c] 23) (hK : l.length = K) (h : LAt 1 TextR W o c l) : LAt 1 TextsR W (some ⟨nb, 0, none⟩) 1 [l] := by
  subst hK
  refine ⟨Nat.le_refl _, by unfold maxLen; omega, fun _ => [.slice o l.length c], fun _ => ⟨nb, 0, rfl, hb.lt, fun j hj i u hu => ?_⟩, fun i x hx => ?_⟩
  · simp at hj
    subst hj
    match i, hu with
    | 0, hu => cases hu; rw [hb.cell]; rfl
    | i + 1, hu => simp at hu
  · match i, hx with
    | 0, hx => cases hx; exact ⟨o, c, rfl, h⟩
    | i + 1, hx => simp at hx
theorem balloc2 {X W : World} (h : Below X.heap.size X W) (o : Obj) : Below X.heap.size X (W.alloc o) := h.alloc h.size _
theorem made_then {X : World} {aT : Int} {o1 o : Option Addr} {c1 c K : Nat} {loc l : List ByteArray} (h1 : LAt 1 TextR X o1 c1 loc) (hl : LAt 1 TextR X o c l) (hK : l.length = K) (n1 : loc.length ≤ 8796093022050) (n2 : l.length ≤ 8796093022050) (W : World) (nb : Nat) (hB : Below X.heap.size X W) (hb : Blk W nb #[.slice o K c] 23) :
    Calls Tryz.prog 61 #[.int .i64 aT, .slice o1 loc.length c1, .slice (some ⟨nb, 0, none⟩) 1 1] W fun e w1 => ∃ a1 p1 a2 p2 m, e = .returned (.agg #[.int .i64 aT, .slice a1 loc.length p1, .slice a2 K p2]) ∧ OwnT w1 X.heap.size (.slice a1 loc.length p1) loc ∧ OwnT w1 m (.slice a2 K p2) l ∧ X.heap.size ≤ m ∧ m ≤ w1.heap.size ∧ (∀ k, (Value.slice a1 loc.length p1).ownBlock = some k → k < m) ∧ Below X.heap.size X w1 ∧ Below W.heap.size W w1 := by
  refine (made_any W aT o1 c1 loc _ 1 [l] (h1.below hB (fun _ _ h => h)) (lists_blk hb hK (hl.below hB (fun _ _ h => h))) (by omega) (by simp; omega)).mono ?_
  rintro e w1 ⟨v, rfl, ⟨v1, v2, m, rfl, ow1, ow2, h3, h4, h5⟩, b⟩
  obtain ⟨a1, p1, rfl⟩ := own_slice ow1
  rw [show [l].flatten = l by simp] at ow2
  obtain ⟨a2, p2, rfl⟩ := own_slice ow2
  have hz := hB.size
  simp only at ow1 ow2 h5 ⊢
  subst hK
  exact ⟨a1, p1, a2, p2, m, rfl, ow1.mono hz, ow2, by omega, h4, h5, hB.trans (b.mono hz), b⟩
theorem concat_then {X : World} {o : Option Addr} {c K : Nat} {l : List ByteArray} (hl : LAt 1 TextR X o c l) (hK : l.length = K) (n2 : l.length ≤ 8796093022050) (W : World) (nb : Nat) (hB : Below X.heap.size X W) (hb : Blk W nb #[.slice o K c] 23) :
    Calls Tryz.prog 62 #[.slice (some ⟨nb, 0, none⟩) 1 1] W fun e w1 => ∃ a1 p1, e = .returned (.slice a1 K p1) ∧ OwnT w1 W.heap.size (.slice a1 K p1) l ∧ Below X.heap.size X w1 ∧ Below W.heap.size W w1 := by
  refine (concat_any W _ 1 [l] (lists_blk hb hK (hl.below hB (fun _ _ h => h))) (by simp; omega)).mono ?_
  rintro e w1 ⟨v, rfl, ow, b⟩
  rw [show [l].flatten = l by simp] at ow
  obtain ⟨a1, p1, rfl⟩ := own_slice ow
  subst hK
  exact ⟨a1, p1, rfl, ow, hB.trans (b.mono hB.size), b⟩
theorem S_set {W : World} {b : Nat} {u0 u1 u2 s0 s1 s2 : Value} (h : W.cell? ⟨b, 0, none⟩ = some u0 ∧ W.cell? ⟨b, 1, none⟩ = some u1 ∧ W.cell? ⟨b, 2, none⟩ = some u2) : (((W.setCell ⟨b + 1, 0, none⟩ s0).setCell ⟨b + 1, 1, none⟩ s1).setCell ⟨b + 1, 2, none⟩ s2).cell? ⟨b, 0, none⟩ = some u0 ∧ (((W.setCell ⟨b + 1, 0, none⟩ s0).setCell ⟨b + 1, 1, none⟩ s1).setCell ⟨b + 1, 2, none⟩ s2).cell? ⟨b, 1, none⟩ = some u1 ∧ (((W.setCell ⟨b + 1, 0, none⟩ s0).setCell ⟨b + 1, 1, none⟩ s1).setCell ⟨b + 1, 2, none⟩ s2).cell? ⟨b, 2, none⟩ = some u2 := by
  have hn : ∀ (V : World) (o j : Nat) (s : Value), (V.setCell ⟨b + 1, o, none⟩ s).cell? ⟨b, j, none⟩ = V.cell? ⟨b, j, none⟩ := fun V o j s => by
    simp only [World.cell?]
    rw [Below.heap_setCell _ _ _ _ (show b ≠ b + 1 by omega)]
  simp only [hn]
  exact h
theorem pop_end {w X w1 w2 : World} {aT : Int} {loc stk : List ByteArray} {K n m : Nat} {a1 a3 a4 : Option Addr} {p1 p3 p4 : Nat} {row : Array Value} (hX : w.heap.size + 2 ≤ X.heap.size) (BX : Below w.heap.size w X) (q9 : Below X.heap.size X w2) (b : Below w1.heap.size w1 w2)
    (O1 : OwnT w1 X.heap.size (.slice a1 loc.length p1) loc) (O2 : OwnT w1 m (.slice a3 K p3) (stk.take K)) (O3 : OwnT w2 w1.heap.size (.slice a4 n p4) (stk.drop K)) (q3 : X.heap.size ≤ m) (q4 : m ≤ w1.heap.size) (q5 : ∀ k, (Value.slice a1 loc.length p1).ownBlock = some k → k < m) (Y : Blk w2 (w.heap.size + 1) row 25) :
    PopQ w ⟨aT, loc, stk⟩ K (.returned (.tuple #[.agg #[.int .i64 aT, .slice a1 loc.length p1, .slice a3 K p3], .slice a4 n p4, .int .i64 0])) (((w2.setCell ⟨w.heap.size + 1, 0, none⟩ (.int .i64 aT)).setCell ⟨w.heap.size + 1, 1, none⟩ (.slice a1 loc.length p1)).setCell ⟨w.heap.size + 1, 2, none⟩ (.slice a3 K p3)) := by
  have hs : ∀ {W : World} {B : Nat} {v : Value} {l : List ByteArray} {row : Array Value} (o : Nat) (u : Value), OwnT W B v l → Blk W (w.heap.size + 1) row 25 → OwnT (W.setCell ⟨w.heap.size + 1, o, none⟩ u) B v l := fun o u h hb => h.other_cell (fun e => own_not h hb (by decide) e)
  have Y1 := Y.set 0 (.int .i64 aT)
  have Y2 := Y1.set 1 (.slice a1 loc.length p1)
  have hall : ∀ {B : Nat} {v : Value} {l : List ByteArray}, OwnT w2 B v l → OwnT (((w2.setCell ⟨w.heap.size + 1, 0, none⟩ (.int .i64 aT)).setCell ⟨w.heap.size + 1, 1, none⟩ (.slice a1 loc.length p1)).setCell ⟨w.heap.size + 1, 2, none⟩ (.slice a3 K p3)) B v l := fun h => hs 2 _ (hs 1 _ (hs 0 _ h Y) Y1) Y2
  have hb := b.size
  have h9 := q9.size
  have P1 := O1.below b
  have P2 := O2.below b
  refine ⟨_, _, w1.heap.size, rfl, ⟨_, _, m, rfl, (hall P1).mono (by omega), hall P2, by omega, by simp [World.setCell]; omega, q5⟩, ?_, hall O3, by omega, below_set (below_set (below_set (BX.trans (q9.mono BX.size)) (by omega) _ _) (by omega) _ _) (by omega) _ _⟩
  intro at' u1 u2 e k hk
  cases e
  rcases hk with hk | hk
  · have := q5 k hk; omega
  · exact (O2.lt k hk).2
set_option maxRecDepth 8000 in
set_option maxHeartbeats 4000000 in
theorem pop_ok (w : World) (v : Value) (f : RD) (h : FrV w v f) (n K : Nat) (n1 : f.loc.length ≤ 8796093022050) (n2 : f.stk.length ≤ 8796093022050) (hn : f.stk.length = K + n) :
    Calls Tryz.prog 20 #[v, .int .i64 (n : Int)] w (PopQ w f K) := by
  obtain ⟨o1, c1, o2, c2, rfl, k1, k2⟩ := h
  obtain ⟨aT, loc, stk⟩ := f
  simp only at *
  have hn0 : ¬ (n : Int) < 0 := by omega
  have hn1 : ¬ (n : Int) > (((K + n : Nat) : Nat) : Int) := by omega
  have hKn : (((K + n : Nat) : Nat) : Int) - (n : Int) = (K : Int) := by omega
  have hKs : K + n ≤ 8796093022050 := by omega
  have hc2 : K + n ≤ c2 := by have := k2.1; omega
  have B2 : Below w.heap.size w ((w.alloc (.cells #[.int .i64 aT, .slice o1 loc.length c1, .slice o2 stk.length c2] 25)).alloc (.cells #[.int .i64 0, .slice none 0 0, .slice none 0 0] 25)) := ((Below.refl _ w).alloc (Nat.le_refl _) _).alloc (by simp) _
  have X2 := (Blk.new w #[.int .i64 aT, .slice o1 loc.length c1, .slice o2 stk.length c2] 25).alloc (.cells #[.int .i64 0, .slice none 0 0, .slice none 0 0] 25)
  have Y2 := Blk.new (w.alloc (.cells #[.int .i64 aT, .slice o1 loc.length c1, .slice o2 stk.length c2] 25)) #[.int .i64 0, .slice none 0 0, .slice none 0 0] 25
  rw [World.size_alloc] at Y2
  have HQ : Hid (∀ e w', PopQ w ⟨aT, loc, stk⟩ K e w' → PopQ w ⟨aT, loc, stk⟩ K e w') := fun _ _ h => h
  have K1 := D.hidIt (k1.below B2 (fun _ _ h => h))
  have K2 := D.hidIt (k2.below B2 (fun _ _ h => h))
  rw [hn] at X2 B2
  have x0 := X2.cell 0
  have x1 := X2.cell 1
  have x2 := X2.cell 2
  simp at x0 x1 x2
  rw [hn] at Y2 K1 K2 ⊢
  go_enter Tryz.func20, Tryz.ntmps20
  go_upto_region 4 with (fail)
  generalize (w.alloc (.cells #[.int .i64 aT, .slice o1 loc.length c1, .slice o2 (K + n) c2] 25)).alloc (.cells #[.int .i64 0, .slice none 0 0, .slice none 0 0] 25) = X at *
  have x0 := X2.cell 0
  have x1 := X2.cell 1
  have x2 := X2.cell 2
  simp at x0 x1 x2
  have hX : w.heap.size + 2 ≤ X.heap.size := Y2.lt
  have hb0 : Hid (Below X.heap.size X X.drew) := (Below.refl _ _).drew
  have hKs' : K ≤ c2 := by omega
  have hKi : (K : Int) ≤ (c2 : Int) := by omega
  have hK0 : (0 : Int) ≤ (K : Int) := by omega
  have hKl : (K : Int) ≤ ((K + n : Nat) : Int) := by omega
  have hKl2 : (K : Int) ≤ (K : Int) + (n : Int) := by omega
  have hlt : (stk.take K).length = K := by rw [List.length_take]; omega
  have hld : (stk.drop K).length = n := by rw [List.length_drop]; omega
  have key : ∀ (oa : Option Addr) (ca : Nat) (oc : Option Addr) (cc : Nat), LAt 1 TextR X oa ca (stk.take K) → LAt 1 TextR X oc cc (stk.drop K) →
      ∃ GM : (∀ W nb, Below X.heap.size X W → Blk W nb #[.slice oa K ca] 23 → Calls Tryz.prog 61 #[.int .i64 aT, .slice o1 loc.length c1, .slice (some ⟨nb, 0, none⟩) 1 1] W fun e w1 => ∃ a1 p1 a2 p2 m, e = .returned (.agg #[.int .i64 aT, .slice a1 loc.length p1, .slice a2 K p2]) ∧ OwnT w1 X.heap.size (.slice a1 loc.length p1) loc ∧ OwnT w1 m (.slice a2 K p2) (stk.take K) ∧ X.heap.size ≤ m ∧ m ≤ w1.heap.size ∧ (∀ k, (Value.slice a1 loc.length p1).ownBlock = some k → k < m) ∧ Below X.heap.size X w1 ∧ Below W.heap.size W w1),
        ∀ W nb, Below X.heap.size X W → Blk W nb #[.slice oc n cc] 23 → Calls Tryz.prog 62 #[.slice (some ⟨nb, 0, none⟩) 1 1] W fun e w1 => ∃ a1 p1, e = .returned (.slice a1 n p1) ∧ OwnT w1 W.heap.size (.slice a1 n p1) (stk.drop K) ∧ Below X.heap.size X w1 ∧ Below W.heap.size W w1 :=
    fun oa ca oc cc ha hc => ⟨fun W nb hB hb => made_then K1.out ha hlt n1 (by omega) W nb hB hb, fun W nb hB hb => concat_then hc hld (by omega) W nb hB hb⟩
  have HKEY := D.hidIt key
  clear key
  cases o2 with
  | none =>
    have hz : stk = [] := by
      obtain ⟨_, _, _, hr, _⟩ := K2.out
      rcases Nat.eq_zero_or_pos stk.length with e | e
      · exact List.length_eq_zero_iff.1 e
      · obtain ⟨_, _, e, _⟩ := hr e; cases e
    subst hz
    obtain ⟨rfl, rfl⟩ : K = 0 ∧ n = 0 := by simp at hn; omega
    obtain ⟨gm, gc⟩ := HKEY.out none c2 none c2 (LAt.nil _ _ _ _ _ K2.out.2.1) (LAt.nil _ _ _ _ _ K2.out.2.1)
    have GM := D.hidIt gm
    have GC := D.hidIt gc
    have hS0 : Hid (X.cell? ⟨w.heap.size, 0, none⟩ = some (.int .i64 aT) ∧ X.cell? ⟨w.heap.size, 1, none⟩ = some (.slice o1 loc.length c1) ∧ X.cell? ⟨w.heap.size, 2, none⟩ = some (.slice none (0 + 0) c2)) := ⟨x0, x1, x2⟩
    have hS3 : Hid (∀ W, Below X.heap.size X W → W.cell? ⟨w.heap.size, 0, none⟩ = some (.int .i64 aT) ∧ W.cell? ⟨w.heap.size, 1, none⟩ = some (.slice o1 loc.length c1) ∧ W.cell? ⟨w.heap.size, 2, none⟩ = some (.slice none (0 + 0) c2)) := fun W b => ⟨cell_later b x0, cell_later b x1, cell_later b x2⟩
    have A1 : Hid (Blk (X.alloc (.cells #[.slice none 0 c2] 23)).drew X.heap.size #[.slice none 0 c2] 23) := Blk.new X _ _
    have A2 : Hid (Blk ((X.alloc (.cells #[.slice none 0 c2] 23)).alloc (.cells #[.slice none 0 c2] 23)).drew (X.heap.size + 1) #[.slice none 0 c2] 23) := by
      have := Blk.new (X.alloc (.cells #[.slice none 0 c2] 23)) #[.slice none 0 c2] 23
      rw [World.size_alloc] at this
      exact this
    have A3 : Hid (Blk ((X.alloc (.cells #[.slice none 0 c2] 23)).alloc (.cells #[.slice none 0 c2] 23)).drew X.heap.size #[.slice none 0 c2] 23) := (Blk.new X #[.slice none 0 c2] 23).alloc _
    have C2 : Hid (Blk ((X.alloc (.cells #[.slice none 0 c2] 23)).alloc (.cells #[.slice none 0 c2] 23)).drew X.heap.size #[.slice none 0 c2] 23) := (Blk.new X #[.slice none 0 c2] 23).alloc _
    have C3 : Hid (Blk ((X.alloc (.cells #[.slice none 0 c2] 23)).alloc (.cells #[.slice none 0 c2] 23)).drew (X.heap.size + 1) #[.slice none 0 c2] 23) := by
      have := Blk.new (X.alloc (.cells #[.slice none 0 c2] 23)) #[.slice none 0 c2] 23
      rw [World.size_alloc] at this
      exact this
    have bA : Hid (Below X.heap.size X (X.alloc (.cells #[.slice none 0 c2] 23)).drew) := (balloc2 (Below.refl _ X) _).drew
    have bC : Hid (Below X.heap.size X (X.alloc (.cells #[.slice none 0 c2] 23)).drew) := (balloc2 (Below.refl _ X) _).drew
    have bCA : Hid (Below X.heap.size X ((X.alloc (.cells #[.slice none 0 c2] 23)).alloc (.cells #[.slice none 0 c2] 23)).drew) := (balloc2 (balloc2 (Below.refl _ X) _) _).drew
    have bAC : Hid (Below X.heap.size X ((X.alloc (.cells #[.slice none 0 c2] 23)).alloc (.cells #[.slice none 0 c2] 23)).drew) := (balloc2 (balloc2 (Below.refl _ X) _) _).drew
    clear gm gc HKEY K1 K2 k1 k2 x0 x1 x2
    go_region_held3 (fun W => W.cell? ⟨w.heap.size, 0, none⟩ = some (.int .i64 aT) ∧ W.cell? ⟨w.heap.size, 1, none⟩ = some (.slice o1 loc.length c1) ∧ W.cell? ⟨w.heap.size, 2, none⟩ = some (.slice none (0 + 0) c2)) (first | exact hS0.out | exact hS3.out _ hb0.out | exact hS3.out _ bA.out | exact hS3.out _ bC.out | exact hS3.out _ bCA.out | exact hS3.out _ bAC.out | exact hS3.out _ (by assumption) | exact hS3.out _ (balloc2 (by assumption) _) | exact hS5.out)
      (first
        | (go_at_call 61; refine (GM.out _ _ (by first | exact bA.out | exact bCA.out | exact bAC.out) (by first | exact A1.out | exact A2.out | exact A3.out)).mono ?_; rintro e w1 ⟨a1, p1, a3, p3, m, rfl, q1, q2, q3, q4, q5, q6, q7⟩; have O1 := D.hidIt q1; have O2 := D.hidIt q2; have HQ5 := D.hidIt q5; have HB2 := D.hidIt q7; clear q1 q2 q5 q7)
        | (go_at_call 62; refine (GC.out _ _ (by first | exact q6 | exact balloc2 q6 _) (by first | exact Blk.new _ _ _ | exact C2.out.below HB2.out | exact C3.out.below HB2.out)).mono ?_; rintro e w2 ⟨a4, p4, rfl, q8, q9, q10⟩; have O3 := D.hidIt (q8.mono (show w1.heap.size ≤ _ by simp)); have HB3 : Hid (Below w1.heap.size w1 w2) := (by first | exact q10 | exact (balloc w1 _).trans (q10.mono (by simp))); have Y5 := Y2.below q9; have y0 := Y5.cell 0; have y1 := Y5.cell 1; have y2 := Y5.cell 2; have f0 := Y5.frozen 0; have f1 := Y5.frozen 1; have f2 := Y5.frozen 2; have hS5 : Hid ((((w2.setCell ⟨w.heap.size + 1, 0, none⟩ (.int .i64 aT)).setCell ⟨w.heap.size + 1, 1, none⟩ (.slice a1 loc.length p1)).setCell ⟨w.heap.size + 1, 2, none⟩ (.slice a3 0 p3)).cell? ⟨w.heap.size, 0, none⟩ = some (.int .i64 aT) ∧ (((w2.setCell ⟨w.heap.size + 1, 0, none⟩ (.int .i64 aT)).setCell ⟨w.heap.size + 1, 1, none⟩ (.slice a1 loc.length p1)).setCell ⟨w.heap.size + 1, 2, none⟩ (.slice a3 0 p3)).cell? ⟨w.heap.size, 1, none⟩ = some (.slice o1 loc.length c1) ∧ (((w2.setCell ⟨w.heap.size + 1, 0, none⟩ (.int .i64 aT)).setCell ⟨w.heap.size + 1, 1, none⟩ (.slice a1 loc.length p1)).setCell ⟨w.heap.size + 1, 2, none⟩ (.slice a3 0 p3)).cell? ⟨w.heap.size, 2, none⟩ = some (.slice none (0 + 0) c2)) := S_set (hS3.out _ q9); have HY5 := D.hidIt Y5; clear q8 q10 Y5; simp at y0 y1 y2))
    all_goals (
      go_wp2_with fail
      have Y8 := ((HY5.out.set 0 (.int .i64 aT)).set 1 (.slice a1 loc.length p1)).set 2 (.slice a3 0 p3)
      simp at Y8
      refine bodyPost_ret (results_row3 rfl _ _ (w.heap.size + 1) 25 _ (0, 0) _ rfl Y8 Tryz.underlying25 rfl (by kernel_rfl)) rfl ?_
      exact pop_end hX B2 q9 HB3.out O1.out O2.out O3.out q3 q4 HQ5.out HY5.out)
  | some a2 =>
    by_cases hc : c2 = 0
    · obtain ⟨rfl, rfl⟩ : K = 0 ∧ n = 0 := by omega
      have hz : stk = [] := List.length_eq_zero_iff.1 (by omega)
      subst hz
      subst hc
      obtain ⟨gm, gc⟩ := HKEY.out (some a2) 0 (some a2) 0 (LAt.nil _ _ _ _ _ K2.out.2.1) (LAt.nil _ _ _ _ _ K2.out.2.1)
      have GM := D.hidIt gm
      have GC := D.hidIt gc
      have hS0 : Hid (X.cell? ⟨w.heap.size, 0, none⟩ = some (.int .i64 aT) ∧ X.cell? ⟨w.heap.size, 1, none⟩ = some (.slice o1 loc.length c1) ∧ X.cell? ⟨w.heap.size, 2, none⟩ = some (.slice (some a2) (0 + 0) 0)) := ⟨x0, x1, x2⟩
      have hS3 : Hid (∀ W, Below X.heap.size X W → W.cell? ⟨w.heap.size, 0, none⟩ = some (.int .i64 aT) ∧ W.cell? ⟨w.heap.size, 1, none⟩ = some (.slice o1 loc.length c1) ∧ W.cell? ⟨w.heap.size, 2, none⟩ = some (.slice (some a2) (0 + 0) 0)) := fun W b => ⟨cell_later b x0, cell_later b x1, cell_later b x2⟩
      have A1 : Hid (Blk (X.alloc (.cells #[.slice (some a2) 0 0] 23)).drew X.heap.size #[.slice (some a2) 0 0] 23) := Blk.new X _ _
      have A2 : Hid (Blk ((X.alloc (.cells #[.slice (some a2) 0 0] 23)).alloc (.cells #[.slice (some a2) 0 0] 23)).drew (X.heap.size + 1) #[.slice (some a2) 0 0] 23) := by
        have := Blk.new (X.alloc (.cells #[.slice (some a2) 0 0] 23)) #[.slice (some a2) 0 0] 23
        rw [World.size_alloc] at this
        exact this
      have A3 : Hid (Blk ((X.alloc (.cells #[.slice (some a2) 0 0] 23)).alloc (.cells #[.slice (some a2) 0 0] 23)).drew X.heap.size #[.slice (some a2) 0 0] 23) := (Blk.new X #[.slice (some a2) 0 0] 23).alloc _
      have C2 : Hid (Blk ((X.alloc (.cells #[.slice (some a2) 0 0] 23)).alloc (.cells #[.slice (some a2) 0 0] 23)).drew X.heap.size #[.slice (some a2) 0 0] 23) := (Blk.new X #[.slice (some a2) 0 0] 23).alloc _
      have C3 : Hid (Blk ((X.alloc (.cells #[.slice (some a2) 0 0] 23)).alloc (.cells #[.slice (some a2) 0 0] 23)).drew (X.heap.size + 1) #[.slice (some a2) 0 0] 23) := by
        have := Blk.new (X.alloc (.cells #[.slice (some a2) 0 0] 23)) #[.slice (some a2) 0 0] 23
        rw [World.size_alloc] at this
        exact this
      have bA : Hid (Below X.heap.size X (X.alloc (.cells #[.slice (some a2) 0 0] 23)).drew) := (balloc2 (Below.refl _ X) _).drew
      have bC : Hid (Below X.heap.size X (X.alloc (.cells #[.slice (some a2) 0 0] 23)).drew) := (balloc2 (Below.refl _ X) _).drew
      have bCA : Hid (Below X.heap.size X ((X.alloc (.cells #[.slice (some a2) 0 0] 23)).alloc (.cells #[.slice (some a2) 0 0] 23)).drew) := (balloc2 (balloc2 (Below.refl _ X) _) _).drew
      have bAC : Hid (Below X.heap.size X ((X.alloc (.cells #[.slice (some a2) 0 0] 23)).alloc (.cells #[.slice (some a2) 0 0] 23)).drew) := (balloc2 (balloc2 (Below.refl _ X) _) _).drew
      clear gm gc HKEY K1 K2 k1 k2 x0 x1 x2
      go_region_held3 (fun W => W.cell? ⟨w.heap.size, 0, none⟩ = some (.int .i64 aT) ∧ W.cell? ⟨w.heap.size, 1, none⟩ = some (.slice o1 loc.length c1) ∧ W.cell? ⟨w.heap.size, 2, none⟩ = some (.slice (some a2) (0 + 0) 0)) (first | exact hS0.out | exact hS3.out _ hb0.out | exact hS3.out _ bA.out | exact hS3.out _ bC.out | exact hS3.out _ bCA.out | exact hS3.out _ bAC.out | exact hS3.out _ (by assumption) | exact hS3.out _ (balloc2 (by assumption) _) | exact hS5.out)
        (first
          | (go_at_call 61; refine (GM.out _ _ (by first | exact bA.out | exact bCA.out | exact bAC.out) (by first | exact A1.out | exact A2.out | exact A3.out)).mono ?_; rintro e w1 ⟨a1, p1, a3, p3, m, rfl, q1, q2, q3, q4, q5, q6, q7⟩; have O1 := D.hidIt q1; have O2 := D.hidIt q2; have HQ5 := D.hidIt q5; have HB2 := D.hidIt q7; clear q1 q2 q5 q7)
          | (go_at_call 62; refine (GC.out _ _ (by first | exact q6 | exact balloc2 q6 _) (by first | exact Blk.new _ _ _ | exact C2.out.below HB2.out | exact C3.out.below HB2.out)).mono ?_; rintro e w2 ⟨a4, p4, rfl, q8, q9, q10⟩; have O3 := D.hidIt (q8.mono (show w1.heap.size ≤ _ by simp)); have HB3 : Hid (Below w1.heap.size w1 w2) := (by first | exact q10 | exact (balloc w1 _).trans (q10.mono (by simp))); have Y5 := Y2.below q9; have y0 := Y5.cell 0; have y1 := Y5.cell 1; have y2 := Y5.cell 2; have f0 := Y5.frozen 0; have f1 := Y5.frozen 1; have f2 := Y5.frozen 2; have hS5 : Hid ((((w2.setCell ⟨w.heap.size + 1, 0, none⟩ (.int .i64 aT)).setCell ⟨w.heap.size + 1, 1, none⟩ (.slice a1 loc.length p1)).setCell ⟨w.heap.size + 1, 2, none⟩ (.slice a3 0 p3)).cell? ⟨w.heap.size, 0, none⟩ = some (.int .i64 aT) ∧ (((w2.setCell ⟨w.heap.size + 1, 0, none⟩ (.int .i64 aT)).setCell ⟨w.heap.size + 1, 1, none⟩ (.slice a1 loc.length p1)).setCell ⟨w.heap.size + 1, 2, none⟩ (.slice a3 0 p3)).cell? ⟨w.heap.size, 1, none⟩ = some (.slice o1 loc.length c1) ∧ (((w2.setCell ⟨w.heap.size + 1, 0, none⟩ (.int .i64 aT)).setCell ⟨w.heap.size + 1, 1, none⟩ (.slice a1 loc.length p1)).setCell ⟨w.heap.size + 1, 2, none⟩ (.slice a3 0 p3)).cell? ⟨w.heap.size, 2, none⟩ = some (.slice (some a2) (0 + 0) 0)) := S_set (hS3.out _ q9); have HY5 := D.hidIt Y5; clear q8 q10 Y5; simp at y0 y1 y2))
      all_goals (
        go_wp2_with fail
        have Y8 := ((HY5.out.set 0 (.int .i64 aT)).set 1 (.slice a1 loc.length p1)).set 2 (.slice a3 0 p3)
        simp at Y8
        refine bodyPost_ret (results_row3 rfl _ _ (w.heap.size + 1) 25 _ (0, 0) _ rfl Y8 Tryz.underlying25 rfl (by kernel_rfl)) rfl ?_
        exact pop_end hX B2 q9 HB3.out O1.out O2.out O3.out q3 q4 HQ5.out HY5.out)
    · by_cases hcK : c2 = K
      · obtain rfl : n = 0 := by omega
        subst hcK
        obtain ⟨gm, gc⟩ := HKEY.out (some a2) c2 (some a2) 0 (K2.out.take c2) (by rw [List.drop_eq_nil_of_le (by omega)]; exact LAt.nil _ _ _ _ _ (by unfold maxLen; omega))
        have GM := D.hidIt gm
        have GC := D.hidIt gc
        have hS0 : Hid (X.cell? ⟨w.heap.size, 0, none⟩ = some (.int .i64 aT) ∧ X.cell? ⟨w.heap.size, 1, none⟩ = some (.slice o1 loc.length c1) ∧ X.cell? ⟨w.heap.size, 2, none⟩ = some (.slice (some a2) (c2 + 0) c2)) := ⟨x0, x1, x2⟩
        have hS3 : Hid (∀ W, Below X.heap.size X W → W.cell? ⟨w.heap.size, 0, none⟩ = some (.int .i64 aT) ∧ W.cell? ⟨w.heap.size, 1, none⟩ = some (.slice o1 loc.length c1) ∧ W.cell? ⟨w.heap.size, 2, none⟩ = some (.slice (some a2) (c2 + 0) c2)) := fun W b => ⟨cell_later b x0, cell_later b x1, cell_later b x2⟩
        have A1 : Hid (Blk (X.alloc (.cells #[.slice (some a2) c2 c2] 23)).drew X.heap.size #[.slice (some a2) c2 c2] 23) := Blk.new X _ _
        have A2 : Hid (Blk ((X.alloc (.cells #[.slice (some a2) 0 0] 23)).alloc (.cells #[.slice (some a2) c2 c2] 23)).drew (X.heap.size + 1) #[.slice (some a2) c2 c2] 23) := by
          have := Blk.new (X.alloc (.cells #[.slice (some a2) 0 0] 23)) #[.slice (some a2) c2 c2] 23
          rw [World.size_alloc] at this
          exact this
        have A3 : Hid (Blk ((X.alloc (.cells #[.slice (some a2) c2 c2] 23)).alloc (.cells #[.slice (some a2) 0 0] 23)).drew X.heap.size #[.slice (some a2) c2 c2] 23) := (Blk.new X #[.slice (some a2) c2 c2] 23).alloc _
        have C2 : Hid (Blk ((X.alloc (.cells #[.slice (some a2) 0 0] 23)).alloc (.cells #[.slice (some a2) c2 c2] 23)).drew X.heap.size #[.slice (some a2) 0 0] 23) := (Blk.new X #[.slice (some a2) 0 0] 23).alloc _
        have C3 : Hid (Blk ((X.alloc (.cells #[.slice (some a2) c2 c2] 23)).alloc (.cells #[.slice (some a2) 0 0] 23)).drew (X.heap.size + 1) #[.slice (some a2) 0 0] 23) := by
          have := Blk.new (X.alloc (.cells #[.slice (some a2) c2 c2] 23)) #[.slice (some a2) 0 0] 23
          rw [World.size_alloc] at this
          exact this
        have bA : Hid (Below X.heap.size X (X.alloc (.cells #[.slice (some a2) c2 c2] 23)).drew) := (balloc2 (Below.refl _ X) _).drew
        have bC : Hid (Below X.heap.size X (X.alloc (.cells #[.slice (some a2) 0 0] 23)).drew) := (balloc2 (Below.refl _ X) _).drew
        have bCA : Hid (Below X.heap.size X ((X.alloc (.cells #[.slice (some a2) 0 0] 23)).alloc (.cells #[.slice (some a2) c2 c2] 23)).drew) := (balloc2 (balloc2 (Below.refl _ X) _) _).drew
        have bAC : Hid (Below X.heap.size X ((X.alloc (.cells #[.slice (some a2) c2 c2] 23)).alloc (.cells #[.slice (some a2) 0 0] 23)).drew) := (balloc2 (balloc2 (Below.refl _ X) _) _).drew
        clear gm gc HKEY K1 K2 k1 k2 x0 x1 x2
        go_region_held3 (fun W => W.cell? ⟨w.heap.size, 0, none⟩ = some (.int .i64 aT) ∧ W.cell? ⟨w.heap.size, 1, none⟩ = some (.slice o1 loc.length c1) ∧ W.cell? ⟨w.heap.size, 2, none⟩ = some (.slice (some a2) (c2 + 0) c2)) (first | exact hS0.out | exact hS3.out _ hb0.out | exact hS3.out _ bA.out | exact hS3.out _ bC.out | exact hS3.out _ bCA.out | exact hS3.out _ bAC.out | exact hS3.out _ (by assumption) | exact hS3.out _ (balloc2 (by assumption) _) | exact hS5.out)
          (first
            | (go_at_call 61; refine (GM.out _ _ (by first | exact bA.out | exact bCA.out | exact bAC.out) (by first | exact A1.out | exact A2.out | exact A3.out)).mono ?_; rintro e w1 ⟨a1, p1, a3, p3, m, rfl, q1, q2, q3, q4, q5, q6, q7⟩; have O1 := D.hidIt q1; have O2 := D.hidIt q2; have HQ5 := D.hidIt q5; have HB2 := D.hidIt q7; clear q1 q2 q5 q7)
            | (go_at_call 62; refine (GC.out _ _ (by first | exact q6 | exact balloc2 q6 _) (by first | exact Blk.new _ _ _ | exact C2.out.below HB2.out | exact C3.out.below HB2.out)).mono ?_; rintro e w2 ⟨a4, p4, rfl, q8, q9, q10⟩; have O3 := D.hidIt (q8.mono (show w1.heap.size ≤ _ by simp)); have HB3 : Hid (Below w1.heap.size w1 w2) := (by first | exact q10 | exact (balloc w1 _).trans (q10.mono (by simp))); have Y5 := Y2.below q9; have y0 := Y5.cell 0; have y1 := Y5.cell 1; have y2 := Y5.cell 2; have f0 := Y5.frozen 0; have f1 := Y5.frozen 1; have f2 := Y5.frozen 2; have hS5 : Hid ((((w2.setCell ⟨w.heap.size + 1, 0, none⟩ (.int .i64 aT)).setCell ⟨w.heap.size + 1, 1, none⟩ (.slice a1 loc.length p1)).setCell ⟨w.heap.size + 1, 2, none⟩ (.slice a3 c2 p3)).cell? ⟨w.heap.size, 0, none⟩ = some (.int .i64 aT) ∧ (((w2.setCell ⟨w.heap.size + 1, 0, none⟩ (.int .i64 aT)).setCell ⟨w.heap.size + 1, 1, none⟩ (.slice a1 loc.length p1)).setCell ⟨w.heap.size + 1, 2, none⟩ (.slice a3 c2 p3)).cell? ⟨w.heap.size, 1, none⟩ = some (.slice o1 loc.length c1) ∧ (((w2.setCell ⟨w.heap.size + 1, 0, none⟩ (.int .i64 aT)).setCell ⟨w.heap.size + 1, 1, none⟩ (.slice a1 loc.length p1)).setCell ⟨w.heap.size + 1, 2, none⟩ (.slice a3 c2 p3)).cell? ⟨w.heap.size, 2, none⟩ = some (.slice (some a2) (c2 + 0) c2)) := S_set (hS3.out _ q9); have HY5 := D.hidIt Y5; clear q8 q10 Y5; simp at y0 y1 y2))
        all_goals (
          go_wp2_with fail
          have Y8 := ((HY5.out.set 0 (.int .i64 aT)).set 1 (.slice a1 loc.length p1)).set 2 (.slice a3 c2 p3)
          simp at Y8
          refine bodyPost_ret (results_row3 rfl _ _ (w.heap.size + 1) 25 _ (0, 0) _ rfl Y8 Tryz.underlying25 rfl (by kernel_rfl)) rfl ?_
          exact pop_end hX B2 q9 HB3.out O1.out O2.out O3.out q3 q4 HQ5.out HY5.out)
      · have hdr : LAt 1 TextR X (some (a2.add K)) (c2 - K) (stk.drop K) := by
          by_cases h0 : n = 0
          · rw [List.drop_eq_nil_of_le (by omega)]
            exact LAt.nil _ _ _ _ _ (by have := K2.out.2.1; omega)
          · exact LAt.drop K2.out K (by omega)
        obtain ⟨gm, gc⟩ := HKEY.out (some a2) c2 (some (a2.add K)) (c2 - K) (K2.out.take K) (hdr)
        have GM := D.hidIt gm
        have GC := D.hidIt gc
        have hS0 : Hid (X.cell? ⟨w.heap.size, 0, none⟩ = some (.int .i64 aT) ∧ X.cell? ⟨w.heap.size, 1, none⟩ = some (.slice o1 loc.length c1) ∧ X.cell? ⟨w.heap.size, 2, none⟩ = some (.slice (some a2) (K + n) c2)) := ⟨x0, x1, x2⟩
        have hS3 : Hid (∀ W, Below X.heap.size X W → W.cell? ⟨w.heap.size, 0, none⟩ = some (.int .i64 aT) ∧ W.cell? ⟨w.heap.size, 1, none⟩ = some (.slice o1 loc.length c1) ∧ W.cell? ⟨w.heap.size, 2, none⟩ = some (.slice (some a2) (K + n) c2)) := fun W b => ⟨cell_later b x0, cell_later b x1, cell_later b x2⟩
        have A1 : Hid (Blk (X.alloc (.cells #[.slice (some a2) K c2] 23)).drew X.heap.size #[.slice (some a2) K c2] 23) := Blk.new X _ _
        have A2 : Hid (Blk ((X.alloc (.cells #[.slice (some (a2.add K)) n (c2 - K)] 23)).alloc (.cells #[.slice (some a2) K c2] 23)).drew (X.heap.size + 1) #[.slice (some a2) K c2] 23) := by
          have := Blk.new (X.alloc (.cells #[.slice (some (a2.add K)) n (c2 - K)] 23)) #[.slice (some a2) K c2] 23
          rw [World.size_alloc] at this
          exact this
        have A3 : Hid (Blk ((X.alloc (.cells #[.slice (some a2) K c2] 23)).alloc (.cells #[.slice (some (a2.add K)) n (c2 - K)] 23)).drew X.heap.size #[.slice (some a2) K c2] 23) := (Blk.new X #[.slice (some a2) K c2] 23).alloc _
        have C2 : Hid (Blk ((X.alloc (.cells #[.slice (some (a2.add K)) n (c2 - K)] 23)).alloc (.cells #[.slice (some a2) K c2] 23)).drew X.heap.size #[.slice (some (a2.add K)) n (c2 - K)] 23) := (Blk.new X #[.slice (some (a2.add K)) n (c2 - K)] 23).alloc _
        have C3 : Hid (Blk ((X.alloc (.cells #[.slice (some a2) K c2] 23)).alloc (.cells #[.slice (some (a2.add K)) n (c2 - K)] 23)).drew (X.heap.size + 1) #[.slice (some (a2.add K)) n (c2 - K)] 23) := by
          have := Blk.new (X.alloc (.cells #[.slice (some a2) K c2] 23)) #[.slice (some (a2.add K)) n (c2 - K)] 23
          rw [World.size_alloc] at this
          exact this
        have bA : Hid (Below X.heap.size X (X.alloc (.cells #[.slice (some a2) K c2] 23)).drew) := (balloc2 (Below.refl _ X) _).drew
        have bC : Hid (Below X.heap.size X (X.alloc (.cells #[.slice (some (a2.add K)) n (c2 - K)] 23)).drew) := (balloc2 (Below.refl _ X) _).drew
        have bCA : Hid (Below X.heap.size X ((X.alloc (.cells #[.slice (some (a2.add K)) n (c2 - K)] 23)).alloc (.cells #[.slice (some a2) K c2] 23)).drew) := (balloc2 (balloc2 (Below.refl _ X) _) _).drew
        have bAC : Hid (Below X.heap.size X ((X.alloc (.cells #[.slice (some a2) K c2] 23)).alloc (.cells #[.slice (some (a2.add K)) n (c2 - K)] 23)).drew) := (balloc2 (balloc2 (Below.refl _ X) _) _).drew
        clear gm gc HKEY K1 K2 k1 k2 x0 x1 x2
        go_region_held3 (fun W => W.cell? ⟨w.heap.size, 0, none⟩ = some (.int .i64 aT) ∧ W.cell? ⟨w.heap.size, 1, none⟩ = some (.slice o1 loc.length c1) ∧ W.cell? ⟨w.heap.size, 2, none⟩ = some (.slice (some a2) (K + n) c2)) (first | exact hS0.out | exact hS3.out _ hb0.out | exact hS3.out _ bA.out | exact hS3.out _ bC.out | exact hS3.out _ bCA.out | exact hS3.out _ bAC.out | exact hS3.out _ (by assumption) | exact hS3.out _ (balloc2 (by assumption) _) | exact hS5.out)
          (first
            | (go_at_call 61; refine (GM.out _ _ (by first | exact bA.out | exact bCA.out | exact bAC.out) (by first | exact A1.out | exact A2.out | exact A3.out)).mono ?_; rintro e w1 ⟨a1, p1, a3, p3, m, rfl, q1, q2, q3, q4, q5, q6, q7⟩; have O1 := D.hidIt q1; have O2 := D.hidIt q2; have HQ5 := D.hidIt q5; have HB2 := D.hidIt q7; clear q1 q2 q5 q7)
            | (go_at_call 62; refine (GC.out _ _ (by first | exact q6 | exact balloc2 q6 _) (by first | exact Blk.new _ _ _ | exact C2.out.below HB2.out | exact C3.out.below HB2.out)).mono ?_; rintro e w2 ⟨a4, p4, rfl, q8, q9, q10⟩; have O3 := D.hidIt (q8.mono (show w1.heap.size ≤ _ by simp)); have HB3 : Hid (Below w1.heap.size w1 w2) := (by first | exact q10 | exact (balloc w1 _).trans (q10.mono (by simp))); have Y5 := Y2.below q9; have y0 := Y5.cell 0; have y1 := Y5.cell 1; have y2 := Y5.cell 2; have f0 := Y5.frozen 0; have f1 := Y5.frozen 1; have f2 := Y5.frozen 2; have hS5 : Hid ((((w2.setCell ⟨w.heap.size + 1, 0, none⟩ (.int .i64 aT)).setCell ⟨w.heap.size + 1, 1, none⟩ (.slice a1 loc.length p1)).setCell ⟨w.heap.size + 1, 2, none⟩ (.slice a3 K p3)).cell? ⟨w.heap.size, 0, none⟩ = some (.int .i64 aT) ∧ (((w2.setCell ⟨w.heap.size + 1, 0, none⟩ (.int .i64 aT)).setCell ⟨w.heap.size + 1, 1, none⟩ (.slice a1 loc.length p1)).setCell ⟨w.heap.size + 1, 2, none⟩ (.slice a3 K p3)).cell? ⟨w.heap.size, 1, none⟩ = some (.slice o1 loc.length c1) ∧ (((w2.setCell ⟨w.heap.size + 1, 0, none⟩ (.int .i64 aT)).setCell ⟨w.heap.size + 1, 1, none⟩ (.slice a1 loc.length p1)).setCell ⟨w.heap.size + 1, 2, none⟩ (.slice a3 K p3)).cell? ⟨w.heap.size, 2, none⟩ = some (.slice (some a2) (K + n) c2)) := S_set (hS3.out _ q9); have HY5 := D.hidIt Y5; clear q8 q10 Y5; simp at y0 y1 y2))
        all_goals (
          go_wp2_with fail
          have Y8 := ((HY5.out.set 0 (.int .i64 aT)).set 1 (.slice a1 loc.length p1)).set 2 (.slice a3 K p3)
          simp at Y8
          refine bodyPost_ret (results_row3 rfl _ _ (w.heap.size + 1) 25 _ (0, 0) _ rfl Y8 Tryz.underlying25 rfl (by kernel_rfl)) rfl ?_
          exact pop_end hX B2 q9 HB3.out O1.out O2.out O3.out q3 q4 HQ5.out HY5.out)
end Go.Proofs.YtccbgdbipihoaaaGreat.Fr
namespace Go.Proofs
open Go.Shelf
def Tryz.insS_ren : Go.Shelf.Ren := ⟨fun | 22 => 53 | 17 => 164 | 29 => 100 | 30 => 101 | 36 => 139 | n => n, fun | 0 => 0 | 3 => 3 | 4 => 4 | 9 => 9 | 24 => 23 | n => n, fun | n => n⟩
theorem Tryz.insS : Go.Proofs.Lays2.n22 Tryz.prog Tryz.insS_ren := {
  mixed := by kernel_rfl
  f17 := Tryz.func164.trans (congrArg some (by kernel_rfl))
  f22 := Tryz.func53.trans (congrArg some (by kernel_rfl))
  f29 := Tryz.func100.trans (congrArg some (by kernel_rfl))
  f30 := Tryz.func101.trans (congrArg some (by kernel_rfl))
  f36 := Tryz.func139.trans (congrArg some (by kernel_rfl))
  t0 := Tryz.underlying0
  a0 := Tryz.isAgg0
  z0 := Tryz.sizeOf0
  v0 := Tryz.zeroValue0
  t3 := Tryz.underlying3
  a3 := Tryz.isAgg3
  z3 := Tryz.sizeOf3
  v3 := Tryz.zeroValue3
  t4 := Tryz.underlying4
  a4 := Tryz.isAgg4
  z4 := Tryz.sizeOf4
  v4 := Tryz.zeroValue4
  t9 := Tryz.underlying9
  a9 := Tryz.isAgg9
  z9 := Tryz.sizeOf9
  v9 := Tryz.zeroValue9
  t24 := Tryz.underlying23
  a24 := Tryz.isAgg23
  z24 := Tryz.sizeOf23
  v24 := Tryz.zeroValue23
  i9 := by kernel_rfl }
end Go.Proofs
