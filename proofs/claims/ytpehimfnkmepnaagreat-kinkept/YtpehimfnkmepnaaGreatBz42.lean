import Derived.Test.YtpehimfnkmepnaaGreatBz41
import Derived.Lib.AppendZeros
set_option maxRecDepth 8000
set_option maxHeartbeats 40000000
namespace Go.Proofs.YtpehimfnkmepnaaGreat.KK
open Go.RowKit Q Q.D K
theorem zO7 (W : World) (z row : Array Value) (t : TypeId) : Blk ((W.alloc (.cells z t)).setRow W.heap.size row) W.heap.size row t ∧ Below W.heap.size W ((W.alloc (.cells z t)).setRow W.heap.size row) := by
 refine ⟨setRow_heap _ _ _ _ _ _ (Blk.new W _ _), ?_⟩
 have b := zA9 W (.cells z t)
 exact ⟨b.os, b.tape, b.output, by simp [World.setRow], fun i hi => (setRow_other _ _ _ _ (by omega)).trans (b.block i hi)⟩
theorem own_at {W W' : World} {B : Nat} {e : TypeId} {k : Nat} {v : Value} {n : Nat} {xs : List Value} (h : W.ownsRow B e k v n xs) (hb : ∀ g, v.ownBlock = some g → W'.heap[g]? = W.heap[g]?) : W'.ownsRow B e k v n xs := by
 refine ⟨h.1, ?_⟩
 rcases h.2 with x | ⟨g, cap, cur, rfl, hB, hk, r⟩
 · exact .inl x
 · exact .inr ⟨g, cap, cur, rfl, hB, (hb g rfl).trans hk, r⟩
def good (s1 s2 : Nat) (b : Nat) : Bool := decide (b < s1) || decide (s2 ≤ b)
theorem zCw {s1 s2 b : Nat} : good s1 s2 b = true ↔ b < s1 ∨ s2 ≤ b := by simp [good]
structure KI (W5 : World) (s1 s2 : Nat) (W : World) : Prop where
 os : W.os = W5.os
 tape : W.tape = W5.tape
 output : W.output = W5.output
 size : W5.heap.size ≤ W.heap.size
 block : ∀ b, b < W5.heap.size → good s1 s2 b = true → W.heap[b]? = W5.heap[b]?
theorem KI.refl (W5 : World) (s1 s2 : Nat) : KI W5 s1 s2 W5 := ⟨rfl, rfl, rfl, Nat.le_refl _, fun _ _ _ => rfl⟩
theorem KI.below {W5 W W' : World} {s1 s2 : Nat} (h : KI W5 s1 s2 W) (hb : Below W.heap.size W W') : KI W5 s1 s2 W' :=
 ⟨hb.os.trans h.os, hb.tape.trans h.tape, hb.output.trans h.output, Nat.le_trans h.size hb.size, fun b hl hg => (hb.block b (Nat.lt_of_lt_of_le hl h.size)).trans (h.block b hl hg)⟩
theorem KI.set {W5 W : World} {s1 s2 : Nat} (h : KI W5 s1 s2 W) {b : Nat} (hb : W5.heap.size ≤ b ∨ good s1 s2 b = false) (o : Nat) (u : Value) : KI W5 s1 s2 (W.setCell ⟨b, o, none⟩ u) :=
 ⟨h.os, h.tape, h.output, by simp; exact h.size, fun x hl hg => (heap_setCell_other W ⟨b, o, none⟩ x u (fun e => by
  have e' : x = b := e
  subst e'
  rcases hb with hb | hb
  · omega
  · rw [hb] at hg; cases hg)).trans (h.block x hl hg)⟩
theorem KI.ext {W5 W : World} {s1 s2 : Nat} (h : KI W5 s1 s2 W) {X : Nat → Bool} (hX : ∀ b, X b = true → good s1 s2 b = true) : Ext (K.seen X W5) (K.seen X W) := zAl h.size (fun b hb hx => ⟨hx, h.block b hb (hX b hx)⟩)
theorem KI.under {n0 : Nat} {w W5 W : World} {s1 s2 : Nat} (h : KI W5 s1 s2 W) (hb : Below n0 w W5) (hn : n0 ≤ s1) (hs : s1 ≤ W5.heap.size) : Below n0 w W :=
 ⟨h.os.trans hb.os, h.tape.trans hb.tape, h.output.trans hb.output, Nat.le_trans hb.size h.size, fun i hi => (h.block i (by omega) (zCw.2 (.inl (by omega)))).trans (hb.block i hi)⟩
structure KF (n0 : Nat) (W5 : World) (s1 s2 pk mb : Nat) (v : Value) (R : List Mem) : Prop where
 ko : KinO n0 W5 pk mb v R
 g1 : good s1 s2 pk = true
 g2 : good s1 s2 mb = true
 g3 : ∀ g, v.ownBlock = some g → good s1 s2 g = true
 km : Mems (K.seen (offG (good s1 s2) pk mb v) W5) R
theorem KF.at {n0 : Nat} {W5 W : World} {s1 s2 pk mb : Nat} {v : Value} {R : List Mem} (h : KF n0 W5 s1 s2 pk mb v R) (k : KI W5 s1 s2 W) : KinO n0 W pk mb v R :=
 ⟨h.ko.hpk, h.ko.hmb, (k.block pk h.ko.box.lt h.g1).trans h.ko.box, own_at h.ko.own (fun g hg => k.block g (h.ko.own.lt g hg).2 (h.g3 g hg)), h.ko.map.kept (k.block mb h.ko.map.lt h.g2),
  h.km.ext ((k.ext (fun _ hb => (zCd.1 hb).2)).trans (zAl (Nat.le_refl _) (fun _ _ hx => ⟨(zCd.1 hx).1, rfl⟩)))⟩
theorem kf_add {n0 : Nat} {w1 W4 W5 : World} {s2 pk mb : Nat} {v v5 : Value} {R : List Mem} {k : KD} {b : Nat} (KO : KinO n0 w1 pk mb v R) (B14 : Below w1.heap.size w1 W4) (h24 : s2 ≤ W4.heap.size)
 (K5 : KinO n0 W5 pk mb v5 (⟨k, b⟩ :: R)) (st : zFm pk mb v W4 W5) (hown : ∀ g, v5.ownBlock = some g → v.ownBlock = some g ∨ W4.heap.size ≤ g) (hm : zF2 (K.seen (offG (newB W4.heap.size) pk mb v5) W5) ⟨k, b⟩ (zB7 R k.sup)) (hn : zB7 R k.nm = none) :
 KF n0 W5 w1.heap.size s2 pk mb v5 (⟨k, b⟩ :: R) := by
 have hpk := KO.box.lt
 have hmb := KO.map.lt
 have hv := fun g hg => (KO.own.lt g hg).2
 have hs := B14.size
 refine ⟨K5, zCw.2 (.inl hpk), zCw.2 (.inl hmb), fun g hg => zCw.2 ((hown g hg).elim (fun e => .inl (hv g e)) (fun e => .inr (by omega))), hm.ext ?_, hn, KO.mems.ext ?_⟩
 · refine zAl (Nat.le_refl _) (fun x _ hx => ⟨?_, rfl⟩)
   obtain ⟨y1, y2⟩ := zCd.1 hx
   simp only [newB, decide_eq_true_eq] at y2
   exact zCd.2 ⟨y1, zCw.2 (.inr (by omega))⟩
 · refine zAl (Nat.le_trans hs st.size) (fun x hl hx => ?_)
   obtain ⟨x1, x2, x3⟩ := zCr.1 hx
   exact ⟨zCd.2 ⟨zCr.2 ⟨x1, x2, fun e => (hown x e).elim x3 (fun h => by omega)⟩, zCw.2 (.inl hl)⟩, (st.block x (by omega) x1 x2 x3).trans (B14.block x hl)⟩
theorem was_at {n0 : Nat} {w1 W4 W5 : World} {s2 pk mb : Nat} {v : Value} {R : List Mem} (KO : KinO n0 w1 pk mb v R) (h12 : w1.heap.size ≤ s2) (st : zFm pk mb v W4 W5) : Ext (K.seen (newB s2) W4) (K.seen (newB s2) W5) := by
 have hpk := KO.box.lt
 have hmb := KO.map.lt
 have hv := fun g hg => (KO.own.lt g hg).2
 refine zAl st.size (fun b hl hx => ⟨hx, ?_⟩)
 simp only [newB, decide_eq_true_eq] at hx
 exact st.block b hl (by omega) (by omega) (fun e => by have := hv b e; omega)
structure zD4 (W : World) (g og bm om cm bc oc n cc : Nat) : Prop where
 a : W.cell? ⟨g, og, none⟩ = some (.slice (some ⟨bm, om, none⟩) 1 cm)
 b : W.cell? ⟨bm, om + 6, none⟩ = some (.slice (some ⟨bc, oc, none⟩) n cc)
 c : ∀ j, j < n → ∃ x, W.cell? ⟨bc, oc + j, none⟩ = some (.int .u8 x)
 z : ufz W bc = true
theorem zOi {W : World} {b : Nat} (h : ufz W b = true) (p : Addr) (u : Value) : ufz (W.setCell p u) b = true := by
 by_cases e : b = p.block
 · subst e
   unfold ufz at h ⊢
   unfold World.setCell
   simp only [Array.getElem?_modify, if_true]
   cases hb : W.heap[p.block]? with
   | none => rfl
   | some o =>
     rw [hb] at h
     cases o with
     | cells c t f => exact h
     | _ => exact h
 · rw [zGw (heap_setCell_other W p b u e)]; exact h
theorem zD4.set {W : World} {g og bm om cm bc oc n cc : Nat} (h : zD4 W g og bm om cm bc oc n cc) {i : Nat} (hi : i < n) (y : Int) : zD4 (W.setCell ⟨bc, oc + i, none⟩ (.int .u8 y)) g og bm om cm bc oc n cc := by
 obtain ⟨x, hx⟩ := h.c i hi
 refine ⟨?_, ?_, fun j hj => ?_, zOi h.z _ _⟩
 · rw [World.cell?_setCell_other _ _ _ _ (fun e => by have := h.a; rw [← e, hx] at this; cases this)]; exact h.a
 · rw [World.cell?_setCell_other _ _ _ _ (fun e => by have := h.b; rw [← e, hx] at this; cases this)]; exact h.b
 · by_cases e : j = i
   · subst e; exact ⟨_, World.cell?_setCell_same _ _ _ hx⟩
   · obtain ⟨x', hx'⟩ := h.c j hj
     exact ⟨x', (World.cell?_setCell_other _ _ _ _ (fun e' => e (by injection e' with _ e2; omega))).trans hx'⟩
theorem zJu {X : Nat → Bool} {W : World} {row : List Value} {m : MD} (h : zB1 (K.seen X W) row m) (hn : 0 < m.code.length) :
 ∃ bc oc cc o2 c2 o3 c3, row = [.string m.nm, .string m.ds, .bool m.st, .bool m.nat, .int .i64 m.stk, .int .i64 m.loc, .slice (some ⟨bc, oc, none⟩) m.code.length cc, .slice o2 m.hs.length c2, .slice o3 m.rs.length c3] ∧ X bc = true ∧ ufz W bc = true ∧ ∀ j, j < m.code.length → ∃ x, W.cell? ⟨bc, oc + j, none⟩ = some (.int .u8 x) := by
 obtain ⟨o1, c1, o2, c2, o3, c3, e, _, _, hv, _, _⟩ := h
 obtain ⟨ao, cap, e2, _, _, _, hl⟩ := hv
 cases e2
 rcases hl with h0 | ⟨g, off, rfl, hl⟩
 · rw [h0] at hn; simp at hn
 · have hc : ∀ j, j < m.code.length → ∃ x, (K.seen X W).cell? ⟨g, off + j, none⟩ = some (.int .u8 x) := fun j hj => ⟨_, hl j _ (List.getElem?_eq_getElem hj)⟩
   obtain ⟨x0, h0⟩ := hc 0 hn
   have h0' := zBe.1 h0
   exact ⟨g, off, c1, o2, c2, o3, c3, e, h0'.1, h0'.2.2, fun j hj => by obtain ⟨x, hx⟩ := hc j hj; exact ⟨x, (zBe.1 hx).2.1⟩⟩
theorem zMy {X : Nat → Bool} {W : World} {v : Value} {k : KD} {m : MD} (h : zAp (K.seen X W) v k) (hf : 0 < k.fs.length) (hm : k.ms = [m]) (hn : 0 < m.code.length) :
 ∃ o1 c1 bf ff cf bm om cm bc oc cc, v = .agg #[.string k.nm, .string k.sup, .slice o1 k.pool.length c1, .slice (some ⟨bf, ff, none⟩) k.fs.length cf, .slice (some ⟨bm, om, none⟩) 1 cm] ∧ X bf = true ∧ ufz W bf = true ∧ (∃ s, W.cell? ⟨bf, ff, none⟩ = some (.string s)) ∧ X bm = true ∧ X bc = true ∧ ufz W bc = true ∧
   W.cell? ⟨bm, om + 6, none⟩ = some (.slice (some ⟨bc, oc, none⟩) m.code.length cc) ∧ ∀ j, j < m.code.length → ∃ x, W.cell? ⟨bc, oc + j, none⟩ = some (.int .u8 x) := by
 obtain ⟨o1, c1, o2, c2, o3, c3, rfl, _, _, _, k2, k3⟩ := h
 obtain ⟨_, _, rows2, r2, f2⟩ := k2
 obtain ⟨bf, ff, rfl, _, d2⟩ := r2 hf
 obtain ⟨x0, hx0⟩ : ∃ x, k.fs[0]? = some x := ⟨_, List.getElem?_eq_getElem hf⟩
 have e0 := (f2 0 x0 hx0).1
 have q0 := zBe.1 (d2 0 hf 0 (.string x0.nm) (by rw [e0]; rfl))
 rw [hm] at k3
 obtain ⟨_, _, rows3, r3, f3⟩ := k3
 obtain ⟨bm, om, rfl, _, d3⟩ := r3 (by simp)
 obtain ⟨bc, oc, cc, _, _, _, _, e3, hxc, hz, hc⟩ := zJu (f3 0 m rfl) hn
 have q6 := zBe.1 (d3 0 (by simp) 6 (.slice (some ⟨bc, oc, none⟩) m.code.length cc) (by rw [e3]; rfl))
 refine ⟨o1, c1, bf, ff, c2, bm, om, c3, bc, oc, cc, by rw [hm]; rfl, q0.1, q0.2.2, ⟨_, by simpa using q0.2.1⟩, q6.1, hxc, hz, by simpa using q6.2.1, hc⟩
theorem nvUp {B B' : Nat} {w w' : World} {v : Value} {l : List Int} (h : M.NV B B w v l) (hb : Below B w w') (hB : B ≤ B') : M.NV B' B' w' v l := by
 obtain ⟨ao, cap, e, hc, hm, hx, hl⟩ := h
 refine ⟨ao, cap, e, hc, hm, hx, ?_⟩
 rcases hl with h | ⟨g, off, e, hg, hp, hl⟩
 · exact .inl h
 · exact .inr ⟨g, off, e, by omega, by omega, fun j x hj => (World.cell?_of_block (a := ⟨g, off + j, none⟩) (hb.block g hg)).trans (hl j x hj)⟩
structure zEe (W : World) (g bf ff n cf : Nat) : Prop where
 a : W.cell? ⟨g, 3, none⟩ = some (.slice (some ⟨bf, ff, none⟩) n cf)
 b : ∃ s, W.cell? ⟨bf, ff, none⟩ = some (.string s)
 z : ufz W bf = true
theorem zEe.set {W : World} {g bf ff m cf : Nat} (h : zEe W g bf ff m cf) {og bm om cm bc oc n cc : Nat} (k : zD4 W g og bm om cm bc oc n cc) {i : Nat} (hi : i < n) (y : Int) : zEe (W.setCell ⟨bc, oc + i, none⟩ (.int .u8 y)) g bf ff m cf := by
 obtain ⟨x, hx⟩ := k.c i hi
 obtain ⟨s, hs⟩ := h.b
 refine ⟨?_, ⟨s, ?_⟩, zOi h.z _ _⟩
 · rw [World.cell?_setCell_other _ _ _ _ (fun e => by have := h.a; rw [← e, hx] at this; cases this)]; exact h.a
 · rw [World.cell?_setCell_other _ _ _ _ (fun e => by rw [← e, hx] at hs; cases hs)]; exact hs
theorem zFk {W W' : World} {b : Nat} (hb : Below W.heap.size W W') (hl : b < W.heap.size) (h : ufz W b = true) : ufz W' b = true := by rw [zGw (hb.block b hl)]; exact h
theorem zD4.ext {W W' : World} {g og bm om cm bc oc n cc : Nat} (h : zD4 W g og bm om cm bc oc n cc) (hb : ∀ b, b = g ∨ b = bm ∨ b = bc → W'.heap[b]? = W.heap[b]?) : zD4 W' g og bm om cm bc oc n cc :=
 ⟨(World.cell?_of_block (a := ⟨g, og, none⟩) (hb g (.inl rfl))).trans h.a, (World.cell?_of_block (a := ⟨bm, om + 6, none⟩) (hb bm (.inr (.inl rfl)))).trans h.b, fun j hj => by
  obtain ⟨x, hx⟩ := h.c j hj
  exact ⟨x, (World.cell?_of_block (a := ⟨bc, oc + j, none⟩) (hb bc (.inr (.inr rfl)))).trans hx⟩, (zGw (hb bc (.inr (.inr rfl)))).trans h.z⟩
theorem zD4.below {W W' : World} {g og bm om cm bc oc n cc : Nat} (h : zD4 W g og bm om cm bc oc n cc) (hn : 0 < n) (hb : Below W.heap.size W W') : zD4 W' g og bm om cm bc oc n cc := by
 have l1 := World.block_lt_of_cell? _ _ h.a
 have l2 := World.block_lt_of_cell? _ _ h.b
 obtain ⟨x, hx⟩ := h.c 0 hn
 have l3 := World.block_lt_of_cell? _ _ hx
 refine h.ext (fun b e => hb.block b ?_)
 rcases e with rfl | rfl | rfl
 · exact l1
 · exact l2
 · exact l3
theorem zEe.below {W W' : World} {g bf ff m cf : Nat} (h : zEe W g bf ff m cf) (hb : Below W.heap.size W W') : zEe W' g bf ff m cf := by
 obtain ⟨s, hs⟩ := h.b
 have l2 := World.block_lt_of_cell? _ _ hs
 exact ⟨(zAi hb).cell _ _ h.a, ⟨s, (zAi hb).cell _ _ hs⟩, zFk hb l2 h.z⟩
theorem zOk {w : World} {b b0 : Nat} {c : Array Value} {σ : M.SG} (h : M.zC7 w b c M.sA M.sObj M.zG3 σ.pool [(.go, σ)] b0) (hn : 0 < (encL (M.zBw σ) []).1.length) :
 ∃ vp vf gm cm gc cc, c = #[.string M.sA, .string M.sObj, vp, vf, .slice (some ⟨gm, 0, none⟩) 1 cm] ∧ b ≤ gm ∧ b0 ≤ gc ∧ gm < w.heap.size ∧ gc < w.heap.size ∧ ufz w gc = true ∧ w.cell? ⟨gm, 0 + 6, none⟩ = some (.slice (some ⟨gc, 0, none⟩) (encL (M.zBw σ) []).1.length cc) ∧ ∀ j, j < (encL (M.zBw σ) []).1.length → ∃ x, w.cell? ⟨gc, 0 + j, none⟩ = some (.int .u8 x) := by
 obtain ⟨vp, vf, vm, rfl, _, _, rows, h3, h4, h5⟩ := h
 obtain ⟨r, rfl⟩ : ∃ r, rows = [r] := by
  match rows, h3 with
  | [r], _ => exact ⟨r, rfl⟩
 obtain ⟨vc, vh, vf', fs, rfl, h1, _⟩ := h5 0 (.go, σ) r rfl rfl
 obtain ⟨gc, cc, hvc⟩ := zCv h1 hn
 subst hvc
 obtain ⟨gm, cm, hvm⟩ := zCv h4 (by simp)
 subst hvm
 have hc : ∀ j, j < (encL (M.zBw σ) []).1.length → ∃ x, w.cell? ⟨gc, 0 + j, none⟩ = some (.int .u8 x) := fun j hj => by
  rw [Nat.zero_add]
  exact ⟨(encL (M.zBw σ) []).1[j], M.zFq h1 (by unfold zAj; rw [List.getElem?_map, List.getElem?_eq_getElem hj]; rfl)⟩
 have h6 : w.cell? ⟨gm, 0 + 6, none⟩ = some (.slice (some ⟨gc, 0, none⟩) (encL (M.zBw σ) []).1.length cc) := M.zFq h4 rfl
 have zc : ufz w gc = true := by
  rcases h1.2 with ⟨e, _⟩ | ⟨g', cap', cur', e, _, hg, _⟩
  · cases e
  · cases e; exact zGx hg
 have lc := (h1.lt gc rfl)
 have lm := (h4.lt gm rfl)
 exact ⟨vp, vf, gm, cm, gc, cc, rfl, lm.1, lc.1, lm.2, lc.2, zc, h6, hc⟩
end Go.Proofs.YtpehimfnkmepnaaGreat.KK
namespace Go.Proofs.YtpehimfnkmepnaaGreat.Fr
open Go.RowKit Q Q.D K
def tx (l : List ByteArray) : List Value := l.map Value.string
theorem tx_app (a b : List ByteArray) : tx (a ++ b) = tx a ++ tx b := by simp [tx]
theorem zRd (a : List ByteArray) : (tx a).length = a.length := by simp [tx]
def OwnT (w : World) (B : Nat) (v : Value) (l : List ByteArray) : Prop := w.ownsRow B 9 1 v l.length (tx l)
theorem LAt.small {w : World} {ao : Option Addr} {c : Nat} {l : List ByteArray} (h : LAt 1 zDm w ao c l) : ∀ s ∈ l, s.size ≤ 9223372036854775807 := by
 intro s hs
 obtain ⟨_, _, _, _, k⟩ := h
 obtain ⟨i, hi⟩ := List.getElem?_of_mem hs
 exact (k i s hi).2
theorem LAt.cells {w : World} {a : Addr} {c : Nat} {l : List ByteArray} (h : LAt 1 zDm w (some a) c l) (j : Nat) (u : Value) (hj : (tx l)[j]? = some u) : w.cell? (a.add j) = some u := by
 obtain ⟨_, _, rows, hr, k⟩ := h
 have hj' : j < l.length := by have := (List.getElem?_eq_some_iff.1 hj).1; rwa [zRd] at this
 obtain ⟨b, off, e, _, d⟩ := hr (by omega)
 cases e
 obtain ⟨x, hx⟩ : ∃ x, l[j]? = some x := ⟨_, List.getElem?_eq_getElem hj'⟩
 have hu : u = .string x := by
  simp only [tx, List.getElem?_map, hx] at hj
  exact (Option.some.inj hj).symm
 have := d j hj' 0 (.string x) (by rw [(k j x hx).1]; rfl)
 rw [Addr.add_lit, hu]
 simpa using this
theorem zJn {B : Nat} {w w' : World} (h : Below B w w') {b : Nat} (hb : B ≤ b) (row : Array Value) : Below B w (w'.setRow b row) :=
 ⟨h.os, h.tape, h.output, by simpa [World.setRow] using h.size, fun k hk => by
  rw [World.setRow]
  simp only
  rw [Array.getElem?_modify, if_neg (by omega)]
  exact h.block k hk⟩
theorem zHi {w : World} (ty : TypeId) (B : Nat) (v : Value) (l y : List ByteArray) (ao : Option Addr) (c : Nat) (hown : OwnT w B v l) (hy : LAt 1 zDm w ao c y) (hlen : l.length + y.length ≤ 8796093022200) (hB : B ≤ w.heap.size) :
 ∃ v' w', (Builtin.append_ #[47, 47] ty #[v, .slice ao y.length c]).run Tryz.prog w = .ok v' w' ∧ OwnT w' B v' (l ++ y) ∧ Below B w w' := by
 obtain ⟨i0, hi, hz0, hz1, hz2⟩ := info_parts zSd
 have key : ∃ v' w', (Builtin.append_ #[47, 47] ty #[v, .slice ao y.length c]).run Tryz.prog w = .ok v' w' ∧ OwnT w' B v' (l ++ y) ∧ w.grownBy w' v.ownBlock := by
  cases ao with
  | none =>
    obtain rfl : y = [] := by
     obtain ⟨_, _, _, hr, _⟩ := hy
     rcases Nat.eq_zero_or_pos y.length with e | e
     · exact List.length_eq_zero_iff.1 e
     · obtain ⟨_, _, e, _⟩ := hr e; cases e
    refine ⟨v, w, ?_, by simpa using hown, World.grownBy.refl _ _⟩
    rcases hown.2 with ⟨rfl, e0⟩ | ⟨g, cap, cur, rfl, hbg, hg, hnc, hcm, hcs, htake⟩
    · have : l = [] := List.length_eq_zero_iff.1 e0
      subst this
      simp [Builtin.append_, run_underlying Tryz.underlying47, sizeOf, typeInfo, hi, Builtin.lenOf, Builtin.firstCells]
    · simp [Builtin.append_, run_underlying Tryz.underlying47, sizeOf, typeInfo, hi, Builtin.lenOf, Builtin.firstCells, loadCells, hnc, storeCells]
  | some a1 =>
    obtain ⟨v', w', hr, h2, h3, _, _⟩ := run_append_own_at (P := Tryz.prog) w B 47 ty 9 i0 (.string ⟨#[]⟩) 1 16 Tryz.underlying47 hi hz0 hz1 hz2 rfl (by decide) v l.length (tx l) hown a1 y.length c (tx y) (by rw [zRd, Nat.mul_one])
     (LAt.cells hy) (fun u hu => by simp only [tx, List.mem_map] at hu; obtain ⟨z, _, rfl⟩ := hu; rfl) (by unfold maxLen; omega) (by omega) hB
    exact ⟨v', w', hr, by unfold OwnT; rw [tx_app, List.length_append]; exact h2, h3⟩
 obtain ⟨v', w', hr, h2, h3⟩ := key
 exact ⟨v', w', hr, h2, (Below.refl B w).grown h3 hB (fun k hk => (hown.lt k hk).1)⟩
theorem zCh {k sb T ST : Nat} {z : Value} {i0 : TypeInfo} (hU : Tryz.prog.underlying ST = some (.slice T)) (hi : Tryz.prog.info? T = some i0) (hz0 : i0.zero = some z) (hz1 : i0.size = k) (hz2 : i0.bytes = sb) (hzc : z.cells.size = k) (hk0 : 0 < k) (hsb : sb ≤ 1000)
 (w : World) (ty : TypeId) (ao : Option Addr) (n c : Nat) (rows : Nat → List Value) (h : zAk k w ao n rows) (hk : ∀ j, j < n → (rows j).length = k) (h1 : ∀ j, j < n → ∀ u ∈ rows j, u.oneCell' = true) (hlen : n ≤ 1000000) :
 ∃ v' w', (Builtin.append_ #[ST, ST] ty #[.slice (some ⟨w.heap.size, 0, none⟩) 0 0, .slice ao n c]).run Tryz.prog (w.alloc (.cells #[] T)) = .ok v' w' ∧ w'.ownsRow w.heap.size T k v' n (zAw rows n) ∧ Below w.heap.size w w' := by
 have hown0 : (w.alloc (.cells #[] T)).ownsRow w.heap.size T k (.slice (some ⟨w.heap.size, 0, none⟩) 0 0) 0 [] := World.ownsRow_made w #[] 0 (Nat.le_refl _) (by unfold maxLen; omega) (by simp)
 have hb : Below w.heap.size w (w.alloc (.cells #[] T)) := zA9 w _
 cases ao with
 | none =>
   obtain rfl : n = 0 := by
    rcases Nat.eq_zero_or_pos n with e | e
    · exact e
    · obtain ⟨_, _, e, _⟩ := h e; cases e
   refine ⟨_, _, ?_, by simpa [zAw] using hown0, hb⟩
   simp [Builtin.append_, run_underlying hU, sizeOf, typeInfo, hi, Builtin.lenOf, Builtin.firstCells, loadCells, storeCells]
 | some a =>
   have zBs : ∀ j u, (zAw rows n)[j]? = some u → (w.alloc (.cells #[] T)).cell? (a.add j) = some u := fun j u hj => cell_later hb (zAk.flat h hk j u hj)
   have hmul : (0 + n) * sb ≤ 1000000 * 1000 := Nat.mul_le_mul (by omega) hsb
   obtain ⟨v', w', hr, h2, h3, _, _⟩ := run_append_own_at (P := Tryz.prog) (w.alloc (.cells #[] T)) w.heap.size ST ty T i0 z k sb hU hi hz0 hz1 hz2 hzc hk0 _ 0 [] hown0 a n c (zAw rows n) (zB4 hk) zBs (zD3 h1) (by unfold maxLen; omega) (by omega) (by simp)
   exact ⟨v', w', hr, by simpa using h2, hb.grown h3 (by simp) (fun k hk => (hown0.lt k hk).1)⟩
theorem zCx {w w' : World} {ops : Array Oper} {rest : List Oper} {o : Oper} {a : Act} {Q : Exit → Act → World → Prop} {ST : TypeId} {v vb v' : Value} (hgd : o.guard = none) (s x : Operand)
 (ho : o.op = .call { callee := .builtin .append, args := #[s, x], argTypes := #[ST, ST] }) (hs : a.eval s = v) (hx : a.eval x = vb) (hr : (Builtin.append_ #[ST, ST] o.type #[v, vb]).run Tryz.prog w = .ok v' w') (h : wpList Tryz.prog ops Q rest (a.put o.dst v') w') : wpList Tryz.prog ops Q (o :: rest) a w := by
 refine wpList_plain hgd fun K hK => ?_
 unfold Oper.wp execOp
 simp only [ho, resolve, invoke, builtin, Sem.run_bind, Sem.run_pure, Result.andThen_ok, List.map_toArray, List.map_cons, List.map_nil, hs, hx, hr]
 exact hK _ _ h
theorem boxedM (W : World) (row : Array Value) : Blk ((W.alloc (.cells #[.string ⟨#[]⟩, .string ⟨#[]⟩, .bool false, .bool false, .int .i64 0, .int .i64 0, .slice none 0 0, .slice none 0 0, .slice none 0 0] 39)).setRow W.heap.size row) W.heap.size row 39 ∧ Below W.heap.size W ((W.alloc (.cells #[.string ⟨#[]⟩, .string ⟨#[]⟩, .bool false, .bool false, .int .i64 0, .int .i64 0, .slice none 0 0, .slice none 0 0, .slice none 0 0] 39)).setRow W.heap.size row) :=
 ⟨setRow_heap _ _ _ _ _ _ (Blk.new W _ _), zJn (zA9 W _) (Nat.le_refl _) _⟩
end Go.Proofs.YtpehimfnkmepnaaGreat.Fr
