import Derived.Test.YtpehimfnkmepnaaGreatBx43
import Derived.Test.YtpehimfnkmepnaaGreatBx45
import Derived.Test.YtpehimfnkmepnaaGreatBx46
import Derived.Test.YtpehimfnkmepnaaGreatBx48
import Derived.Test.YtpehimfnkmepnaaGreatRows
import Derived.ProofKit
import Derived.OpenShut
import Derived.SliceStrings
import Derived.Lib.LaidU8
import Derived.ChangeOld
import Derived.Below
set_option maxRecDepth 8000
set_option maxHeartbeats 40000000
namespace Go.Proofs.YtpehimfnkmepnaaGreat.Fr
open Go.RowKit Q Q.D K T
def offB (pk mb : Nat) (v : Value) (pw : Nat) (u : Value) (b : Nat) : Bool := offK pk mb v b && offR pw u b
theorem zBw {pk mb : Nat} {v : Value} {pw : Nat} {u : Value} {b : Nat} : offB pk mb v pw u b = true ↔ (b ≠ pk ∧ b ≠ mb ∧ v.ownBlock ≠ some b) ∧ b ≠ pw ∧ u.ownBlock ≠ some b := by unfold offB; rw [Bool.and_eq_true, zCt, zF1]
structure Two (n0 : Nat) (W : World) (pk mb : Nat) (v : Value) (R : List Mem) (pw : Nat) (u : Value) (S : List KD) (rows : Nat → List Value) : Prop where
 ko : KinO n0 W pk mb v R
 ro : RKO n0 W pw u S rows
 km : Mems (K.seen (offB pk mb v pw u) W) R
 rc : ∀ j x, S.reverse[j]? = some x → zAg (K.seen (offB pk mb v pw u) W) (.agg (rows j).toArray) x
theorem Two.apart {n0 : Nat} {W : World} {pk mb : Nat} {v : Value} {R : List Mem} {pw : Nat} {u : Value} {S : List KD} {rows : Nat → List Value} (h : Two n0 W pk mb v R pw u S rows) :
 pk ≠ pw ∧ mb ≠ pw ∧ v.ownBlock ≠ some pw ∧ u.ownBlock ≠ some pk ∧ u.ownBlock ≠ some mb ∧ ∀ g, v.ownBlock = some g → u.ownBlock ≠ some g := by
 refine ⟨?_, ?_, zAx h.ko.own h.ro.box (by decide), zAx h.ro.own h.ko.box (by decide), ?_, ?_⟩
 · intro e
   have a : _ = _ := h.ko.box
   have b : _ = _ := h.ro.box
   rw [← e, a] at b
   simp at b
 · intro e
   obtain ⟨es, n, hm, _⟩ := h.ko.map
   have b : _ = _ := h.ro.box
   rw [← e, hm] at b
   cases b
 · intro e
   obtain ⟨c, fz, hk⟩ := Lib.ownsRow_kind h.ro.own mb e
   obtain ⟨es, n, hm, _⟩ := h.ko.map
   rw [hm] at hk
   cases hk
 · intro g e1 e2
   obtain ⟨c, fz, hk⟩ := Lib.ownsRow_kind h.ro.own g e2
   obtain ⟨c', fz', hk'⟩ := Lib.ownsRow_kind h.ko.own g e1
   rw [hk] at hk'
   simp at hk'
theorem Two.below {n0 : Nat} {W W' : World} {pk mb : Nat} {v : Value} {R : List Mem} {pw : Nat} {u : Value} {S : List KD} {rows : Nat → List Value} (h : Two n0 W pk mb v R pw u S rows) (hb : Below W.heap.size W W') : Two n0 W' pk mb v R pw u S rows :=
 have E : Ext (K.seen (offB pk mb v pw u) W) (K.seen (offB pk mb v pw u) W') := zAf hb.size (fun b hb' hx => ⟨hx, hb.block b hb'⟩)
 ⟨h.ko.below hb, h.ro.below hb, h.km.ext E, fun j x hx => zAg.ext' E (h.rc j x hx)⟩
theorem Two.kadd {n0 : Nat} {W W' : World} {pk mb : Nat} {v v' : Value} {R : List Mem} {pw : Nat} {u : Value} {S : List KD} {rows : Nat → List Value} {k : KD} {b : Nat} (h : Two n0 W pk mb v R pw u S rows) (hK : KinO n0 W' pk mb v' (⟨k, b⟩ :: R)) (st : zGi pk mb v W W') (hown : ∀ g, v'.ownBlock = some g → v.ownBlock = some g ∨ W.heap.size ≤ g)
 (hm : zGa (K.seen (offG (newB W.heap.size) pk mb v') W') ⟨k, b⟩ (zBm R k.sup)) (hn : zBm R k.nm = none) : Two n0 W' pk mb v' (⟨k, b⟩ :: R) pw u S rows := by
 obtain ⟨a1, a2, a3, a4, a5, a6⟩ := h.apart
 have hpw := h.ro.box.lt
 have hu := fun g hg => (h.ro.own.lt g hg).2
 have E : Ext (K.seen (offB pk mb v pw u) W) (K.seen (offB pk mb v' pw u) W') := zAf st.size (fun b hb hx => by
  obtain ⟨⟨x1, x2, x3⟩, x4, x5⟩ := zBw.1 hx
  exact ⟨zBw.2 ⟨⟨x1, x2, fun e => (hown b e).elim x3 (fun h => by omega)⟩, x4, x5⟩, st.block b hb x1 x2 x3⟩)
 have N : Ext (K.seen (offG (newB W.heap.size) pk mb v') W') (K.seen (offB pk mb v' pw u) W') := zAf (Nat.le_refl _) (fun b _ hx => by
  obtain ⟨y1, y2⟩ := zFa.1 hx
  simp only [newB, decide_eq_true_eq] at y2
  exact ⟨zBw.2 ⟨zCt.1 y1, by omega, fun e => by have := hu b e; omega⟩, rfl⟩)
 have O : Ext (K.seen (offB pk mb v' pw u) W') (K.seen (offR pw u) W') := zAf (Nat.le_refl _) (fun b _ hx => ⟨zF1.2 (zBw.1 hx).2, rfl⟩)
 exact ⟨hK, ⟨h.ro.hpw, (st.block pw hpw a1.symm a2.symm a3).trans h.ro.box, M.zA3 h.ro.own (zN7 h.ko st (by decide) (by decide)), h.ro.k, fun j x hx => zAg.ext' (E.trans O) (h.rc j x hx)⟩, ⟨hm.ext N, hn, h.km.ext E⟩, fun j x hx => zAg.ext' E (h.rc j x hx)⟩
theorem zMt {n0 : Nat} {w w' : World} {pw : Nat} {u : Value} {S : List KD} {rows : Nat → List Value} (h : RKO n0 w pw u S rows) (st : zKl pw u w w') {T : TypeId} (h1 : T ≠ 31) (h2 : T ≠ 127) : M.Same T w w' := fun g cur hg => by
 rw [st.block g (Array.getElem?_eq_some_iff.1 hg).1 ?_ ?_]
 · exact hg
 · rintro rfl
   have hb : _ = _ := h.box
   rw [hb] at hg
   cases hg
   exact h2 rfl
 · intro e
   obtain ⟨c, fz, hk⟩ := Lib.ownsRow_kind h.own g e
   rw [hk] at hg
   cases hg
   exact h1 rfl
theorem zKl.below {n0 : Nat} {W W' : World} {pw : Nat} {u : Value} {S : List KD} {rows : Nat → List Value} (h : RKO n0 W pw u S rows) (st : zKl pw u W W') : Below n0 W W' :=
 ⟨st.os, st.tape, st.output, st.size, fun b hb => st.block b (by have := h.hpw; have := h.box.lt; omega) (by have := h.hpw; omega) (fun e => by have := (h.own.lt b e).1; omega)⟩
theorem Two.radd {n0 : Nat} {W W' : World} {pk mb : Nat} {v : Value} {R : List Mem} {pw : Nat} {u u' : Value} {S : List KD} {rows : Nat → List Value} {k : KD} {row : List Value} (h : Two n0 W pk mb v R pw u S rows) (hK : RKO n0 W' pw u' (k :: S) (fun j => if j < S.length then rows j else row)) (st : zKl pw u W W') (hown : ∀ g, u'.ownBlock = some g → u.ownBlock = some g ∨ W.heap.size ≤ g)
 (hm : zAg (K.seen (fun b => offR pw u' b && newB W.heap.size b) W') (.agg row.toArray) k) : Two n0 W' pk mb v R pw u' (k :: S) (fun j => if j < S.length then rows j else row) := by
 obtain ⟨a1, a2, a3, a4, a5, a6⟩ := h.apart
 have hpk := h.ko.box.lt
 have hmb := h.ko.map.lt
 have hu := fun g hg => (h.ko.own.lt g hg).2
 have E : Ext (K.seen (offB pk mb v pw u) W) (K.seen (offB pk mb v pw u') W') := zAf st.size (fun b hb hx => by
  obtain ⟨x1, x4, x5⟩ := zBw.1 hx
  exact ⟨zBw.2 ⟨x1, x4, fun e => (hown b e).elim x5 (fun h => by omega)⟩, st.block b hb x4 x5⟩)
 have N : Ext (K.seen (fun b => offR pw u' b && newB W.heap.size b) W') (K.seen (offB pk mb v pw u') W') := zAf (Nat.le_refl _) (fun b _ hx => by
  rw [Bool.and_eq_true] at hx
  obtain ⟨y1, y2⟩ := hx
  simp only [newB, decide_eq_true_eq] at y2
  exact ⟨zBw.2 ⟨⟨by omega, by omega, fun e => by have := hu b e; omega⟩, zF1.1 y1⟩, rfl⟩)
 have O : Ext (K.seen (offB pk mb v pw u') W') (K.seen (offK pk mb v) W') := zAf (Nat.le_refl _) (fun b _ hx => ⟨zCt.2 (zBw.1 hx).1, rfl⟩)
 refine ⟨⟨h.ko.hpk, h.ko.hmb, (st.block pk hpk a1 a4).trans h.ko.box, M.zA3 h.ko.own (zMt h.ro st (by decide) (by decide)), h.ko.map.kept (st.block mb hmb a2 a5), h.km.ext (E.trans O)⟩, hK, h.km.ext E, fun j x hx => ?_⟩
 rw [List.reverse_cons] at hx
 by_cases hj : j < S.length
 · rw [List.getElem?_append_left (by simpa using hj)] at hx
   simp only [if_pos hj]
   exact zAg.ext' E (h.rc j x hx)
 · rw [List.getElem?_append_right (by simp; omega)] at hx
   have : j - S.reverse.length = 0 := by
    rcases Nat.eq_zero_or_pos (j - S.reverse.length) with e | e
    · exact e
    · rw [List.getElem?_eq_none (by simp; simp at e; omega)] at hx; cases hx
   rw [this] at hx
   simp at hx
   subst hx
   simp only [if_neg hj]
   exact zAg.ext' N hm
structure PI (ks : List KD) : Prop where
 wf : KWf ks
 en : KEnd ks
 nm : ∀ k ∈ ks, zCj (bsB k.nm)
 ob : ∃ k, zB7 ks zAc = some k
 len : ks.length ≤ 32
theorem PI.given : PI zBd.reverse := by
 refine ⟨zSd, ⟨fun k hk => ?_, fun k hk => ?_⟩, fun k hk => ?_, ⟨zB8, by kernel_rfl⟩, by decide +kernel⟩
 · have : ∀ k ∈ zBd.reverse, k.nm ≠ ⟨#[]⟩ := by decide +kernel
   exact this k hk
 · have e : zBd.reverse.getLast? = some zB8 := by kernel_rfl
   rw [e] at hk
   cases hk
   rfl
 · have : ∀ k ∈ zBd.reverse, zAw (bsB k.nm) = true := by decide +kernel
   exact (zC8 _).1 (this k hk)
theorem PI.add {ks : List KD} {k : KD} (h : PI ks) (hn : ∀ m ∈ k.ms, m.nat = false) (hz : zG3 ks k = 0) : PI (k :: ks) := by
 obtain ⟨o, o1, o2, _, _⟩ := (zLx ks k hn).1 hz
 have hname := (zC8 _).1 o.n
 have hne : k.nm ≠ ⟨#[]⟩ := fun e => by rw [e] at hname; exact absurd hname.1 (by decide)
 obtain ⟨p, hp⟩ := h.ob
 refine ⟨h.wf.add hz, ⟨fun x hx => ?_, fun x hx => ?_⟩, fun x hx => ?_, ?_, by simp; omega⟩
 · rcases List.mem_cons.1 hx with rfl | hx
   · exact hne
   · exact h.en.1 x hx
 · cases hks : ks with
   | nil => rw [hks] at hp; simp [zB7] at hp
   | cons a l => rw [hks, List.getLast?_cons_cons] at hx; exact h.en.2 x (by rw [hks]; exact hx)
 · rcases List.mem_cons.1 hx with rfl | hx
   · exact hname
   · exact h.nm x hx
 · by_cases e : zAc = k.nm
   · exact ⟨k, zCs e⟩
   · exact ⟨p, by rw [zD8 e]; exact hp⟩
structure zHp (n0 pk mb : Nat) (v0 : Value) (pw : Nat) (u0 : Value) (w wm : World) (v : Value) (R : List Mem) (u : Value) (S : List KD) (rows : Nat → List Value) (W : World) : Prop where
 two : Two n0 W pk mb v R pw u S rows
 pi : PI S
 sz : wm.heap.size ≤ W.heap.size
 off : ∀ b, b < wm.heap.size → offB pk mb v0 pw u0 b = true → W.heap[b]? = wm.heap[b]?
 vo : ∀ g, v.ownBlock = some g → v0.ownBlock = some g ∨ wm.heap.size ≤ g
 uo : ∀ g, u.ownBlock = some g → u0.ownBlock = some g ∨ wm.heap.size ≤ g
 bl : Below n0 w W
theorem Two.n0le {n0 : Nat} {W : World} {pk mb : Nat} {v : Value} {R : List Mem} {pw : Nat} {u : Value} {S : List KD} {rows : Nat → List Value} (h : Two n0 W pk mb v R pw u S rows) : n0 ≤ W.heap.size := by have := h.ko.hpk; have := h.ko.box.lt; omega
theorem zHp.below {n0 pk mb : Nat} {v0 : Value} {pw : Nat} {u0 : Value} {w wm : World} {v : Value} {R : List Mem} {u : Value} {S : List KD} {rows : Nat → List Value} {W W' : World} (h : zHp n0 pk mb v0 pw u0 w wm v R u S rows W) (hb : Below W.heap.size W W') : zHp n0 pk mb v0 pw u0 w wm v R u S rows W' :=
 ⟨h.two.below hb, h.pi, Nat.le_trans h.sz hb.size, fun b hl hx => (hb.block b (Nat.lt_of_lt_of_le hl h.sz)).trans (h.off b hl hx), h.vo, h.uo, h.bl.trans (hb.mono h.two.n0le)⟩
theorem zHp.kadd {n0 pk mb : Nat} {v0 : Value} {pw : Nat} {u0 : Value} {w wm : World} {v v' : Value} {R : List Mem} {u : Value} {S : List KD} {rows : Nat → List Value} {W W' : World} {k : KD} {b : Nat} (h : zHp n0 pk mb v0 pw u0 w wm v R u S rows W) (hK : KinO n0 W' pk mb v' (⟨k, b⟩ :: R)) (st : zGi pk mb v W W') (hown : ∀ g, v'.ownBlock = some g → v.ownBlock = some g ∨ W.heap.size ≤ g)
 (hm : zGa (K.seen (offG (newB W.heap.size) pk mb v') W') ⟨k, b⟩ (zBm R k.sup)) (hn : zBm R k.nm = none) : zHp n0 pk mb v0 pw u0 w wm v' (⟨k, b⟩ :: R) u S rows W' := by
 have hs := h.sz
 refine ⟨h.two.kadd hK st hown hm hn, h.pi, Nat.le_trans h.sz st.size, fun b hl hx => ?_, fun g hg => ?_, h.uo, h.bl.trans (zGi.below h.two.ko st)⟩
 · obtain ⟨⟨x1, x2, x3⟩, _⟩ := zBw.1 hx
   rw [st.block b (by omega) x1 x2 (fun e => (h.vo b e).elim x3 (fun h => by omega))]
   exact h.off b hl hx
 · rcases hown g hg with e | e
   · exact h.vo g e
   · exact .inr (by omega)
theorem zHp.radd {n0 pk mb : Nat} {v0 : Value} {pw : Nat} {u0 : Value} {w wm : World} {v : Value} {R : List Mem} {u u' : Value} {S : List KD} {rows : Nat → List Value} {W W' : World} {k : KD} {row : List Value} (h : zHp n0 pk mb v0 pw u0 w wm v R u S rows W) (hK : RKO n0 W' pw u' (k :: S) (fun j => if j < S.length then rows j else row)) (st : zKl pw u W W') (hown : ∀ g, u'.ownBlock = some g → u.ownBlock = some g ∨ W.heap.size ≤ g)
 (hm : zAg (K.seen (fun b => offR pw u' b && newB W.heap.size b) W') (.agg row.toArray) k) (hp : PI (k :: S)) : zHp n0 pk mb v0 pw u0 w wm v R u' (k :: S) (fun j => if j < S.length then rows j else row) W' := by
 have hs := h.sz
 refine ⟨h.two.radd hK st hown hm, hp, Nat.le_trans h.sz st.size, fun b hl hx => ?_, h.vo, fun g hg => ?_, h.bl.trans (zKl.below h.two.ro st)⟩
 · obtain ⟨_, x4, x5⟩ := zBw.1 hx
   rw [st.block b (by omega) x4 (fun e => (h.uo b e).elim x5 (fun h => by omega))]
   exact h.off b hl hx
 · rcases hown g hg with e | e
   · exact h.uo g e
   · exact .inr (by omega)
def offZ (pk mb : Nat) (v : Value) (pw : Nat) (u : Value) (n : Nat) (b : Nat) : Bool := offB pk mb v pw u b && decide (b < n)
theorem zHp.cls {n0 pk mb : Nat} {v0 : Value} {pw : Nat} {u0 : Value} {w wm : World} {v : Value} {R : List Mem} {u : Value} {S : List KD} {rows : Nat → List Value} {W : World} (h : zHp n0 pk mb v0 pw u0 w wm v R u S rows W) {cv : Value} {k : KD} (hc : zAg (K.seen (offZ pk mb v0 pw u0 wm.heap.size) wm) cv k) : zAg W cv k :=
 zAg.ext' ((zAf (Y := fun _ => true) h.sz (fun b hb hx => ⟨rfl, by
  unfold offZ at hx
  rw [Bool.and_eq_true] at hx
  exact h.off b hb hx.1⟩)).trans (zF6 _ _)) hc
theorem zN9 {X : Nat → Bool} {w : World} {b : Nat} {r : Array Value} {nm sup : ByteArray} {fs : List (ByteArray × ByteArray × Bool)} {pool : List M.CD} {ms : List (M.BK × M.SG)} (h : M.zBz w b r nm sup fs pool ms) (hT : ∀ T, T ≠ 9 → T ≠ 99 → T ≠ 31 → T ≠ 127 → M.Same T w (K.seen X w))
 (hs : ∀ (g : Nat) (cur : Array Value), w.heap[g]? = some (.cells cur 9 (0, 0)) → cur[0]? ≠ some (.string zAc) → X g = true) : M.zBz (K.seen X w) b r nm sup fs pool ms := by
 obtain ⟨vp, vf, vm, e, ⟨h1, h1'⟩, h2, rows, h3, h4, h5⟩ := h
 refine ⟨vp, vf, vm, e, ⟨M.zA3 h1 (hT _ (by decide) (by decide) (by decide) (by decide)), h1'⟩, ?_, rows, h3, M.zA3 h4 (hT _ (by decide) (by decide) (by decide) (by decide)), fun j m r hm hr => ?_⟩
 · rcases h2 with h2 | ⟨g, e, hg⟩
   · exact .inl h2
   · exact .inr ⟨g, e, hT _ (by decide) (by decide) (by decide) (by decide) _ _ hg⟩
 · obtain ⟨vc, vh, vf, fs, e, k1, k2, k3, k4⟩ := h5 j m r hm hr
   exact ⟨vc, vh, vf, fs, e, M.zA3 k1 (hT _ (by decide) (by decide) (by decide) (by decide)), M.zA3 k2 (hT _ (by decide) (by decide) (by decide) (by decide)), M.zA3 k3 (hT _ (by decide) (by decide) (by decide) (by decide)), k4.1, fun j y z hy hz => zVu (k4.2 j y z hy hz) hs⟩
theorem Two.clies {n0 : Nat} {w : World} {pk mb : Nat} {v : Value} {R : List Mem} {pw : Nat} {u : Value} {S : List KD} {rows : Nat → List Value} (h : Two n0 w pk mb v R pw u S rows) {R' : List KD} (hR : R.reverse.map Mem.k = zB8 :: R') {b : Nat} {r : Array Value} {nm sup : ByteArray} {fs : List (ByteArray × ByteArray × Bool)} {pool : List M.CD} {ms : List (M.BK × M.SG)} (hc : M.zBz w b r nm sup fs pool ms) :
 M.zBz (K.seen (offZ pk mb v pw u w.heap.size) w) b r nm sup fs pool ms := by
 have key : ∀ (g : Nat) (cur : Array Value) (T : TypeId), w.heap[g]? = some (.cells cur T (0, 0)) → T ≠ 99 → T ≠ 31 → T ≠ 127 → (T = 9 → cur[0]? ≠ some (.string zAc)) → offZ pk mb v pw u w.heap.size g = true := fun g cur T hg h2 h3 h4 hs => by
  unfold offZ
  rw [Bool.and_eq_true, zBw, decide_eq_true_eq]
  refine ⟨⟨⟨?_, ?_, ?_⟩, ?_, ?_⟩, (Array.getElem?_eq_some_iff.1 hg).1⟩
  · rintro rfl
    have hb : _ = _ := h.ko.box
    rw [hb] at hg
    cases hg
    exact h2 rfl
  · rintro rfl
    obtain ⟨es, n, hm, _⟩ := h.ko.map
    rw [hm] at hg
    cases hg
  · intro e
    obtain ⟨cur', hc', h0⟩ := zNh h.ko hR e
    rw [hc'] at hg
    cases hg
    exact hs rfl h0
  · rintro rfl
    have hb : _ = _ := h.ro.box
    rw [hb] at hg
    cases hg
    exact h4 rfl
  · intro e
    obtain ⟨c, fz, hk⟩ := Lib.ownsRow_kind h.ro.own g e
    rw [hk] at hg
    cases hg
    exact h3 rfl
 exact zN9 hc (fun T t1 t2 t3 t4 => zQn (fun g cur hg => key g cur T hg t2 t3 t4 (fun e => absurd e t1))) (fun g cur hg hne => key g cur _ hg (by decide) (by decide) (by decide) (fun _ => hne))
theorem zO0 {c : P3.CD} (h : P3.zB0 c = true) : c.Small := by
 have hn : ∀ s : ByteArray, P3.D.zAw (bsB s) = true → s.size ≤ 1073741824 := fun s hs => by
  have := ((P3.D.zC8 _).1 hs).2.1
  rw [zA7]; exact Nat.le_trans this (by decide)
 have hf : ∀ s : ByteArray, P3.D.zAp (bsB s) = true → s.size ≤ 1073741824 := fun s hs => by
  have := P3.D.zIw ((P3.D.zBp _).1 hs)
  rw [zA7]; exact Nat.le_trans this (by decide)
 have he : ∀ s : ByteArray, P3.zCl s = true → s.size ≤ 1073741824 := fun s hs => by
  unfold P3.zCl at hs
  have : s.toList = [] := by simpa using hs
  rw [Lib.toList_data] at this
  rw [zA7]
  simp [this]
 have hcl : ∀ s : ByteArray, P3.zFc s = true → s.size ≤ 1073741824 := fun s hs => by
  unfold P3.zFc at hs
  rw [Bool.or_eq_true] at hs
  rcases hs with hs | hs
  · unfold P3.D.zEr at hs
    split at hs
    · rename_i h0; exact hf s h0.1
    · cases hs
  · exact hn s hs
 unfold P3.zB0 at h
 split at h
 · simp only [Bool.and_eq_true] at h
   exact ⟨he _ h.1.1, he _ h.1.2, he _ h.2⟩
 · split at h
   · simp only [Bool.and_eq_true] at h
     exact ⟨hcl _ h.1.1.2, he _ h.1.2, he _ h.2⟩
   · split at h
     · simp only [Bool.and_eq_true, P3.zD3] at h
       exact ⟨hn _ h.1.2.1, hn _ h.1.2.2, hf _ h.2⟩
     · split at h
       · simp only [Bool.and_eq_true, P3.zD3, P3.zBr, decide_eq_true_eq] at h
         exact ⟨hn _ h.1.2.1, hn _ h.1.2.2, by omega⟩
       · cases h
structure AddOk (k : KD) : Prop where
 nat : ∀ m ∈ k.ms, m.nat = false
 ps : ∀ c ∈ k.pool, (pc c).Small
 ds : ∀ m ∈ k.ms, m.ds.size ≤ 1073741824
theorem zKt {nm sup : ByteArray} {fs : List (ByteArray × ByteArray × Bool)} {pool : List M.CD} {ms : List (M.BK × M.SG)} (hp : ∀ c ∈ pool, P3.zB0 c = true) : AddOk (M.kdOf nm sup fs pool ms) := by
 refine ⟨fun m hm => ?_, fun c hc => ?_, fun m hm => ?_⟩
 · simp only [M.kdOf, List.mem_map] at hm
   obtain ⟨x, _, rfl⟩ := hm
   rfl
 · simp only [M.kdOf, List.mem_map] at hc
   obtain ⟨x, hx, rfl⟩ := hc
   exact zO0 (hp x hx)
 · simp only [M.kdOf, List.mem_map] at hm
   obtain ⟨x, _, rfl⟩ := hm
   show x.1.ds.size ≤ 1073741824
   cases x.1 <;> decide
theorem zS3 {n0 : Nat} {w w' : World} {pk mb : Nat} {v : Value} {R : List Mem} {pw : Nat} {u : Value} {S : List KD} {rows : Nat → List Value} (h : Two n0 w' pk mb v R pw u S rows) {R' : List KD} (hR : R.reverse.map Mem.k = zB8 :: R') {e : Ending} (hq : M.zGs w e w') :
 ∃ g cA cB cT cC, e = .returned (.slice (some ⟨g, 0, none⟩) 4 4) ∧ w.heap.size ≤ g ∧ w'.heap[g]? = some (.cells (cA ++ cB ++ cT ++ cC) 31 (0, 0)) ∧ Below w.heap.size w w' ∧ (cA.size = 5 ∧ cB.size = 5 ∧ cT.size = 5) ∧ ∀ r, (r = cA ∨ r = cB ∨ r = cT ∨ r = cC) → ∃ k, zAg (K.seen (offZ pk mb v pw u w'.heap.size) w') (.agg r) k ∧ AddOk k := by
 obtain ⟨g, cA, cB, cT, cC, σa, ob, σt, σm, σc, hI, he, hg, hrow, hb, lA, lB, lT, lC⟩ := hq
 have pA := M.zEo hI.a (by simp)
 have pT := M.zEo hI.t (by simp)
 have pM := M.zEo hI.m (by simp)
 have pC := M.zEo hI.c pM
 have pB : ∀ c ∈ M.zSa ob, P3.zB0 c = true := by
  cases ob with
  | none => intro c hc; simp [M.zSa] at hc
  | some σ => exact M.zEo (hI.b σ rfl) (by simp)
 refine ⟨g, cA, cB, cT, cC, he, hg, hrow, hb, ⟨(zGf lA).1, (zGf lB).1, (zGf lT).1⟩, fun r hr => ?_⟩
 rcases hr with rfl | rfl | rfl | rfl
 · exact ⟨_, M.zG0 (h.clies hR lA) (by decide) (by decide) (by decide) (by decide), zKt pA⟩
 · exact ⟨_, M.zG0 (h.clies hR lB) (by decide) (by decide) (by decide) (by decide), zKt pB⟩
 · exact ⟨_, M.zG0 (h.clies hR lT) (by decide) (by decide) (by decide) (by decide), zKt pT⟩
 · exact ⟨_, M.zG0 (h.clies hR lC) (by decide) (by decide) (by decide) (by decide), zKt pC⟩
theorem zJr {w w' : World} {e : Ending} (hq : M.zGs w e w') : Below w.heap.size w w' := by
 obtain ⟨_, _, _, _, _, _, _, _, _, _, _, _, _, _, hb, _⟩ := hq
 exact hb
theorem zVf {w w1 w2 : World} {pk mb : Nat} {v : Value} {R : List Mem} {u : Value} {rows : Nat → List Value} (KO : KinO w.heap.size w1 pk mb v R) (hR : R.reverse.map Mem.k = zBd) (B1 : Below w.heap.size w w1) (I : GvI (putK w1 u) w2 u zBd rows) :
 Two w.heap.size w2 pk mb v R w1.heap.size u (R.map Mem.k) rows ∧ Below w1.heap.size w1 w2 := by
 have hRk : R.map Mem.k = zBd.reverse := by rw [← hR, List.map_reverse, List.reverse_reverse]
 have e0 : (putK w1 u).heap.size = w1.heap.size + 1 := by simp [putK]
 have hb : Below w1.heap.size w1 w2 := by
  have := I.B
  rw [e0] at this
  exact (zA6 w1 (.cells #[u] 127)).trans (this.mono (by omega))
 have hs := B1.size
 have ho := I.o
 rw [e0] at ho
 have hur : ∀ g, u.ownBlock = some g → w1.heap.size + 1 ≤ g := fun g hg => (ho.lt g hg).1
 have hvr : ∀ g, v.ownBlock = some g → g < w1.heap.size := fun g hg => (KO.own.lt g hg).2
 have hpk := KO.box.lt
 have hmb := KO.map.lt
 have cl : ∀ j x, zBd[j]? = some x → zAg (K.seen (offB pk mb v w1.heap.size u) w2) (.agg (rows j).toArray) x := fun j x hx => by
  have := I.r j x hx
  rw [e0] at this
  refine zAg.ext' (zAf (Nat.le_refl _) (fun b _ hx => ⟨?_, rfl⟩)) this
  simp only [zAd, Bool.and_eq_true, decide_eq_true_eq, bne_iff_ne] at hx
  exact zBw.2 ⟨⟨by omega, by omega, fun e => by have := hvr b e; omega⟩, by omega, hx.2⟩
 refine ⟨⟨KO.below hb, ⟨hs, I.box, ?_, ?_, fun j x hx => ?_⟩, KO.mems.ext (zAf hb.size (fun b hb' hx => ⟨?_, hb.block b hb'⟩)), fun j x hx => ?_⟩, hb⟩
 · rw [hRk, List.length_reverse]
   exact zCb ho (by omega)
 · rw [hRk, List.length_reverse]; exact I.k
 · rw [hRk, List.reverse_reverse] at hx
   exact zAg.ext' (zAf (Nat.le_refl _) (fun b _ hx => ⟨zF1.2 (zBw.1 hx).2, rfl⟩)) (cl j x hx)
 · exact zBw.2 ⟨zCt.1 hx, by omega, fun e => by have := hur b e; omega⟩
 · rw [hRk, List.reverse_reverse] at hx
   exact cl j x hx
theorem zTz (w : World) (vr : Value) (rl : List Int) (hr : M.NV w.heap.size w.heap.size w vr rl) :
 Calls Tryz.prog 18 #[.slice none 0 0, vr] w fun e w' => BothQ w e w' := by
 have HR := D.zA0 hr
 obtain ⟨aor, capr, rfl⟩ : ∃ ao cap, vr = .slice ao rl.length cap := by obtain ⟨ao, cap, e, _⟩ := hr; exact ⟨ao, cap, e⟩
 clear hr
 go_enter Tryz.func18, Tryz.ntmps18
 go_upto_region 2 with (first | (go_at_call 9; refine (zNg w).mono ?_; rintro e w1 ⟨pk, mb, v, R, rfl, KO, hR, B1⟩))
 have HKO := D.zA0 KO
 have HRk := D.zA0 hR
 have HB1 := D.zA0 B1
 have G2 := D.zA0 (zTv w1)
 clear KO hR B1
 go_upto_region 3 with (first | (go_at_call 30; refine G2.out.mono ?_; rintro e w2 ⟨u, rows, rfl, I⟩))
 obtain ⟨T2, b2⟩ := zVf HKO.out HRk.out HB1.out I
 have HT2 := D.zA0 T2
 have B2 := HB1.out.trans (b2.mono HB1.out.size)
 have HB2 := D.zA0 B2
 have HMC := D.zA0 (M.zNn _ rl w2 (nv_up HR.out B2 B2.size))
 have hRob : R.reverse.map Mem.k = zB8 :: zBd.tail := by rw [HRk.out]; rfl
 have HROB := D.zA0 hRob
 clear B2 I T2 b2 hRob G2 HR
 generalize w1.heap.size = pw at *
 go_upto_region 6 with (first | (go_at_call 10; refine HMC.out.mono ?_; intro e w3 hq; obtain ⟨g, cA, cB, cT, cC, rfl, hg, hrow, b3, ⟨sA', sB', sT'⟩, hfour⟩ := zS3 (HT2.out.below (zJr hq)) HROB.out hq))
 have H4 := D.zA0 (cells4 sA' sB' sT' (cC := cC))
 have HF := D.zA0 hfour
 have hgo : offB pk mb v pw u g = true := by
  have a1 := HT2.out.ko.box.lt
  have a2 := HT2.out.ko.map.lt
  have a3 := fun b hb => (HT2.out.ko.own.lt b hb).2
  have a4 := HT2.out.ro.box.lt
  have a5 := fun b hb => (HT2.out.ro.own.lt b hb).2
  exact zBw.2 ⟨⟨by omega, by omega, fun e => by have := a3 g e; omega⟩, by omega, fun e => by have := a5 g e; omega⟩
 have hgl : g < w3.heap.size := (Array.getElem?_eq_some_iff.1 hrow).1
 have HROW : Hid (∀ W, W.heap[g]? = w3.heap[g]? → Blk W g (cA ++ cB ++ cT ++ cC) 31) := fun W e => e.trans hrow
 have hpi : PI (R.map Mem.k) := by rw [show R.map Mem.k = zBd.reverse by rw [← HRk.out, List.map_reverse, List.reverse_reverse]]; exact PI.given
 have HI0 := D.zA0 (show zHp w.heap.size pk mb v pw u w w3 v R u (R.map Mem.k) rows w3 from ⟨HT2.out.below b3, hpi, Nat.le_refl _, fun _ _ _ => rfl, fun _ h => .inl h, fun _ h => .inl h, HB2.out.trans (b3.mono HB2.out.size)⟩)
 have HGO := D.zA0 hgo
 have HGL := D.zA0 hgl
 clear hpi hrow hgo hgl hfour b3 hg sA' sB' sT' HKO HB1 HB2 HT2 HMC HROB HRk
 generalize cA ++ cB ++ cT ++ cC = cells at *
 go_wp2_with fail
 go_loopw [8, 9] (fun s8 iv wx => s8 = .slice (some ⟨g, 0, none⟩) 4 4 ∧ iv = .int .i64 0 ∧ w3 = wx) (fun _ _ _ => 0)
 case atStart => exact ⟨rfl, rfl, rfl⟩
 case round =>
  obtain ⟨rfl, rfl, hww⟩ := hrel
  subst hww
  go_wp2_with fail
  go_loopw [10] (fun iv wr => ∃ (i : Nat) (vv : Value) (RR : List Mem) (uu : Value) (rr : Nat → List Value), iv = .int .i64 (i : Int) ∧ i ≤ 4 ∧ zHp w.heap.size pk mb v pw u w w3 vv RR uu (RR.map Mem.k) rr wr) (fun iv _ => 4 - (intOf iv).toNat)
  case atStart => exact ⟨0, v, R, u, rows, rfl, Nat.zero_le _, HI0.out⟩
  case round =>
   clear HI0
   obtain ⟨i, vv, RR, uu, rr, rfl, hi, hI⟩ := hrel
   have HI := D.zA0 hI
   clear hI
   by_cases hlt : i < 4
   · have hlt' : (i : Int) < 4 := by omega
     obtain ⟨r, hr, hcell⟩ := H4.out i hlt
     obtain ⟨k, hk, hok⟩ := HF.out r hr
     have hcv := HI.out.cls hk
     have hk' := hk
     obtain ⟨q1, e1, q2, e2, q3, e3, er, _⟩ := hk'
     cases er
     have HK := D.zA0 hk
     have HOK := D.zA0 hok
     have HCELL : Hid (∀ W, Blk W g cells 31 → W.cell? ⟨g, i * 5, none⟩ = some (.string k.nm) ∧ W.cell? ⟨g, i * 5 + 1, none⟩ = some (.string k.sup) ∧ W.cell? ⟨g, i * 5 + 2, none⟩ = some (.slice q1 k.pool.length e1) ∧ W.cell? ⟨g, i * 5 + 3, none⟩ = some (.slice q2 k.fs.length e2) ∧ W.cell? ⟨g, i * 5 + 4, none⟩ = some (.slice q3 k.ms.length e3)) := fun W hB => by
      have d0 := hB.cell (i * 5 + 0)
      have d1 := hB.cell (i * 5 + 1)
      have d2 := hB.cell (i * 5 + 2)
      have d3 := hB.cell (i * 5 + 3)
      have d4 := hB.cell (i * 5 + 4)
      rw [hcell 0 (by omega)] at d0
      rw [hcell 1 (by omega)] at d1
      rw [hcell 2 (by omega)] at d2
      rw [hcell 3 (by omega)] at d3
      rw [hcell 4 (by omega)] at d4
      exact ⟨d0, d1, d2, d3, d4⟩
     obtain ⟨d0, d1, d2, d3, d4⟩ := HCELL.out wr (HROW.out wr (HI.out.off g HGL.out HGO.out))
     have A := D.zA0 (zM0 w.heap.size wr pk mb vv RR HI.out.two.ko k _ hcv)
     clear hcell hk hcv hr hok
     have hz0 := zRg RR k
     go_upto_region 14 with (first | (go_at_call 12; refine A.out.mono ?_; rintro e w4 ⟨rfl, hA⟩))
     clear d0 d1 d2 d3 d4 A
     by_cases hz : refZ RR k = 0
     · rw [if_pos hz] at hA
       obtain ⟨v', b, hK, st, hown, hmem⟩ := hA
       have hkz : zG3 (RR.map Mem.k) k = 0 := by rw [← hz0]; exact hz
       have hnone := (zMh hz).2.1
       have HH := D.zA0 (HI.out.kadd hK st hown hmem hnone)
       have PI' := D.zA0 (HI.out.pi.add HOK.out.nat hkz)
       have HKZ := D.zA0 hkz
       have hlen := HI.out.pi.len
       have A := D.zA0 (zIc w.heap.size w4 pw uu (RR.map Mem.k) rr HH.out.two.ro HI.out.pi.wf HI.out.pi.en (by omega) k _ (HH.out.cls HK.out) HOK.out.nat HOK.out.ps HOK.out.ds)
       obtain ⟨d0, d1, d2, d3, d4⟩ := HCELL.out w4 (HROW.out w4 (HH.out.off g HGL.out HGO.out))
       clear hK st hown hmem hz hkz hnone hz0 hlen
       go_upto_region 12 with (first | (go_at_call 31; refine A.out.mono ?_; rintro e w5 ⟨z, rfl, _, hA⟩; have HA := D.zA0 hA; clear hA))
       clear d0 d1 d2 d3 d4 A
       have hA := HA.out
       rw [if_pos HKZ.out] at hA
       obtain ⟨u', row, hK, st, hown, hmem⟩ := hA
       have HE := D.zA0 (HH.out.radd hK st hown hmem PI'.out)
       clear hK st hown hmem HH HI
       go_wp2_with fail
       go_roundw
       case rel => exact ⟨i + 1, v', ⟨k, b⟩ :: RR, u', _, by go_num, by omega, HE.out⟩
       case measure => simp [intOf]; omega
     · rw [if_neg hz] at hA
       have hkz : zG3 (RR.map Mem.k) k ≠ 0 := by rw [← hz0]; exact hz
       have HH := D.zA0 (HI.out.below hA)
       have HKZ := D.zA0 hkz
       have hlen := HI.out.pi.len
       have A := D.zA0 (zIc w.heap.size w4 pw uu (RR.map Mem.k) rr HH.out.two.ro HI.out.pi.wf HI.out.pi.en (by omega) k _ (HH.out.cls HK.out) HOK.out.nat HOK.out.ps HOK.out.ds)
       obtain ⟨d0, d1, d2, d3, d4⟩ := HCELL.out w4 (HROW.out w4 (HH.out.off g HGL.out HGO.out))
       clear hz hkz hz0 hA hlen
       go_upto_region 12 with (first | (go_at_call 31; refine A.out.mono ?_; rintro e w5 ⟨z, rfl, _, hA⟩; have HA := D.zA0 hA; clear hA))
       clear d0 d1 d2 d3 d4 A
       have hA := HA.out
       rw [if_neg HKZ.out] at hA
       have HE := D.zA0 (HH.out.below hA)
       clear hA HH HI
       go_wp2_with fail
       go_roundw
       case rel => exact ⟨i + 1, vv, RR, uu, rr, by go_num, by omega, HE.out⟩
       case measure => simp [intOf]; omega
   · have hlt' : ¬ (i : Int) < 4 := by omega
     go_wp2_with fail
     go_returns
     obtain ⟨ao, c, _, hV⟩ := HI.out.two.ko.view
     refine ⟨pk, pw, RR, mb, ao, c, rfl, hV, HI.out.pi.wf, fun m hm => HI.out.pi.nm _ (List.mem_map_of_mem hm), HI.out.pi.ob, ?_, HI.out.bl⟩
     have := HI.out.pi.len
     rw [List.length_map] at this
     omega
end Go.Proofs.YtpehimfnkmepnaaGreat.Fr
namespace Go.Proofs.YtpehimfnkmepnaaGreat.Q
open Go.ChangeShapes Go.WideShapes Go.ChangeAt Go.RowKit
open Go.ChangeMaps (open_string shut_string)
theorem cells3 : Tryz.prog.cellsOf 3 = 1 := by kernel_rfl
theorem cells5 : Tryz.prog.cellsOf 5 = 1 := by kernel_rfl
theorem zE4 {W : World} {b o : Nat} {u : Value} (h : W.cell? ⟨b, o, none⟩ = some u) : b < W.heap.size := by
 apply Nat.lt_of_not_le
 intro hle
 have hn : W.heap[b]? = none := Array.getElem?_eq_none (by omega)
 simp [World.cell?, hn] at h
theorem trod_bytes {H : Type} {enc : TypeId × Value → H} {W : World} {fuel : Nat} {cs : List Value} {y : DataW H × List MemPlace}
 (ht : DataW.trod enc Tryz.prog W 0 (fun _ => true) true fuel 35 cs = some y) : ∃ ao cap l, cs = [.slice ao (List.length l) cap] ∧ View W (.slice ao (List.length l) cap) l := by
 rcases open_ints Tryz.underlying35 Tryz.underlying5 cells5 ht with ⟨rfl, _⟩ | ⟨x, len, cap, zs, rfl, _, hl, hm, hz, _, hcell, hwz⟩
 · exact ⟨none, 0, [], rfl, none, 0, rfl, Nat.le_refl _, by unfold maxLen; omega, fun x hx => by simp at hx, .inl rfl⟩
 · have hzl : zs.length = cap := by simpa using hz
   have e0 : (zs.take len).length = len := by rw [List.length_take, Nat.min_eq_left (by omega)]
   refine ⟨some x, cap, zs.take len, by rw [e0], some x, cap, rfl, by rw [e0]; omega, hm, ?_, ?_⟩
   · intro y hy
     have := hwz y (List.mem_of_mem_take hy)
     have := bounds_u8 this
     omega
   · by_cases h0 : len = 0
     · left; simp [h0]
     · right
       have h00 := hcell 0 (by omega)
       obtain ⟨b, o, sp⟩ := x
       have hsp : sp = none := by
        have e : (⟨b, o, sp⟩ : Addr).add 0 = ⟨b, o, sp⟩ := by unfold Addr.add; simp
        rw [e] at h00
        exact cell_spot h00
       subst hsp
       refine ⟨b, o, rfl, fun j y hj => ?_⟩
       have hj1 : j < len := by
        have := (List.getElem?_eq_some_iff.1 hj).1
        simp at this; omega
       have hj2 : zs[j]? = some y := by rwa [List.getElem?_take_of_lt hj1] at hj
       have hc := hcell j (by omega)
       have e : (⟨b, o, none⟩ : Addr).add j = ⟨b, o + j, none⟩ := by unfold Addr.add; split <;> simp_all
       rw [e] at hc
       rw [hc]
       simp [List.getD, hj2]
theorem zSu {H : Type} {enc : TypeId × Value → H} {W : World} {base : Nat} {v : Value} {d : DataW H} {p : List MemPlace} (hval : Value.okWide Tryz.prog W .any base 22 v)
 (h : DataW.Trod enc Tryz.prog W 0 (fun _ => true) true 22 v d p) : ∃ rl : List Int, ∃ ao cap, v = .slice ao rl.length cap ∧ rl.length ≤ cap ∧ cap ≤ maxLen ∧ (∀ x ∈ rl, -9223372036854775808 ≤ x ∧ x ≤ 9223372036854775807) ∧ (rl = [] ∨ ∃ g off, ao = some ⟨g, off, none⟩ ∧ g < W.heap.size ∧ g < W.heap.size ∧ ∀ (j : Nat) x, rl[j]? = some x → W.cell? ⟨g, off + j, none⟩ = some (.int .i64 x)) := by
 obtain ⟨a, len, cap, rfl⟩ := okWide_slice Tryz.underlying22 hval
 obtain ⟨fuel, hf⟩ := h
 rcases open_ints Tryz.underlying22 Tryz.underlying3 cells3 hf with ⟨hcs, hx⟩ | ⟨x, l, c, zs, hcs, _, hl, hm, hz, hx, hcell, hwz⟩
 · simp [Value.cells] at hcs
   obtain ⟨rfl, rfl, rfl⟩ := hcs
   exact ⟨[], none, 0, rfl, Nat.le_refl _, by unfold maxLen; omega, by simp, .inl rfl⟩
 · simp [Value.cells] at hcs
   obtain ⟨rfl, rfl, rfl⟩ := hcs
   have hzl : zs.length = cap := by simpa using hz
   refine ⟨zs.take len, some x, cap, ?_, ?_, hm, fun y hy => bounds_i64 (hwz y (List.mem_of_mem_take hy)), ?_⟩
   · rw [List.length_take, Nat.min_eq_left (by omega)]
   · rw [List.length_take]; omega
   · by_cases h0 : len = 0
     · left; simp [h0]
     · right
       have h00 := hcell 0 (by omega)
       obtain ⟨b, o, sp⟩ := x
       have hsp : sp = none := by
        have e : (⟨b, o, sp⟩ : Addr).add 0 = ⟨b, o, sp⟩ := by unfold Addr.add; simp
        rw [e] at h00
        exact cell_spot h00
       subst hsp
       have hb : b < W.heap.size := by
        have e : (⟨b, o, none⟩ : Addr).add 0 = ⟨b, o, none⟩ := by unfold Addr.add; simp
        rw [e] at h00
        exact zE4 h00
       refine ⟨b, o, rfl, hb, hb, fun j y hj => ?_⟩
       have hj1 : j < len := by
        have := (List.getElem?_eq_some_iff.1 hj).1
        simp at this; omega
       have hj2 : zs[j]? = some y := by rwa [List.getElem?_take_of_lt hj1] at hj
       have hc := hcell j (by omega)
       have e : (⟨b, o, none⟩ : Addr).add j = ⟨b, o + j, none⟩ := by unfold Addr.add; split <;> simp_all
       rw [e] at hc
       rw [hc]
       simp [List.getD, hj2]
end Go.Proofs.YtpehimfnkmepnaaGreat.Q
