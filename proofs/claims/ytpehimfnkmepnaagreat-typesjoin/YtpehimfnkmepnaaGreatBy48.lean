import Derived.Test.YtpehimfnkmepnaaGreatBy47
import Derived.Test.YtpehimfnkmepnaaGreatBy43
import Derived.Test.YtpehimfnkmepnaaGreatBy45
import Derived.Test.YtpehimfnkmepnaaGreatBy46
set_option maxRecDepth 8000
set_option maxHeartbeats 40000000
namespace Go.Proofs.YtpehimfnkmepnaaGreat.T
open Go.RowKit Q Q.D K
theorem zK8 (R : List KD) (n : Nat) (a b : ByteArray) : zHw R (n + 1) a b = if (zBs R a && zBs R b) = false then ⟨#[63]⟩ else zR2 R a b (zHw R n (eS a) (eS b)) := rfl
theorem zRc (w : World) (pk : Nat) (R : List Mem) (mb : Nat) (ao : Option Addr) (c : Nat) (h : KinV w pk R mb ao c) (hR : R.length ≤ 1000000) (hn : ∀ k ∈ R.map Mem.k, k.nm.size ≤ 1000000) (a b : ByteArray) (ha : a.size ≤ 9223372036854775000) (hb : b.size ≤ 9223372036854775000) :
 Calls Tryz.prog 25 #[.pointer (some ⟨pk, 0, none⟩), .string a, .string b] w fun e w' => e = .returned (.string (zQ0 (R.map Mem.k) a b)) ∧ Below w.heap.size w w' := by
 unfold zQ0
 rw [zK8]
 cases hk : (zBs (R.map Mem.k) a && zBs (R.map Mem.k) b)
 · rw [if_pos rfl]
   exact zRo w pk R mb ao c h a b ha hb hk
 · rw [if_neg (by simp)]
   obtain ⟨ka, kb⟩ := Bool.and_eq_true_iff.1 hk
   have la := zIn (zDu ka)
   have lb := zIn (zDu kb)
   have ea := zGg a
   have eb := zGg b
   refine zOh w pk R mb ao c h hR hn a b ka kb _ (Nat.le_trans (zMl hn 1 (eS a) (eS b)) (by omega)) (fun hbo W bW => ?_)
   have h2 : zD7 (eS a) (eS b) [91, 76] = false := by
    unfold zD7 at hbo ⊢
    rw [(zV8 (zDu ka) (Bool.and_eq_true_iff.1 hbo).1).2]
    rfl
   rw [zK8]
   cases hk2 : (zBs (R.map Mem.k) (eS a) && zBs (R.map Mem.k) (eS b))
   · rw [if_pos rfl]
     exact zRo W pk R mb ao c (h.below bW) _ _ (by omega) (by omega) hk2
   · rw [if_neg (by simp)]
     obtain ⟨ka2, kb2⟩ := Bool.and_eq_true_iff.1 hk2
     exact zOh W pk R mb ao c (h.below bW) hR hn _ _ ka2 kb2 _ (by unfold zHw; decide) (fun e => by rw [h2] at e; cases e)
theorem zO0 : ∀ k ∈ zBf.reverse, k.nm.size ≤ 1000000 := by
 intro k hk
 simp only [List.mem_reverse] at hk
 revert k
 decide
theorem ev1 : zPu zBf.reverse ⟨#[48]⟩ ⟨#[91, 73]⟩ = true := by kernel_rfl
theorem ev2 : zPu zBf.reverse ⟨#[91, 76, 73, 110, 100, 101, 120, 59]⟩ ⟨#[91, 76, 84, 104, 114, 111, 119, 97, 98, 108, 101, 59]⟩ = true := by kernel_rfl
theorem ev3 : zQ0 zBf.reverse ⟨#[76, 73, 110, 100, 101, 120, 59]⟩ ⟨#[76, 67, 97, 115, 116, 59]⟩ = ⟨#[76, 84, 104, 114, 111, 119, 97, 98, 108, 101, 59]⟩ := by kernel_rfl
theorem ev4 : zQ0 zBf.reverse ⟨#[73]⟩ ⟨#[48]⟩ = ⟨#[63]⟩ := by kernel_rfl
theorem ev5 : zBs zBf.reverse ⟨#[76, 78, 111, 110, 101, 59]⟩ = false := by kernel_rfl
theorem zJ8 (w : World) : Calls Tryz.prog 27 #[] w fun e w' => e = .returned (.bool true) ∧ Below w.heap.size w w' := by
 go_enter Tryz.func27, Tryz.ntmps27
 go_wp2_with fail
 refine (zNd w).mono ?_
 rintro e w1 ⟨pk, mb, v, R, rfl, KO, hR, B1⟩
 have hR' : R.map Mem.k = zBf.reverse := by rw [← hR, List.map_reverse, List.reverse_reverse]
 have hlen : R.length ≤ 1000000 := by have := congrArg List.length hR'; rw [List.length_map] at this; rw [this]; decide
 have hn : ∀ k ∈ R.map Mem.k, k.nm.size ≤ 1000000 := by rw [hR']; exact zO0
 obtain ⟨ao, c, hv, V⟩ := KO.view
 have HR := D.zA0 hR'
 have HN := D.zA0 hn
 have V1 := D.zA0 V
 clear KO hR hR' hv V hn
 go_wp2_with fail
 have C1 := D.zA0 (zQo w1 pk R mb ao c V1.out ⟨#[48]⟩ ⟨#[91, 73]⟩ (by decide) (by decide))
 rw [HR.out, ev1] at C1
 refine C1.out.mono ?_; rintro e w2 ⟨rfl, b2⟩
 have B2 := next B1 b2
 have V2 := D.zA0 (V1.out.below b2)
 clear C1 B1 V1 b2
 go_wp2_with fail
 have C2 := D.zA0 (zQo w2 pk R mb ao c V2.out ⟨#[91, 76, 73, 110, 100, 101, 120, 59]⟩ ⟨#[91, 76, 84, 104, 114, 111, 119, 97, 98, 108, 101, 59]⟩ (by decide) (by decide))
 rw [HR.out, ev2] at C2
 refine C2.out.mono ?_; rintro e w3 ⟨rfl, b3⟩
 have B3 := next B2 b3
 have V3 := D.zA0 (V2.out.below b3)
 clear C2 B2 V2 b3
 go_wp2_with fail
 have C3 := D.zA0 (zRc w3 pk R mb ao c V3.out hlen HN.out ⟨#[76, 73, 110, 100, 101, 120, 59]⟩ ⟨#[76, 67, 97, 115, 116, 59]⟩ (by decide) (by decide))
 rw [HR.out, ev3] at C3
 refine C3.out.mono ?_; rintro e w4 ⟨rfl, b4⟩
 have B4 := next B3 b4
 have V4 := D.zA0 (V3.out.below b4)
 clear C3 B3 V3 b4
 go_wp2_with fail
 have C4 := D.zA0 (zRc w4 pk R mb ao c V4.out hlen HN.out ⟨#[73]⟩ ⟨#[48]⟩ (by decide) (by decide))
 rw [HR.out, ev4] at C4
 refine C4.out.mono ?_; rintro e w5 ⟨rfl, b5⟩
 have B5 := next B4 b5
 have V5 := D.zA0 (V4.out.below b5)
 clear C4 B4 V4 b5
 go_wp2_with fail
 have C5 := D.zA0 (zFs w5 pk R mb ao c V5.out ⟨#[76, 78, 111, 110, 101, 59]⟩ (by decide))
 rw [HR.out, ev5] at C5
 refine C5.out.mono ?_; rintro e w6 ⟨rfl, b6⟩
 have B6 := next B5 b6
 have V6 := D.zA0 (V5.out.below b6)
 clear C5 B5 V5 b6
 go_wp2_with fail
 go_ret
 exact ⟨rfl, B6⟩
def BothQ (w : World) (e : Ending) (w' : World) : Prop := ∃ (pk pw : Nat) (R : List Mem) (mb : Nat) (ao : Option Addr) (c : Nat), e = .returned (.tuple #[.pointer (some ⟨pk, 0, none⟩), .pointer (some ⟨pw, 0, none⟩)]) ∧ KinV w' pk R mb ao c ∧ KWf (R.map Mem.k) ∧ (∀ m ∈ R, zC8 (bsB m.k.nm)) ∧ (∃ k, zAz (R.map Mem.k) zAc = some k) ∧ R.length ≤ 1000 ∧ Below w.heap.size w w'
theorem zH2 : ∀ {R : List KD} {k : KD}, k ∈ R → ∃ p, zAz R k.nm = some p
 | m :: o, k, h => by
   by_cases hs : k.nm = m.nm
   · exact ⟨m, zCf hs⟩
   · rcases List.mem_cons.1 h with rfl | h
     · exact absurd rfl hs
     · rw [zDb hs]
       exact zH2 h
theorem zGy {n : ByteArray} (h : zC8 (bsB n)) : n.size ≤ 64 := by rw [zA7]; exact h.2.1
theorem zIh {R : List KD} (t : Ty) (h : t.Ok R) : t.txt.size ≤ 1000 := by
 unfold Ty.txt
 rw [zDq]
 cases t with
 | l n => have := zGy h.1; simp [Ty.tb]; omega
 | al n => have := zGy h.1; simp [Ty.tb]; omega
 | i => decide
 | q => decide
 | z => decide
 | ai => decide
theorem all_ok {R : List Mem} (hn : ∀ m ∈ R, zC8 (bsB m.k.nm)) : ∀ t ∈ allL (R.reverse.map fun m => m.k.nm), t.Ok (R.map Mem.k) := fun t ht => by
 have hN : ∀ n ∈ R.reverse.map (fun m => m.k.nm), Nok (R.map Mem.k) n := fun n hq => by
  obtain ⟨m, hm, rfl⟩ := List.mem_map.1 hq
  have hm' := List.mem_reverse.1 hm
  exact ⟨hn m hm', zH2 (List.mem_map.2 ⟨m, hm', rfl⟩)⟩
 unfold allL at ht
 rcases List.mem_append.1 ht with ht | ht
 · simp at ht
   rcases ht with rfl | rfl | rfl | rfl <;> trivial
 · obtain ⟨n, hq, rfl | rfl⟩ := zOn _ _ t ht
   · exact hN n hq
   · exact hN n hq
theorem zOt : ∀ (ns : List ByteArray) (i : Nat), (allT ns i).length ≤ 2 * ns.length
 | [], _ => Nat.le_refl _
 | n :: r, i => by
   have := zOt r (i + 1)
   rw [zJa]
   simp only [List.length_cons, List.length_append]
   have h1 : (if i % 3 = 0 then [Ty.al n] else []).length ≤ 1 := by split <;> simp
   omega
theorem zV4 (n : Int) {m : Nat} (h : 0 < m) : atZ n m < m := Nat.mod_lt _ h
end Go.Proofs.YtpehimfnkmepnaaGreat.T
namespace Go.Proofs.YtpehimfnkmepnaaGreat.Fr
open Go.RowKit Q Q.D K T
def offB (pk mb : Nat) (v : Value) (pw : Nat) (u : Value) (b : Nat) : Bool := offK pk mb v b && offR pw u b
theorem zBx {pk mb : Nat} {v : Value} {pw : Nat} {u : Value} {b : Nat} : offB pk mb v pw u b = true ↔ (b ≠ pk ∧ b ≠ mb ∧ v.ownBlock ≠ some b) ∧ b ≠ pw ∧ u.ownBlock ≠ some b := by unfold offB; rw [Bool.and_eq_true, zCt, zF1]
structure Two (n0 : Nat) (W : World) (pk mb : Nat) (v : Value) (R : List Mem) (pw : Nat) (u : Value) (S : List KD) (rows : Nat → List Value) : Prop where
 ko : KinO n0 W pk mb v R
 ro : RKO n0 W pw u S rows
 km : Mems (K.seen (offB pk mb v pw u) W) R
 rc : ∀ j x, S.reverse[j]? = some x → zAg (K.seen (offB pk mb v pw u) W) (.agg (rows j).toArray) x
theorem Two.apart {n0 : Nat} {W : World} {pk mb : Nat} {v : Value} {R : List Mem} {pw : Nat} {u : Value} {S : List KD} {rows : Nat → List Value} (h : Two n0 W pk mb v R pw u S rows) :
 pk ≠ pw ∧ mb ≠ pw ∧ v.ownBlock ≠ some pw ∧ u.ownBlock ≠ some pk ∧ u.ownBlock ≠ some mb ∧ ∀ g, v.ownBlock = some g → u.ownBlock ≠ some g := by
 refine ⟨?_, ?_, zAx h.ko.own h.ro.box (by decide), zAx h.ro.own h.ko.box (by decide), ?_, ?_⟩
 · intro e
   have a : _ = _ := h.ko.box
   have b : _ = _ := h.ro.box
   rw [← e, a] at b
   simp at b
 · intro e
   obtain ⟨es, n, hm, _⟩ := h.ko.map
   have b : _ = _ := h.ro.box
   rw [← e, hm] at b
   cases b
 · intro e
   obtain ⟨c, fz, hk⟩ := Lib.ownsRow_kind h.ro.own mb e
   obtain ⟨es, n, hm, _⟩ := h.ko.map
   rw [hm] at hk
   cases hk
 · intro g e1 e2
   obtain ⟨c, fz, hk⟩ := Lib.ownsRow_kind h.ro.own g e2
   obtain ⟨c', fz', hk'⟩ := Lib.ownsRow_kind h.ko.own g e1
   rw [hk] at hk'
   simp at hk'
theorem Two.below {n0 : Nat} {W W' : World} {pk mb : Nat} {v : Value} {R : List Mem} {pw : Nat} {u : Value} {S : List KD} {rows : Nat → List Value} (h : Two n0 W pk mb v R pw u S rows) (hb : Below W.heap.size W W') : Two n0 W' pk mb v R pw u S rows :=
 have E : Ext (K.seen (offB pk mb v pw u) W) (K.seen (offB pk mb v pw u) W') := zAf hb.size (fun b hb' hx => ⟨hx, hb.block b hb'⟩)
 ⟨h.ko.below hb, h.ro.below hb, h.km.ext E, fun j x hx => zAg.ext' E (h.rc j x hx)⟩
theorem Two.kadd {n0 : Nat} {W W' : World} {pk mb : Nat} {v v' : Value} {R : List Mem} {pw : Nat} {u : Value} {S : List KD} {rows : Nat → List Value} {k : KD} {b : Nat} (h : Two n0 W pk mb v R pw u S rows) (hK : KinO n0 W' pk mb v' (⟨k, b⟩ :: R)) (st : zGr pk mb v W W') (hown : ∀ g, v'.ownBlock = some g → v.ownBlock = some g ∨ W.heap.size ≤ g)
 (hm : zGd (K.seen (offG (newB W.heap.size) pk mb v') W') ⟨k, b⟩ (zBm R k.sup)) (hn : zBm R k.nm = none) : Two n0 W' pk mb v' (⟨k, b⟩ :: R) pw u S rows := by
 obtain ⟨a1, a2, a3, a4, a5, a6⟩ := h.apart
 have hpw := h.ro.box.lt
 have hu := fun g hg => (h.ro.own.lt g hg).2
 have E : Ext (K.seen (offB pk mb v pw u) W) (K.seen (offB pk mb v' pw u) W') := zAf st.size (fun b hb hx => by
  obtain ⟨⟨x1, x2, x3⟩, x4, x5⟩ := zBx.1 hx
  exact ⟨zBx.2 ⟨⟨x1, x2, fun e => (hown b e).elim x3 (fun h => by omega)⟩, x4, x5⟩, st.block b hb x1 x2 x3⟩)
 have N : Ext (K.seen (offG (newB W.heap.size) pk mb v') W') (K.seen (offB pk mb v' pw u) W') := zAf (Nat.le_refl _) (fun b _ hx => by
  obtain ⟨y1, y2⟩ := zF4.1 hx
  simp only [newB, decide_eq_true_eq] at y2
  exact ⟨zBx.2 ⟨zCt.1 y1, by omega, fun e => by have := hu b e; omega⟩, rfl⟩)
 have O : Ext (K.seen (offB pk mb v' pw u) W') (K.seen (offR pw u) W') := zAf (Nat.le_refl _) (fun b _ hx => ⟨zF1.2 (zBx.1 hx).2, rfl⟩)
 exact ⟨hK, ⟨h.ro.hpw, (st.block pw hpw a1.symm a2.symm a3).trans h.ro.box, M.zA3 h.ro.own (zN6 h.ko st (by decide) (by decide)), h.ro.k, fun j x hx => zAg.ext' (E.trans O) (h.rc j x hx)⟩, ⟨hm.ext N, hn, h.km.ext E⟩, fun j x hx => zAg.ext' E (h.rc j x hx)⟩
theorem zOa {n0 : Nat} {w w' : World} {pw : Nat} {u : Value} {S : List KD} {rows : Nat → List Value} (h : RKO n0 w pw u S rows) (st : zL9 pw u w w') {T : TypeId} (h1 : T ≠ 31) (h2 : T ≠ 127) : M.Same T w w' := fun g cur hg => by
 rw [st.block g (Array.getElem?_eq_some_iff.1 hg).1 ?_ ?_]
 · exact hg
 · rintro rfl
   have hb : _ = _ := h.box
   rw [hb] at hg
   cases hg
   exact h2 rfl
 · intro e
   obtain ⟨c, fz, hk⟩ := Lib.ownsRow_kind h.own g e
   rw [hk] at hg
   cases hg
   exact h1 rfl
theorem zL9.below {n0 : Nat} {W W' : World} {pw : Nat} {u : Value} {S : List KD} {rows : Nat → List Value} (h : RKO n0 W pw u S rows) (st : zL9 pw u W W') : Below n0 W W' :=
 ⟨st.os, st.tape, st.output, st.size, fun b hb => st.block b (by have := h.hpw; have := h.box.lt; omega) (by have := h.hpw; omega) (fun e => by have := (h.own.lt b e).1; omega)⟩
theorem Two.radd {n0 : Nat} {W W' : World} {pk mb : Nat} {v : Value} {R : List Mem} {pw : Nat} {u u' : Value} {S : List KD} {rows : Nat → List Value} {k : KD} {row : List Value} (h : Two n0 W pk mb v R pw u S rows) (hK : RKO n0 W' pw u' (k :: S) (fun j => if j < S.length then rows j else row)) (st : zL9 pw u W W') (hown : ∀ g, u'.ownBlock = some g → u.ownBlock = some g ∨ W.heap.size ≤ g)
 (hm : zAg (K.seen (fun b => offR pw u' b && newB W.heap.size b) W') (.agg row.toArray) k) : Two n0 W' pk mb v R pw u' (k :: S) (fun j => if j < S.length then rows j else row) := by
 obtain ⟨a1, a2, a3, a4, a5, a6⟩ := h.apart
 have hpk := h.ko.box.lt
 have hmb := h.ko.map.lt
 have hu := fun g hg => (h.ko.own.lt g hg).2
 have E : Ext (K.seen (offB pk mb v pw u) W) (K.seen (offB pk mb v pw u') W') := zAf st.size (fun b hb hx => by
  obtain ⟨x1, x4, x5⟩ := zBx.1 hx
  exact ⟨zBx.2 ⟨x1, x4, fun e => (hown b e).elim x5 (fun h => by omega)⟩, st.block b hb x4 x5⟩)
 have N : Ext (K.seen (fun b => offR pw u' b && newB W.heap.size b) W') (K.seen (offB pk mb v pw u') W') := zAf (Nat.le_refl _) (fun b _ hx => by
  rw [Bool.and_eq_true] at hx
  obtain ⟨y1, y2⟩ := hx
  simp only [newB, decide_eq_true_eq] at y2
  exact ⟨zBx.2 ⟨⟨by omega, by omega, fun e => by have := hu b e; omega⟩, zF1.1 y1⟩, rfl⟩)
 have O : Ext (K.seen (offB pk mb v pw u') W') (K.seen (offK pk mb v) W') := zAf (Nat.le_refl _) (fun b _ hx => ⟨zCt.2 (zBx.1 hx).1, rfl⟩)
 refine ⟨⟨h.ko.hpk, h.ko.hmb, (st.block pk hpk a1 a4).trans h.ko.box, M.zA3 h.ko.own (zOa h.ro st (by decide) (by decide)), h.ko.map.kept (st.block mb hmb a2 a5), h.km.ext (E.trans O)⟩, hK, h.km.ext E, fun j x hx => ?_⟩
 rw [List.reverse_cons] at hx
 by_cases hj : j < S.length
 · rw [List.getElem?_append_left (by simpa using hj)] at hx
   simp only [if_pos hj]
   exact zAg.ext' E (h.rc j x hx)
 · rw [List.getElem?_append_right (by simp; omega)] at hx
   have : j - S.reverse.length = 0 := by
    rcases Nat.eq_zero_or_pos (j - S.reverse.length) with e | e
    · exact e
    · rw [List.getElem?_eq_none (by simp; simp at e; omega)] at hx; cases hx
   rw [this] at hx
   simp at hx
   subst hx
   simp only [if_neg hj]
   exact zAg.ext' N hm
structure PI (ks : List KD) : Prop where
 wf : KWf ks
 en : KEnd ks
 nm : ∀ k ∈ ks, zC8 (bsB k.nm)
 ob : ∃ k, zAz ks zAc = some k
 len : ks.length ≤ 32
theorem PI.given : PI zBf.reverse := by
 refine ⟨zR8, ⟨fun k hk => ?_, fun k hk => ?_⟩, fun k hk => ?_, ⟨zB9, by kernel_rfl⟩, by decide +kernel⟩
 · have : ∀ k ∈ zBf.reverse, k.nm ≠ ⟨#[]⟩ := by decide +kernel
   exact this k hk
 · have e : zBf.reverse.getLast? = some zB9 := by kernel_rfl
   rw [e] at hk
   cases hk
   rfl
 · have : ∀ k ∈ zBf.reverse, zAw (bsB k.nm) = true := by decide +kernel
   exact (zC9 _).1 (this k hk)
theorem PI.add {ks : List KD} {k : KD} (h : PI ks) (hn : ∀ m ∈ k.ms, m.nat = false) (hz : zG5 ks k = 0) : PI (k :: ks) := by
 obtain ⟨o, o1, o2, _, _⟩ := (zM0 ks k hn).1 hz
 have hname := (zC9 _).1 o.n
 have hne : k.nm ≠ ⟨#[]⟩ := fun e => by rw [e] at hname; exact absurd hname.1 (by decide)
 obtain ⟨p, hp⟩ := h.ob
 refine ⟨h.wf.add hz, ⟨fun x hx => ?_, fun x hx => ?_⟩, fun x hx => ?_, ?_, by simp; omega⟩
 · rcases List.mem_cons.1 hx with rfl | hx
   · exact hne
   · exact h.en.1 x hx
 · cases hks : ks with
   | nil => rw [hks] at hp; simp [zAz] at hp
   | cons a l => rw [hks, List.getLast?_cons_cons] at hx; exact h.en.2 x (by rw [hks]; exact hx)
 · rcases List.mem_cons.1 hx with rfl | hx
   · exact hname
   · exact h.nm x hx
 · by_cases e : zAc = k.nm
   · exact ⟨k, zCf e⟩
   · exact ⟨p, by rw [zDb e]; exact hp⟩
structure zHv (n0 pk mb : Nat) (v0 : Value) (pw : Nat) (u0 : Value) (w wm : World) (v : Value) (R : List Mem) (u : Value) (S : List KD) (rows : Nat → List Value) (W : World) : Prop where
 two : Two n0 W pk mb v R pw u S rows
 pi : PI S
 sz : wm.heap.size ≤ W.heap.size
 off : ∀ b, b < wm.heap.size → offB pk mb v0 pw u0 b = true → W.heap[b]? = wm.heap[b]?
 vo : ∀ g, v.ownBlock = some g → v0.ownBlock = some g ∨ wm.heap.size ≤ g
 uo : ∀ g, u.ownBlock = some g → u0.ownBlock = some g ∨ wm.heap.size ≤ g
 bl : Below n0 w W
theorem Two.n0le {n0 : Nat} {W : World} {pk mb : Nat} {v : Value} {R : List Mem} {pw : Nat} {u : Value} {S : List KD} {rows : Nat → List Value} (h : Two n0 W pk mb v R pw u S rows) : n0 ≤ W.heap.size := by have := h.ko.hpk; have := h.ko.box.lt; omega
theorem zHv.below {n0 pk mb : Nat} {v0 : Value} {pw : Nat} {u0 : Value} {w wm : World} {v : Value} {R : List Mem} {u : Value} {S : List KD} {rows : Nat → List Value} {W W' : World} (h : zHv n0 pk mb v0 pw u0 w wm v R u S rows W) (hb : Below W.heap.size W W') : zHv n0 pk mb v0 pw u0 w wm v R u S rows W' :=
 ⟨h.two.below hb, h.pi, Nat.le_trans h.sz hb.size, fun b hl hx => (hb.block b (Nat.lt_of_lt_of_le hl h.sz)).trans (h.off b hl hx), h.vo, h.uo, h.bl.trans (hb.mono h.two.n0le)⟩
theorem zHv.kadd {n0 pk mb : Nat} {v0 : Value} {pw : Nat} {u0 : Value} {w wm : World} {v v' : Value} {R : List Mem} {u : Value} {S : List KD} {rows : Nat → List Value} {W W' : World} {k : KD} {b : Nat} (h : zHv n0 pk mb v0 pw u0 w wm v R u S rows W) (hK : KinO n0 W' pk mb v' (⟨k, b⟩ :: R)) (st : zGr pk mb v W W') (hown : ∀ g, v'.ownBlock = some g → v.ownBlock = some g ∨ W.heap.size ≤ g)
 (hm : zGd (K.seen (offG (newB W.heap.size) pk mb v') W') ⟨k, b⟩ (zBm R k.sup)) (hn : zBm R k.nm = none) : zHv n0 pk mb v0 pw u0 w wm v' (⟨k, b⟩ :: R) u S rows W' := by
 have hs := h.sz
 refine ⟨h.two.kadd hK st hown hm hn, h.pi, Nat.le_trans h.sz st.size, fun b hl hx => ?_, fun g hg => ?_, h.uo, h.bl.trans (zGr.below h.two.ko st)⟩
 · obtain ⟨⟨x1, x2, x3⟩, _⟩ := zBx.1 hx
   rw [st.block b (by omega) x1 x2 (fun e => (h.vo b e).elim x3 (fun h => by omega))]
   exact h.off b hl hx
 · rcases hown g hg with e | e
   · exact h.vo g e
   · exact .inr (by omega)
theorem zHv.radd {n0 pk mb : Nat} {v0 : Value} {pw : Nat} {u0 : Value} {w wm : World} {v : Value} {R : List Mem} {u u' : Value} {S : List KD} {rows : Nat → List Value} {W W' : World} {k : KD} {row : List Value} (h : zHv n0 pk mb v0 pw u0 w wm v R u S rows W) (hK : RKO n0 W' pw u' (k :: S) (fun j => if j < S.length then rows j else row)) (st : zL9 pw u W W') (hown : ∀ g, u'.ownBlock = some g → u.ownBlock = some g ∨ W.heap.size ≤ g)
 (hm : zAg (K.seen (fun b => offR pw u' b && newB W.heap.size b) W') (.agg row.toArray) k) (hp : PI (k :: S)) : zHv n0 pk mb v0 pw u0 w wm v R u' (k :: S) (fun j => if j < S.length then rows j else row) W' := by
 have hs := h.sz
 refine ⟨h.two.radd hK st hown hm, hp, Nat.le_trans h.sz st.size, fun b hl hx => ?_, h.vo, fun g hg => ?_, h.bl.trans (zL9.below h.two.ro st)⟩
 · obtain ⟨_, x4, x5⟩ := zBx.1 hx
   rw [st.block b (by omega) x4 (fun e => (h.uo b e).elim x5 (fun h => by omega))]
   exact h.off b hl hx
 · rcases hown g hg with e | e
   · exact h.uo g e
   · exact .inr (by omega)
def offZ (pk mb : Nat) (v : Value) (pw : Nat) (u : Value) (n : Nat) (b : Nat) : Bool := offB pk mb v pw u b && decide (b < n)
theorem zHv.cls {n0 pk mb : Nat} {v0 : Value} {pw : Nat} {u0 : Value} {w wm : World} {v : Value} {R : List Mem} {u : Value} {S : List KD} {rows : Nat → List Value} {W : World} (h : zHv n0 pk mb v0 pw u0 w wm v R u S rows W) {cv : Value} {k : KD} (hc : zAg (K.seen (offZ pk mb v0 pw u0 wm.heap.size) wm) cv k) : zAg W cv k :=
 zAg.ext' ((zAf (Y := fun _ => true) h.sz (fun b hb hx => ⟨rfl, by
  unfold offZ at hx
  rw [Bool.and_eq_true] at hx
  exact h.off b hb hx.1⟩)).trans (zF7 _ _)) hc
theorem zNu {X : Nat → Bool} {w : World} {b : Nat} {r : Array Value} {nm sup : ByteArray} {fs : List (ByteArray × ByteArray × Bool)} {pool : List M.CD} {ms : List (M.BK × M.SG)} (h : M.zC0 w b r nm sup fs pool ms) (hT : ∀ T, T ≠ 9 → T ≠ 99 → T ≠ 31 → T ≠ 127 → M.Same T w (K.seen X w))
 (hs : ∀ (g : Nat) (cur : Array Value), w.heap[g]? = some (.cells cur 9 (0, 0)) → cur[0]? ≠ some (.string zAc) → X g = true) : M.zC0 (K.seen X w) b r nm sup fs pool ms := by
 obtain ⟨vp, vf, vm, e, ⟨h1, h1'⟩, h2, rows, h3, h4, h5⟩ := h
 refine ⟨vp, vf, vm, e, ⟨M.zA3 h1 (hT _ (by decide) (by decide) (by decide) (by decide)), h1'⟩, ?_, rows, h3, M.zA3 h4 (hT _ (by decide) (by decide) (by decide) (by decide)), fun j m r hm hr => ?_⟩
 · rcases h2 with h2 | ⟨g, e, hg⟩
   · exact .inl h2
   · exact .inr ⟨g, e, hT _ (by decide) (by decide) (by decide) (by decide) _ _ hg⟩
 · obtain ⟨vc, vh, vf, fs, e, k1, k2, k3, k4⟩ := h5 j m r hm hr
   exact ⟨vc, vh, vf, fs, e, M.zA3 k1 (hT _ (by decide) (by decide) (by decide) (by decide)), M.zA3 k2 (hT _ (by decide) (by decide) (by decide) (by decide)), M.zA3 k3 (hT _ (by decide) (by decide) (by decide) (by decide)), k4.1, fun j y z hy hz => zWp (k4.2 j y z hy hz) hs⟩
theorem Two.clies {n0 : Nat} {w : World} {pk mb : Nat} {v : Value} {R : List Mem} {pw : Nat} {u : Value} {S : List KD} {rows : Nat → List Value} (h : Two n0 w pk mb v R pw u S rows) {R' : List KD} (hR : R.reverse.map Mem.k = zB9 :: R') {b : Nat} {r : Array Value} {nm sup : ByteArray} {fs : List (ByteArray × ByteArray × Bool)} {pool : List M.CD} {ms : List (M.BK × M.SG)} (hc : M.zC0 w b r nm sup fs pool ms) :
 M.zC0 (K.seen (offZ pk mb v pw u w.heap.size) w) b r nm sup fs pool ms := by
 have key : ∀ (g : Nat) (cur : Array Value) (T : TypeId), w.heap[g]? = some (.cells cur T (0, 0)) → T ≠ 99 → T ≠ 31 → T ≠ 127 → (T = 9 → cur[0]? ≠ some (.string zAc)) → offZ pk mb v pw u w.heap.size g = true := fun g cur T hg h2 h3 h4 hs => by
  unfold offZ
  rw [Bool.and_eq_true, zBx, decide_eq_true_eq]
  refine ⟨⟨⟨?_, ?_, ?_⟩, ?_, ?_⟩, (Array.getElem?_eq_some_iff.1 hg).1⟩
  · rintro rfl
    have hb : _ = _ := h.ko.box
    rw [hb] at hg
    cases hg
    exact h2 rfl
  · rintro rfl
    obtain ⟨es, n, hm, _⟩ := h.ko.map
    rw [hm] at hg
    cases hg
  · intro e
    obtain ⟨cur', hc', h0⟩ := zN5 h.ko hR e
    rw [hc'] at hg
    cases hg
    exact hs rfl h0
  · rintro rfl
    have hb : _ = _ := h.ro.box
    rw [hb] at hg
    cases hg
    exact h4 rfl
  · intro e
    obtain ⟨c, fz, hk⟩ := Lib.ownsRow_kind h.ro.own g e
    rw [hk] at hg
    cases hg
    exact h3 rfl
 exact zNu hc (fun T t1 t2 t3 t4 => zRb (fun g cur hg => key g cur T hg t2 t3 t4 (fun e => absurd e t1))) (fun g cur hg hne => key g cur _ hg (by decide) (by decide) (by decide) (fun _ => hne))
theorem zO4 {c : P3.CD} (h : P3.zB2 c = true) : c.Small := by
 have hn : ∀ s : ByteArray, P3.D.zAw (bsB s) = true → s.size ≤ 1073741824 := fun s hs => by
  have := ((P3.D.zC9 _).1 hs).2.1
  rw [zA7]; exact Nat.le_trans this (by decide)
 have hf : ∀ s : ByteArray, P3.D.zAp (bsB s) = true → s.size ≤ 1073741824 := fun s hs => by
  have := P3.D.zJk ((P3.D.zBp _).1 hs)
  rw [zA7]; exact Nat.le_trans this (by decide)
 have he : ∀ s : ByteArray, P3.zCp s = true → s.size ≤ 1073741824 := fun s hs => by
  unfold P3.zCp at hs
  have : s.toList = [] := by simpa using hs
  rw [Lib.toList_data] at this
  rw [zA7]
  simp [this]
 have hcl : ∀ s : ByteArray, P3.zFf s = true → s.size ≤ 1073741824 := fun s hs => by
  unfold P3.zFf at hs
  rw [Bool.or_eq_true] at hs
  rcases hs with hs | hs
  · unfold P3.D.zEm at hs
    split at hs
    · rename_i h0; exact hf s h0.1
    · cases hs
  · exact hn s hs
 unfold P3.zB2 at h
 split at h
 · simp only [Bool.and_eq_true] at h
   exact ⟨he _ h.1.1, he _ h.1.2, he _ h.2⟩
 · split at h
   · simp only [Bool.and_eq_true] at h
     exact ⟨hcl _ h.1.1.2, he _ h.1.2, he _ h.2⟩
   · split at h
     · simp only [Bool.and_eq_true, P3.zDa] at h
       exact ⟨hn _ h.1.2.1, hn _ h.1.2.2, hf _ h.2⟩
     · split at h
       · simp only [Bool.and_eq_true, P3.zDa, P3.zBr, decide_eq_true_eq] at h
         exact ⟨hn _ h.1.2.1, hn _ h.1.2.2, by omega⟩
       · cases h
structure AddOk (k : KD) : Prop where
 nat : ∀ m ∈ k.ms, m.nat = false
 ps : ∀ c ∈ k.pool, (pc c).Small
 ds : ∀ m ∈ k.ms, m.ds.size ≤ 1073741824
theorem zLk {nm sup : ByteArray} {fs : List (ByteArray × ByteArray × Bool)} {pool : List M.CD} {ms : List (M.BK × M.SG)} (hp : ∀ c ∈ pool, P3.zB2 c = true) : AddOk (M.kdOf nm sup fs pool ms) := by
 refine ⟨fun m hm => ?_, fun c hc => ?_, fun m hm => ?_⟩
 · simp only [M.kdOf, List.mem_map] at hm
   obtain ⟨x, _, rfl⟩ := hm
   rfl
 · simp only [M.kdOf, List.mem_map] at hc
   obtain ⟨x, hx, rfl⟩ := hc
   exact zO4 (hp x hx)
 · simp only [M.kdOf, List.mem_map] at hm
   obtain ⟨x, _, rfl⟩ := hm
   show x.1.ds.size ≤ 1073741824
   cases x.1 <;> decide
theorem zT4 {n0 : Nat} {w w' : World} {pk mb : Nat} {v : Value} {R : List Mem} {pw : Nat} {u : Value} {S : List KD} {rows : Nat → List Value} (h : Two n0 w' pk mb v R pw u S rows) {R' : List KD} (hR : R.reverse.map Mem.k = zB9 :: R') {e : Ending} (hq : M.zGs w e w') :
 ∃ g cA cB cT cC, e = .returned (.slice (some ⟨g, 0, none⟩) 4 4) ∧ w.heap.size ≤ g ∧ w'.heap[g]? = some (.cells (cA ++ cB ++ cT ++ cC) 31 (0, 0)) ∧ Below w.heap.size w w' ∧ (cA.size = 5 ∧ cB.size = 5 ∧ cT.size = 5) ∧ ∀ r, (r = cA ∨ r = cB ∨ r = cT ∨ r = cC) → ∃ k, zAg (K.seen (offZ pk mb v pw u w'.heap.size) w') (.agg r) k ∧ AddOk k := by
 obtain ⟨g, cA, cB, cT, cC, σa, ob, σt, σm, σc, hI, he, hg, hrow, hb, lA, lB, lT, lC⟩ := hq
 have pA := M.zEp hI.a (by simp)
 have pT := M.zEp hI.t (by simp)
 have pM := M.zEp hI.m (by simp)
 have pC := M.zEp hI.c pM
 have pB : ∀ c ∈ M.zRt ob, P3.zB2 c = true := by
  cases ob with
  | none => intro c hc; simp [M.zRt] at hc
  | some σ => exact M.zEp (hI.b σ rfl) (by simp)
 refine ⟨g, cA, cB, cT, cC, he, hg, hrow, hb, ⟨(zGi lA).1, (zGi lB).1, (zGi lT).1⟩, fun r hr => ?_⟩
 rcases hr with rfl | rfl | rfl | rfl
 · exact ⟨_, M.zG1 (h.clies hR lA) (by decide) (by decide) (by decide) (by decide), zLk pA⟩
 · exact ⟨_, M.zG1 (h.clies hR lB) (by decide) (by decide) (by decide) (by decide), zLk pB⟩
 · exact ⟨_, M.zG1 (h.clies hR lT) (by decide) (by decide) (by decide) (by decide), zLk pT⟩
 · exact ⟨_, M.zG1 (h.clies hR lC) (by decide) (by decide) (by decide) (by decide), zLk pC⟩
theorem zK3 {w w' : World} {e : Ending} (hq : M.zGs w e w') : Below w.heap.size w w' := by
 obtain ⟨_, _, _, _, _, _, _, _, _, _, _, _, _, _, hb, _⟩ := hq
 exact hb
theorem zWq {w w1 w2 : World} {pk mb : Nat} {v : Value} {R : List Mem} {u : Value} {rows : Nat → List Value} (KO : KinO w.heap.size w1 pk mb v R) (hR : R.reverse.map Mem.k = zBf) (B1 : Below w.heap.size w w1) (I : GvI (putK w1 u) w2 u zBf rows) :
 Two w.heap.size w2 pk mb v R w1.heap.size u (R.map Mem.k) rows ∧ Below w1.heap.size w1 w2 := by
 have hRk : R.map Mem.k = zBf.reverse := by rw [← hR, List.map_reverse, List.reverse_reverse]
 have e0 : (putK w1 u).heap.size = w1.heap.size + 1 := by simp [putK]
 have hb : Below w1.heap.size w1 w2 := by
  have := I.B
  rw [e0] at this
  exact (zA6 w1 (.cells #[u] 127)).trans (this.mono (by omega))
 have hs := B1.size
 have ho := I.o
 rw [e0] at ho
 have hur : ∀ g, u.ownBlock = some g → w1.heap.size + 1 ≤ g := fun g hg => (ho.lt g hg).1
 have hvr : ∀ g, v.ownBlock = some g → g < w1.heap.size := fun g hg => (KO.own.lt g hg).2
 have hpk := KO.box.lt
 have hmb := KO.map.lt
 have cl : ∀ j x, zBf[j]? = some x → zAg (K.seen (offB pk mb v w1.heap.size u) w2) (.agg (rows j).toArray) x := fun j x hx => by
  have := I.r j x hx
  rw [e0] at this
  refine zAg.ext' (zAf (Nat.le_refl _) (fun b _ hx => ⟨?_, rfl⟩)) this
  simp only [zAd, Bool.and_eq_true, decide_eq_true_eq, bne_iff_ne] at hx
  exact zBx.2 ⟨⟨by omega, by omega, fun e => by have := hvr b e; omega⟩, by omega, hx.2⟩
 refine ⟨⟨KO.below hb, ⟨hs, I.box, ?_, ?_, fun j x hx => ?_⟩, KO.mems.ext (zAf hb.size (fun b hb' hx => ⟨?_, hb.block b hb'⟩)), fun j x hx => ?_⟩, hb⟩
 · rw [hRk, List.length_reverse]
   exact zCc ho (by omega)
 · rw [hRk, List.length_reverse]; exact I.k
 · rw [hRk, List.reverse_reverse] at hx
   exact zAg.ext' (zAf (Nat.le_refl _) (fun b _ hx => ⟨zF1.2 (zBx.1 hx).2, rfl⟩)) (cl j x hx)
 · exact zBx.2 ⟨zCt.1 hx, by omega, fun e => by have := hur b e; omega⟩
 · rw [hRk, List.reverse_reverse] at hx
   exact cl j x hx
theorem zUf (w : World) (vr : Value) (rl : List Int) (hr : M.NV w.heap.size w.heap.size w vr rl) :
 Calls Tryz.prog 18 #[.slice none 0 0, vr] w fun e w' => BothQ w e w' := by
 have HR := D.zA0 hr
 obtain ⟨aor, capr, rfl⟩ : ∃ ao cap, vr = .slice ao rl.length cap := by obtain ⟨ao, cap, e, _⟩ := hr; exact ⟨ao, cap, e⟩
 clear hr
 go_enter Tryz.func18, Tryz.ntmps18
 go_upto_region 2 with (first | (go_at_call 9; refine (zNd w).mono ?_; rintro e w1 ⟨pk, mb, v, R, rfl, KO, hR, B1⟩))
 have HKO := D.zA0 KO
 have HRk := D.zA0 hR
 have HB1 := D.zA0 B1
 have G2 := D.zA0 (zUg w1)
 clear KO hR B1
 go_upto_region 3 with (first | (go_at_call 30; refine G2.out.mono ?_; rintro e w2 ⟨u, rows, rfl, I⟩))
 obtain ⟨T2, b2⟩ := zWq HKO.out HRk.out HB1.out I
 have HT2 := D.zA0 T2
 have B2 := HB1.out.trans (b2.mono HB1.out.size)
 have HB2 := D.zA0 B2
 have HMC := D.zA0 (M.zNp _ rl w2 (nv_up HR.out B2 B2.size))
 have hRob : R.reverse.map Mem.k = zB9 :: zBf.tail := by rw [HRk.out]; rfl
 have HROB := D.zA0 hRob
 clear B2 I T2 b2 hRob G2 HR
 generalize w1.heap.size = pw at *
 go_upto_region 6 with (first | (go_at_call 10; refine HMC.out.mono ?_; intro e w3 hq; obtain ⟨g, cA, cB, cT, cC, rfl, hg, hrow, b3, ⟨sA', sB', sT'⟩, hfour⟩ := zT4 (HT2.out.below (zK3 hq)) HROB.out hq))
 have H4 := D.zA0 (cells4 sA' sB' sT' (cC := cC))
 have HF := D.zA0 hfour
 have hgo : offB pk mb v pw u g = true := by
  have a1 := HT2.out.ko.box.lt
  have a2 := HT2.out.ko.map.lt
  have a3 := fun b hb => (HT2.out.ko.own.lt b hb).2
  have a4 := HT2.out.ro.box.lt
  have a5 := fun b hb => (HT2.out.ro.own.lt b hb).2
  exact zBx.2 ⟨⟨by omega, by omega, fun e => by have := a3 g e; omega⟩, by omega, fun e => by have := a5 g e; omega⟩
 have hgl : g < w3.heap.size := (Array.getElem?_eq_some_iff.1 hrow).1
 have HROW : Hid (∀ W, W.heap[g]? = w3.heap[g]? → Blk W g (cA ++ cB ++ cT ++ cC) 31) := fun W e => e.trans hrow
 have hpi : PI (R.map Mem.k) := by rw [show R.map Mem.k = zBf.reverse by rw [← HRk.out, List.map_reverse, List.reverse_reverse]]; exact PI.given
 have HI0 := D.zA0 (show zHv w.heap.size pk mb v pw u w w3 v R u (R.map Mem.k) rows w3 from ⟨HT2.out.below b3, hpi, Nat.le_refl _, fun _ _ _ => rfl, fun _ h => .inl h, fun _ h => .inl h, HB2.out.trans (b3.mono HB2.out.size)⟩)
 have HGO := D.zA0 hgo
 have HGL := D.zA0 hgl
 clear hpi hrow hgo hgl hfour b3 hg sA' sB' sT' HKO HB1 HB2 HT2 HMC HROB HRk
 generalize cA ++ cB ++ cT ++ cC = cells at *
 go_wp2_with fail
 go_loopw [8, 9] (fun s8 iv wx => s8 = .slice (some ⟨g, 0, none⟩) 4 4 ∧ iv = .int .i64 0 ∧ w3 = wx) (fun _ _ _ => 0)
 case atStart => exact ⟨rfl, rfl, rfl⟩
 case round =>
  obtain ⟨rfl, rfl, hww⟩ := hrel
  subst hww
  go_wp2_with fail
  go_loopw [10] (fun iv wr => ∃ (i : Nat) (vv : Value) (RR : List Mem) (uu : Value) (rr : Nat → List Value), iv = .int .i64 (i : Int) ∧ i ≤ 4 ∧ zHv w.heap.size pk mb v pw u w w3 vv RR uu (RR.map Mem.k) rr wr) (fun iv _ => 4 - (intOf iv).toNat)
  case atStart => exact ⟨0, v, R, u, rows, rfl, Nat.zero_le _, HI0.out⟩
  case round =>
   clear HI0
   obtain ⟨i, vv, RR, uu, rr, rfl, hi, hI⟩ := hrel
   have HI := D.zA0 hI
   clear hI
   by_cases hlt : i < 4
   · have hlt' : (i : Int) < 4 := by omega
     obtain ⟨r, hr, hcell⟩ := H4.out i hlt
     obtain ⟨k, hk, hok⟩ := HF.out r hr
     have hcv := HI.out.cls hk
     have hk' := hk
     obtain ⟨q1, e1, q2, e2, q3, e3, er, _⟩ := hk'
     cases er
     have HK := D.zA0 hk
     have HOK := D.zA0 hok
     have HCELL : Hid (∀ W, Blk W g cells 31 → W.cell? ⟨g, i * 5, none⟩ = some (.string k.nm) ∧ W.cell? ⟨g, i * 5 + 1, none⟩ = some (.string k.sup) ∧ W.cell? ⟨g, i * 5 + 2, none⟩ = some (.slice q1 k.pool.length e1) ∧ W.cell? ⟨g, i * 5 + 3, none⟩ = some (.slice q2 k.fs.length e2) ∧ W.cell? ⟨g, i * 5 + 4, none⟩ = some (.slice q3 k.ms.length e3)) := fun W hB => by
      have d0 := hB.cell (i * 5 + 0)
      have d1 := hB.cell (i * 5 + 1)
      have d2 := hB.cell (i * 5 + 2)
      have d3 := hB.cell (i * 5 + 3)
      have d4 := hB.cell (i * 5 + 4)
      rw [hcell 0 (by omega)] at d0
      rw [hcell 1 (by omega)] at d1
      rw [hcell 2 (by omega)] at d2
      rw [hcell 3 (by omega)] at d3
      rw [hcell 4 (by omega)] at d4
      exact ⟨d0, d1, d2, d3, d4⟩
     obtain ⟨d0, d1, d2, d3, d4⟩ := HCELL.out wr (HROW.out wr (HI.out.off g HGL.out HGO.out))
     have A := D.zA0 (zLs w.heap.size wr pk mb vv RR HI.out.two.ko k _ hcv)
     clear hcell hk hcv hr hok
     have hz0 := zSe RR k
     go_upto_region 14 with (first | (go_at_call 12; refine A.out.mono ?_; rintro e w4 ⟨rfl, hA⟩))
     clear d0 d1 d2 d3 d4 A
     by_cases hz : refZ RR k = 0
     · rw [if_pos hz] at hA
       obtain ⟨v', b, hK, st, hown, hmem⟩ := hA
       have hkz : zG5 (RR.map Mem.k) k = 0 := by rw [← hz0]; exact hz
       have hnone := (zMi hz).2.1
       have HH := D.zA0 (HI.out.kadd hK st hown hmem hnone)
       have PI' := D.zA0 (HI.out.pi.add HOK.out.nat hkz)
       have HKZ := D.zA0 hkz
       have hlen := HI.out.pi.len
       have A := D.zA0 (zIs w.heap.size w4 pw uu (RR.map Mem.k) rr HH.out.two.ro HI.out.pi.wf HI.out.pi.en (by omega) k _ (HH.out.cls HK.out) HOK.out.nat HOK.out.ps HOK.out.ds)
       obtain ⟨d0, d1, d2, d3, d4⟩ := HCELL.out w4 (HROW.out w4 (HH.out.off g HGL.out HGO.out))
       clear hK st hown hmem hz hkz hnone hz0 hlen
       go_upto_region 12 with (first | (go_at_call 31; refine A.out.mono ?_; rintro e w5 ⟨z, rfl, _, hA⟩; have HA := D.zA0 hA; clear hA))
       clear d0 d1 d2 d3 d4 A
       have hA := HA.out
       rw [if_pos HKZ.out] at hA
       obtain ⟨u', row, hK, st, hown, hmem⟩ := hA
       have HE := D.zA0 (HH.out.radd hK st hown hmem PI'.out)
       clear hK st hown hmem HH HI
       go_wp2_with fail
       go_roundw
       case rel => exact ⟨i + 1, v', ⟨k, b⟩ :: RR, u', _, by go_num, by omega, HE.out⟩
       case measure => simp [intOf]; omega
     · rw [if_neg hz] at hA
       have hkz : zG5 (RR.map Mem.k) k ≠ 0 := by rw [← hz0]; exact hz
       have HH := D.zA0 (HI.out.below hA)
       have HKZ := D.zA0 hkz
       have hlen := HI.out.pi.len
       have A := D.zA0 (zIs w.heap.size w4 pw uu (RR.map Mem.k) rr HH.out.two.ro HI.out.pi.wf HI.out.pi.en (by omega) k _ (HH.out.cls HK.out) HOK.out.nat HOK.out.ps HOK.out.ds)
       obtain ⟨d0, d1, d2, d3, d4⟩ := HCELL.out w4 (HROW.out w4 (HH.out.off g HGL.out HGO.out))
       clear hz hkz hz0 hA hlen
       go_upto_region 12 with (first | (go_at_call 31; refine A.out.mono ?_; rintro e w5 ⟨z, rfl, _, hA⟩; have HA := D.zA0 hA; clear hA))
       clear d0 d1 d2 d3 d4 A
       have hA := HA.out
       rw [if_neg HKZ.out] at hA
       have HE := D.zA0 (HH.out.below hA)
       clear hA HH HI
       go_wp2_with fail
       go_roundw
       case rel => exact ⟨i + 1, vv, RR, uu, rr, by go_num, by omega, HE.out⟩
       case measure => simp [intOf]; omega
   · have hlt' : ¬ (i : Int) < 4 := by omega
     go_wp2_with fail
     go_returns
     obtain ⟨ao, c, _, hV⟩ := HI.out.two.ko.view
     refine ⟨pk, pw, RR, mb, ao, c, rfl, hV, HI.out.pi.wf, fun m hm => HI.out.pi.nm _ (List.mem_map_of_mem hm), HI.out.pi.ob, ?_, HI.out.bl⟩
     have := HI.out.pi.len
     rw [List.length_map] at this
     omega
end Go.Proofs.YtpehimfnkmepnaaGreat.Fr
