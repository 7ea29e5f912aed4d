import Derived.Test.YtpehimfnkmepnaaGreatBz03
set_option maxRecDepth 8000
set_option maxHeartbeats 40000000
namespace Go.Proofs.YtpehimfnkmepnaaGreat.M
open Go.RowKit
theorem zA0 {p : Prop} (h : p) : Hid p := h
theorem zC4 {k : IntKind} {a b : Int} (h : a = b) : Ending.returned (.int k a) = .returned (.int k b) := by rw [h]
theorem zA2 (w : World) (o : Obj) : Below w.heap.size w (w.alloc o) := (Below.refl _ _).alloc (Nat.le_refl _) o
theorem zA5 {B : Nat} {w W : World} (h : Below B w W) (q : Nat) : Below B w (W.drewN q) := ⟨h.os, h.tape, h.output, h.size, h.block⟩
theorem zA1 {w : World} {b : Nat} {cs : Array Value} {T : TypeId} (h : w.heap[b]? = some (.cells cs T (0, 0))) (j : Nat) {v : Value} (hv : cs[j]? = some v) : w.cell? ⟨b, j, none⟩ = some v := by
 rw [cell_of_row w b j _ T (0, 0) h]; exact hv
theorem zAa {w : World} {b : Nat} {cs : Array Value} {T : TypeId} (hb : w.heap[b]? = some (.cells cs T (0, 0))) (j : Nat) : w.frozen? ⟨b, j, none⟩ = false := by
 simp [World.frozen?, hb]
theorem zB3 {w : World} {g j : Nat} {cur : Array Value} {T : TypeId} {u : Value} (h : w.heap[g]? = some (.cells cur T (0, 0))) : (w.setCell ⟨g, j, none⟩ u).heap[g]? = some (.cells (cur.setIfInBounds j u) T (0, 0)) := by
 simp only [World.setCell, Array.getElem?_modify, if_pos, h, Option.map_some]
 try simp
theorem zBg {w : World} {k k' : Nat} {cs cs' : Array Value} {T T' : TypeId} {f f' : Nat × Nat} (h : w.heap[k]? = some (.cells cs T f)) (h' : w.heap[k']? = some (.cells cs' T' f')) (hT : T ≠ T') : k ≠ k' := by
 rintro rfl
 rw [h] at h'
 cases h'
 exact hT rfl
theorem zA4 {w : World} {B e s n : Nat} {v : Value} {xs : List Value} (h : w.ownsRow B e s v n xs) : ∃ ao cap, v = .slice ao n cap := by
 rcases h.2 with ⟨rfl, rfl⟩ | ⟨g, cap, cur, rfl, _⟩
 · exact ⟨_, _, rfl⟩
 · exact ⟨_, _, rfl⟩
def Same (T : TypeId) (w w' : World) : Prop := ∀ (g : Nat) (cur : Array Value), w.heap[g]? = some (.cells cur T (0, 0)) → w'.heap[g]? = some (.cells cur T (0, 0))
theorem Same.refl (T : TypeId) (w : World) : Same T w w := fun _ _ h => h
theorem Same.trans {T : TypeId} {a b c : World} (h : Same T a b) (k : Same T b c) : Same T a c := fun g cur hg => k g cur (h g cur hg)
theorem Same.of_below {T : TypeId} {w w' : World} (h : Below w.heap.size w w') : Same T w w' := fun g _ hg => (h.block g (Array.getElem?_eq_some_iff.1 hg).1).trans hg
theorem Same.of_set {T : TypeId} {w : World} {k o U : Nat} {cs : Array Value} {u : Value} (h : w.heap[k]? = some (.cells cs U (0, 0))) (hT : T ≠ U) : Same T w (w.setCell ⟨k, o, none⟩ u) := fun g cur hg => by
 rw [Below.heap_setCell _ _ _ _ (zBg hg h hT)]; exact hg
theorem Same.of_grown {w w' : World} {B U s n : Nat} {v : Value} {xs : List Value} (own : w.ownsRow B U s v n xs) (h : w.grownBy w' v.ownBlock) {T : TypeId} (hT : T ≠ U) : Same T w w' := fun g cur hg => by
 have hlt := (Array.getElem?_eq_some_iff.1 hg).1
 have hne : some g ≠ v.ownBlock := by
  intro e
  rcases own.2 with ⟨rfl, _⟩ | ⟨g', _, _, rfl, _, h1, _⟩
  · cases e
  · cases e
    rw [h1] at hg
    cases hg
    exact hT rfl
 exact (h.block g hlt hne).trans hg
theorem zA3 {w w' : World} {B T s n : Nat} {v : Value} {xs : List Value} (h : w.ownsRow B T s v n xs) (k : Same T w w') : w'.ownsRow B T s v n xs := by
 refine ⟨h.1, ?_⟩
 rcases h.2 with x | ⟨g, cap, cur, rfl, hB, hg, r⟩
 · exact .inl x
 · exact .inr ⟨g, cap, cur, rfl, hB, k g cur hg, r⟩
structure Kq (B pr : Nat) (w w' : World) : Prop where
 os : w'.os = w.os
 tape : w'.tape = w.tape
 output : w'.output = w.output
 size : w.heap.size ≤ w'.heap.size
 block : ∀ k, k < B → k ≠ pr → w'.heap[k]? = w.heap[k]?
theorem Kq.refl (B pr : Nat) (w : World) : Kq B pr w w := ⟨rfl, rfl, rfl, Nat.le_refl _, fun _ _ _ => rfl⟩
theorem Kq.trans {B pr : Nat} {a b c : World} (h : Kq B pr a b) (k : Kq B pr b c) : Kq B pr a c := ⟨k.os.trans h.os, k.tape.trans h.tape, k.output.trans h.output, Nat.le_trans h.size k.size, fun i hi hp => (k.block i hi hp).trans (h.block i hi hp)⟩
theorem Kq.of_below {B pr C : Nat} {w w' : World} (h : Below C w w') (hB : B ≤ C) : Kq B pr w w' := ⟨h.os, h.tape, h.output, h.size, fun k hk _ => h.block k (by omega)⟩
theorem Kq.drew {B pr : Nat} {w w' : World} (h : Kq B pr w w') (q : Nat) : Kq B pr w (w'.drewN q) := ⟨h.os, h.tape, h.output, h.size, h.block⟩
theorem Kq.set {B pr k o : Nat} {w w' : World} {u : Value} (h : Kq B pr w w') (hk : B ≤ k ∨ k = pr) : Kq B pr w (w'.setCell ⟨k, o, none⟩ u) :=
 ⟨h.os, h.tape, h.output, by simpa [World.setCell] using h.size, fun i hi hp => by rw [Below.heap_setCell _ _ _ _ (by show i ≠ k; omega)]; exact h.block i hi hp⟩
theorem Kq.grown {B pr : Nat} {w w1 w' : World} {g : Option Nat} (h : Kq B pr w w1) (k : w1.grownBy w' g) (hB : B ≤ w1.heap.size) (hg : ∀ x, g = some x → B ≤ x) : Kq B pr w w' :=
 ⟨k.os.trans h.os, k.tape.trans h.tape, k.output.trans h.output, Nat.le_trans h.size k.size, fun i hi hp => (k.block i (by omega) (fun e => by have := hg i e.symm; omega)).trans (h.block i hi hp)⟩
def NV (B pr : Nat) (w : World) (v : Value) (l : List Int) : Prop :=
 ∃ ao cap, v = .slice ao l.length cap ∧ l.length ≤ cap ∧ cap ≤ maxLen ∧ (∀ x ∈ l, -9223372036854775808 ≤ x ∧ x ≤ 9223372036854775807) ∧ (l = [] ∨ ∃ g off, ao = some ⟨g, off, none⟩ ∧ g < B ∧ g < pr ∧ ∀ j x, l[j]? = some x → w.cell? ⟨g, off + j, none⟩ = some (.int .i64 x))
theorem NV.kq {B pr : Nat} {w w' : World} {v : Value} {l : List Int} (h : NV B pr w v l) (k : Kq B pr w w') : NV B pr w' v l := by
 obtain ⟨ao, cap, e, hc, hm, hx, hl⟩ := h
 refine ⟨ao, cap, e, hc, hm, hx, ?_⟩
 rcases hl with h | ⟨g, off, e, hg, hp, hl⟩
 · exact .inl h
 · exact .inr ⟨g, off, e, hg, hp, fun j x hj => (World.cell?_of_block (a := ⟨g, off + j, none⟩) (k.block g hg (Nat.ne_of_lt hp))).trans (hl j x hj)⟩
structure LN where
 pl : Int
 op : Int
 a : Int
 b : Int
 lb : Int
 hr : Int
def lrow (x : LN) : List Value := [.int .i64 x.pl, .int .i64 x.op, .int .i64 x.a, .int .i64 x.b, .int .i64 x.lb, .int .i64 x.hr]
def zE7 (l : List LN) : List Value := l.flatMap lrow
theorem zIv (a b : List LN) : zE7 (a ++ b) = zE7 a ++ zE7 b := by simp [zE7]
structure TR where
 f : Int
 t : Int
 a : Int
def trow (x : TR) : List Value := [.int .i64 x.f, .int .i64 x.t, .int .i64 x.a]
def zEa (l : List TR) : List Value := l.flatMap trow
theorem zJ1 (a b : List TR) : zEa (a ++ b) = zEa a ++ zEa b := by simp [zEa]
def zBi (l : List Int) : List Value := l.map (Value.int .i64)
theorem zIu (a b : List Int) : zBi (a ++ b) = zBi a ++ zBi b := by simp [zBi]
abbrev CD := P3.CD
abbrev zB2 (l : List CD) : List Value := P3.zB2 l
structure MS where
 vr : Value
 rl : List Int
 at_ : Nat
 vp : Value
 pool : List CD
 vl : Value
 ls : List LN
 vh : Value
 hs : List TR
 vt : Value
 ts : List Int
 labels : Nat
 left : Int
 depth : Nat
 plain : Bool
def mblk (pr : Nat) (s : MS) : Array Value := #[.pointer (some ⟨pr, 0, none⟩), s.vp, s.vl, .int .i64 s.labels, .bool s.plain, .int .i64 s.left, .int .i64 s.depth, s.vh, s.vt, .slice none 0 0]
structure MkP (B pr pm : Nat) (s : MS) (w : World) : Prop where
 blk : w.heap[pm]? = some (.cells (mblk pr s) 144 (0, 0))
 rec_ : w.heap[pr]? = some (.cells #[s.vr, .int .i64 s.at_] 104 (0, 0))
 rl : NV B pr w s.vr s.rl
 p : w.ownsRow 0 112 5 s.vp s.pool.length (zB2 s.pool)
 l : w.ownsRow B 181 6 s.vl s.ls.length (zE7 s.ls)
 h : w.ownsRow B 190 3 s.vh s.hs.length (zEa s.hs)
 t : w.ownsRow B 3 1 s.vt s.ts.length (zBi s.ts)
 hpm : B ≤ pm
 hpr : pr < B
 at_le : s.at_ ≤ s.rl.length
structure Stands (w w' : World) : Prop where
 t83 : Same 104 w w'
 t106 : Same 112 w w'
 t101 : Same 181 w w'
 t113 : Same 190 w w'
 t3 : Same 3 w w'
theorem MkP.stands {B pr pm : Nat} {s : MS} {w w' : World} (h : MkP B pr pm s w) (k : Kq B pr w w') (q : Stands w w') (h93 : Same 144 w w') : MkP B pr pm s w' :=
 ⟨h93 _ _ h.blk, q.t83 _ _ h.rec_, h.rl.kq k, zA3 h.p q.t106, zA3 h.l q.t101, zA3 h.h q.t113, zA3 h.t q.t3, h.hpm, h.hpr, h.at_le⟩
theorem MkP.lt {B pr pm : Nat} {s : MS} {w : World} (h : MkP B pr pm s w) : pm < w.heap.size ∧ B ≤ w.heap.size := by
 have := (Array.getElem?_eq_some_iff.1 h.blk).1
 have := h.hpm
 omega
theorem MkP.below {B pr pm : Nat} {s : MS} {w w' : World} (h : MkP B pr pm s w) (hb : Below w.heap.size w w') : MkP B pr pm s w' :=
 h.stands (Kq.of_below hb h.lt.2) ⟨Same.of_below hb, Same.of_below hb, Same.of_below hb, Same.of_below hb, Same.of_below hb⟩ (Same.of_below hb)
theorem MkP.drew {B pr pm : Nat} {s : MS} {w : World} (h : MkP B pr pm s w) (q : Nat) : MkP B pr pm s (w.drewN q) := ⟨h.blk, h.rec_, h.rl, h.p, h.l, h.h, h.t, h.hpm, h.hpr, h.at_le⟩
theorem MkP.set {B pr pm : Nat} {s s' : MS} {w : World} (h : MkP B pr pm s w) (o : Nat) (u : Value) (hs : (mblk pr s).setIfInBounds o u = mblk pr s')
 (e1 : s'.vr = s.vr) (e2 : s'.rl = s.rl) (e3 : s'.at_ = s.at_) (e4 : s'.vp = s.vp) (e5 : s'.pool = s.pool) (e6 : s'.vl = s.vl) (e7 : s'.ls = s.ls) (e8 : s'.vh = s.vh) (e9 : s'.hs = s.hs) (e10 : s'.vt = s.vt) (e11 : s'.ts = s.ts) :
 MkP B pr pm s' (w.setCell ⟨pm, o, none⟩ u) := by
 have S : ∀ T, T ≠ 144 → Same T w (w.setCell ⟨pm, o, none⟩ u) := fun T hT => Same.of_set h.blk hT
 refine ⟨by rw [zB3 h.blk, hs], ?_, ?_, ?_, ?_, ?_, ?_, h.hpm, h.hpr, by rw [e2, e3]; exact h.at_le⟩
 · rw [e1, e3]; exact S 104 (by decide) _ _ h.rec_
 · rw [e1, e2]; exact h.rl.kq ((Kq.refl B pr w).set (.inl h.hpm))
 · rw [e4, e5]; exact zA3 h.p (S 112 (by decide))
 · rw [e6, e7]; exact zA3 h.l (S 181 (by decide))
 · rw [e8, e9]; exact zA3 h.h (S 190 (by decide))
 · rw [e10, e11]; exact zA3 h.t (S 3 (by decide))
theorem MkP.putL {B pr pm : Nat} {s : MS} {w w1 : World} {o : Obj} {v1 : Value} {x : LN} (h : MkP B pr pm s w) (hg : (w.alloc o).grownBy w1 s.vl.ownBlock) (ho : w1.ownsRow B 181 6 v1 (s.ls.length + 1) (zE7 s.ls ++ lrow x)) :
 w1.heap[pm]? = some (.cells (mblk pr s) 144 (0, 0)) ∧ MkP B pr pm { s with vl := v1, ls := s.ls ++ [x] } (w1.setCell ⟨pm, 2, none⟩ v1) ∧ Kq B pr w (w1.setCell ⟨pm, 2, none⟩ v1) := by
 have hA := h.below (zA2 w o)
 have S : ∀ T, T ≠ 181 → Same T (w.alloc o) w1 := fun T hT => Same.of_grown hA.l hg hT
 have hb := S 144 (by decide) _ _ hA.blk
 have S2 : ∀ T, T ≠ 144 → Same T w1 (w1.setCell ⟨pm, 2, none⟩ v1) := fun T hT => Same.of_set hb hT
 have hBz := h.lt.2
 have K1 : Kq B pr w w1 := (Kq.of_below (zA2 w o) hBz).grown hg (by simp; omega) (fun k e => (hA.l.lt k e).1)
 have K2 : Kq B pr w (w1.setCell ⟨pm, 2, none⟩ v1) := K1.set (.inl h.hpm)
 refine ⟨hb, ⟨?_, (S2 104 (by decide)) _ _ ((S 104 (by decide)) _ _ hA.rec_), h.rl.kq K2, zA3 hA.p ((S 112 (by decide)).trans (S2 112 (by decide))), ?_, zA3 hA.h ((S 190 (by decide)).trans (S2 190 (by decide))), zA3 hA.t ((S 3 (by decide)).trans (S2 3 (by decide))), h.hpm, h.hpr, h.at_le⟩, K2⟩
 · rw [zB3 hb]; rfl
 · rw [show ({ s with vl := v1, ls := s.ls ++ [x] } : MS).ls = s.ls ++ [x] from rfl, zIv, List.length_append]
   exact zA3 (by simpa [zE7] using ho) (S2 181 (by decide))
theorem infoL : (Tryz.prog.info? 181).map (fun i => (i.zero, i.size, i.bytes)) = some (some (.agg #[.int .i64 0, .int .i64 0, .int .i64 0, .int .i64 0, .int .i64 0, .int .i64 0]), 6, 48) := by kernel_rfl
theorem zPg (x : LN) : ∀ u ∈ lrow x, u.oneCell' = true := by
 intro u hu
 simp [lrow] at hu
 rcases hu with rfl | rfl | rfl | rfl | rfl | rfl <;> rfl
theorem zCj {w : World} {ops : Array Oper} {rest : List Oper} {o : Oper} {a : Act} {Q : Exit → Act → World → Prop} (hgd : o.guard = none) (s x : Operand)
 (ho : o.op = .call { callee := .builtin .append, args := #[s, x], argTypes := #[141, 141] })
 (B : Nat) (v : Value) (n : Nat) (xs : List Value) (y : LN) (hs : a.eval s = v) (hown : w.ownsRow B 181 6 v n xs) (hx : a.eval x = .slice (some ⟨w.heap.size, 0, none⟩) 1 1)
 (hlen : n ≤ 1000000) (hB : B ≤ w.heap.size)
 (h : ∀ v' w', w'.ownsRow B 181 6 v' (n + 1) (xs ++ lrow y) → (w.alloc (.cells (lrow y).toArray 181)).grownBy w' v.ownBlock → wpList Tryz.prog ops Q rest (a.put o.dst v') w') :
 wpList Tryz.prog ops Q (o :: rest) a (w.alloc (.cells (lrow y).toArray 181)) := by
 obtain ⟨i0, hi, hz0, hz1, hz2⟩ := info_parts infoL
 refine wpList_plain hgd fun K hK => ?_
 have hown' : (w.alloc (.cells (lrow y).toArray 181)).ownsRow B 181 6 v n xs := zA3 hown (Same.of_below (zA2 w _))
 obtain ⟨v', w', hr, h2, h3, _, h4⟩ := run_append_own_at (P := Tryz.prog) (w.alloc (.cells (lrow y).toArray 181)) B 141 o.type 181 i0 _ 6 48 Tryz.underlying141 hi hz0 hz1 hz2 rfl (by decide) v n xs hown' ⟨w.heap.size, 0, none⟩ 1 1 (lrow y) rfl
  (fun j u hj => by
   have e : (⟨w.heap.size, 0, none⟩ : Addr).add j = ⟨w.heap.size, j, none⟩ := by unfold Addr.add; split <;> simp_all
   rw [e]
   exact zA1 (heap_alloc_new w _) j (by simpa using hj)) (zPg y) (by unfold maxLen; omega) (by omega) (by simp; omega)
 unfold Oper.wp execOp
 simp only [ho, resolve, invoke, builtin, Sem.run_bind, Sem.run_pure, Result.andThen_ok, List.map_toArray, List.map_cons, List.map_nil, hs, hx, hr]
 exact hK _ _ (h v' w' h2 h3)
structure SG where
 pool : List CD
 ls : List LN
 labels : Nat
 left : Int
 hs : List TR
 ts : List Int
def MS.sg (s : MS) : SG := ⟨s.pool, s.ls, s.labels, s.left, s.hs, s.ts⟩
def SG.put (σ : SG) (op a b : Int) : SG := { σ with ls := σ.ls ++ [⟨0, op, a, b, -1, -1⟩], left := σ.left - 1 }
def SG.jump (σ : SG) (op lbl : Int) : SG := { σ with ls := σ.ls ++ [⟨0, op, 0, 0, lbl, -1⟩], left := σ.left - 1 }
def SG.here (σ : SG) (lbl : Int) : SG := { σ with ls := σ.ls ++ [⟨0, -1, 0, 0, -1, lbl⟩] }
def SG.mark (σ : SG) : SG := { σ with labels := σ.labels + 1 }
def SG.add (σ : SG) (c : CD) : SG := { σ with pool := (P3.addZ σ.pool c).1 }
def SG.ix (σ : SG) (c : CD) : Int := (P3.addZ σ.pool c).2.1
structure MkB (n d : Nat) (pl : Bool) (s : MS) : Prop where
 dep : s.depth = d
 pln : s.plain = pl
 lb : s.labels ≤ n
 ln : s.ls.length ≤ n
 pn : s.pool.length ≤ n
 hn : s.hs.length ≤ n
 tn : s.ts.length ≤ n
 l0 : -(n : Int) ≤ s.left
 l1 : s.left ≤ 110
 small : ∀ x ∈ s.pool, P3.CD.Ok x
def Mk (B pr pm n d : Nat) (pl : Bool) (σ : SG) (w : World) : Prop := ∃ s, MkP B pr pm s w ∧ MkB n d pl s ∧ s.sg = σ
theorem MkB.mono {n n' d : Nat} {pl : Bool} {s : MS} (h : MkB n d pl s) (hn : n ≤ n') : MkB n' d pl s :=
 ⟨h.dep, h.pln, by have := h.lb; omega, by have := h.ln; omega, by have := h.pn; omega, by have := h.hn; omega, by have := h.tn; omega, by have := h.l0; omega, h.l1, h.small⟩
theorem Mk.mono {B pr pm n n' d : Nat} {pl : Bool} {σ : SG} {w : World} (h : Mk B pr pm n d pl σ w) (hn : n ≤ n') : Mk B pr pm n' d pl σ w := by
 obtain ⟨s, h1, h2, h3⟩ := h
 exact ⟨s, h1, h2.mono hn, h3⟩
theorem Mk.below {B pr pm n d : Nat} {pl : Bool} {σ : SG} {w w' : World} (h : Mk B pr pm n d pl σ w) (hb : Below w.heap.size w w') : Mk B pr pm n d pl σ w' := by
 obtain ⟨s, h1, h2⟩ := h
 exact ⟨s, h1.below hb, h2⟩
theorem Mk.kq {B pr pm n d : Nat} {pl : Bool} {σ : SG} {w w' : World} (h : Mk B pr pm n d pl σ w) (hb : Below w.heap.size w w') : Kq B pr w w' := by
 obtain ⟨s, h1, -⟩ := h
 exact Kq.of_below hb h1.lt.2
def zPi (pr : Nat) (w w' : World) : Prop := ∀ k, k ≠ pr → w'.heap[k]? = w.heap[k]?
theorem MkP.drewS {B pr pm : Nat} {s : MS} {w : World} {x : Addr} {u : Value} (h : MkP B pr pm s (w.setCell x u)) (q : Nat) : MkP B pr pm s ((w.drewN q).setCell x u) := ⟨h.blk, h.rec_, h.rl, h.p, h.l, h.h, h.t, h.hpm, h.hpr, h.at_le⟩
theorem Kq.drewS {B pr : Nat} {w w' : World} {x : Addr} {u : Value} (h : Kq B pr w (w'.setCell x u)) (q : Nat) : Kq B pr w ((w'.drewN q).setCell x u) := ⟨h.os, h.tape, h.output, h.size, h.block⟩
theorem MkP.took {B pr pm : Nat} {s : MS} {w : World} (h : MkP B pr pm s w) (hlt : s.at_ < s.rl.length) : MkP B pr pm { s with at_ := s.at_ + 1 } (w.setCell ⟨pr, 1, none⟩ (.int .i64 ((s.at_ : Int) + 1))) := by
 have S : ∀ T, T ≠ 104 → Same T w (w.setCell ⟨pr, 1, none⟩ (.int .i64 ((s.at_ : Int) + 1))) := fun T hT => Same.of_set h.rec_ hT
 refine ⟨S 144 (by decide) _ _ h.blk, ?_, h.rl.kq ((Kq.refl B pr w).set (.inr rfl)), zA3 h.p (S 112 (by decide)), zA3 h.l (S 181 (by decide)), zA3 h.h (S 190 (by decide)), zA3 h.t (S 3 (by decide)), h.hpm, h.hpr, hlt⟩
 rw [zB3 h.rec_]
 simp
theorem zQk (B pr pm n d : Nat) (pl : Bool) (σ : SG) (k : Nat) (w : World) (h : Mk B pr pm n d pl σ w) (hk : 0 < k) (hk2 : k ≤ 100000) :
 Calls Tryz.prog 55 #[.pointer (some ⟨pr, 0, none⟩), .int .i64 (k : Int)] w fun e w' => (∃ x : Nat, x < k ∧ e = .returned (.int .i64 (x : Int))) ∧ Mk B pr pm n d pl σ w' ∧ Kq B pr w w' ∧ zPi pr w w' := by
 obtain ⟨s, HP, HB, hsg⟩ := h
 have HSG := zA0 hsg
 clear hsg
 have c0 := zA1 HP.rec_ 0 rfl
 have c1 := zA1 HP.rec_ 1 rfl
 have hal := HP.at_le
 obtain ⟨ao, cap, hvr, hc, hm, hrg, hl⟩ := HP.rl
 rw [hvr] at c0
 unfold maxLen at hm
 have f0 := zAa HP.rec_
 have hk' : ¬ (k : Int) = 0 := by omega
 have HREC : Hid (∀ u, MkP B pr pm { s with at_ := s.at_ + 1 } (w.setCell ⟨pr, 1, none⟩ u) ∨ True) := fun _ => .inr trivial
 by_cases hlt : s.at_ < s.rl.length
 · obtain ⟨x, hx⟩ : ∃ x, s.rl[s.at_]? = some x := ⟨s.rl[s.at_], List.getElem?_eq_getElem hlt⟩
   have hlt' : (s.at_ : Int) < (s.rl.length : Int) := by omega
   obtain ⟨g, off, rfl, hg, hgp, hcl⟩ : ∃ g off, ao = some ⟨g, off, none⟩ ∧ g < B ∧ g < pr ∧ ∀ j x, s.rl[j]? = some x → w.cell? ⟨g, off + j, none⟩ = some (.int .i64 x) := by
    rcases hl with h | h
    · rw [h] at hlt; simp at hlt
    · exact h
   have cx := hcl s.at_ x hx
   have HT := zA0 (HP.took hlt)
   have HBB := zA0 HB
   obtain ⟨r0, r1⟩ := hrg x (List.mem_of_getElem? hx)
   have HK1 := zA0 ((Kq.refl B pr w).set (o := 1) (u := .int .i64 ((s.at_ : Int) + 1)) (.inr rfl))
   clear hl hcl HREC hrg hx
   by_cases hneg : x < 0
   · have t0 := Int.emod_nonneg (-(x + 1)) (b := (k : Int)) (by omega)
     have t1 := Int.emod_lt_of_pos (-(x + 1)) (b := (k : Int)) (by omega)
     go_enter Tryz.func55, Tryz.ntmps55
     go_wp2
     go_quiet (fail)
     go_wp2
     go_quiet (fail)
     go_wp2
     go_ret
     refine ⟨⟨((-(x + 1)) % (k : Int)).toNat, by omega, zC4 ?_⟩, ⟨_, HT.out.drewS _, ?_⟩, HK1.out.drewS _, fun k hk => Below.heap_setCell _ _ _ _ hk⟩
     · rw [Int.toNat_of_nonneg t0, ← Int.neg_tmod, Int.tmod_eq_emod_of_nonneg (by omega)]
     · exact ⟨⟨HBB.out.dep, HBB.out.pln, HBB.out.lb, HBB.out.ln, HBB.out.pn, HBB.out.hn, HBB.out.tn, HBB.out.l0, HBB.out.l1, HBB.out.small⟩, HSG.out⟩
   · have t0 := Int.emod_nonneg x (b := (k : Int)) (by omega)
     have t1 := Int.emod_lt_of_pos x (b := (k : Int)) (by omega)
     go_enter Tryz.func55, Tryz.ntmps55
     go_wp2
     go_quiet (fail)
     go_wp2
     go_quiet (fail)
     go_wp2
     go_ret
     refine ⟨⟨(x % (k : Int)).toNat, by omega, zC4 ?_⟩, ⟨_, HT.out.drewS _, ?_⟩, HK1.out.drewS _, fun k hk => Below.heap_setCell _ _ _ _ hk⟩
     · rw [Int.toNat_of_nonneg t0]
     · exact ⟨⟨HBB.out.dep, HBB.out.pln, HBB.out.lb, HBB.out.ln, HBB.out.pn, HBB.out.hn, HBB.out.tn, HBB.out.l0, HBB.out.l1, HBB.out.small⟩, HSG.out⟩
 · have hlt' : ¬ (s.at_ : Int) < (s.rl.length : Int) := by omega
   have HBB := zA0 HB
   clear hl hrg HREC
   go_enter Tryz.func55, Tryz.ntmps55
   go_wp2
   go_quiet (fail)
   go_wp2
   go_ret
   refine ⟨⟨0, hk, zC4 ?_⟩, ⟨_, HP.drew _, HBB.out, HSG.out⟩, (Kq.refl B pr w).drew _, fun _ _ => rfl⟩
   simp
theorem zE8 {pr pm : Nat} {s : MS} {w : World} (h : w.heap[pm]? = some (.cells (mblk pr s) 144 (0, 0))) :
 w.cell? ⟨pm, 0, none⟩ = some (.pointer (some ⟨pr, 0, none⟩)) ∧ w.cell? ⟨pm, 1, none⟩ = some s.vp ∧ w.cell? ⟨pm, 2, none⟩ = some s.vl ∧ w.cell? ⟨pm, 3, none⟩ = some (.int .i64 s.labels) ∧ w.cell? ⟨pm, 4, none⟩ = some (.bool s.plain) ∧ w.cell? ⟨pm, 5, none⟩ = some (.int .i64 s.left) ∧ w.cell? ⟨pm, 6, none⟩ = some (.int .i64 s.depth) :=
 ⟨zA1 h 0 rfl, zA1 h 1 rfl, zA1 h 2 rfl, zA1 h 3 rfl, zA1 h 4 rfl, zA1 h 5 rfl, zA1 h 6 rfl⟩
theorem zAf (B pr pm n d : Nat) (pl : Bool) (σ : SG) (op a b : Int) (w : World) (h : Mk B pr pm n d pl σ w) (hn : n ≤ 900000) :
 Calls Tryz.prog 98 #[.pointer (some ⟨pm, 0, none⟩), .int .i64 op, .int .i64 a, .int .i64 b] w fun e w' => e = .returned (.tuple #[]) ∧ Mk B pr pm (n + 1) d pl (σ.put op a b) w' ∧ Kq B pr w w' := by
 obtain ⟨s, HP, HB, hsg⟩ := h
 have HSG := zA0 hsg
 clear hsg
 obtain ⟨-, -, c2, -, -, c5, -⟩ := zE8 HP.blk
 have f0 := zAa HP.blk
 have hz := HP.lt
 have hln := HB.ln
 have L0 := HB.l0
 have L1 := HB.l1
 have HPL := zA0 (fun v1 w1 hg ho => HP.putL (o := .cells (lrow ⟨0, op, a, b, -1, -1⟩).toArray 181) (v1 := v1) (w1 := w1) (x := ⟨0, op, a, b, -1, -1⟩) hg ho)
 have hOl := HP.l
 obtain ⟨aol, capl, el⟩ := zA4 HP.l
 have HEL := zA0 el
 rw [el] at c2
 go_enter Tryz.func98, Tryz.ntmps98
 go_wp2_with (at_builtin; refine zCj rfl _ _ rfl B (.slice aol s.ls.length capl) _ _ ⟨0, op, a, b, -1, -1⟩ rfl (by rw [← HEL.out]; exact hOl) rfl (by omega) (by omega) ?_; intro v1 w1 ho1 hg1; obtain ⟨hb1, HP1, K1⟩ := HPL.out v1 w1 (by rw [HEL.out]; exact hg1) ho1; obtain ⟨-, -, q2, -, -, q5, -⟩ := zE8 hb1; have qf := zAa hb1; obtain ⟨ao1, cap1, rfl⟩ := zA4 ho1)
 go_end0
 refine ⟨rfl, ⟨_, HP1.set (s' := { s with vl := .slice ao1 (s.ls.length + 1) cap1, ls := s.ls ++ [⟨0, op, a, b, -1, -1⟩], left := s.left - 1 }) 5 (.int .i64 (s.left - 1)) rfl rfl rfl rfl rfl rfl rfl rfl rfl rfl rfl rfl, ?_⟩, K1.set (.inl HP.hpm)⟩
 refine ⟨⟨HB.dep, HB.pln, by have := HB.lb; simp only; omega, by simp; omega, by have := HB.pn; simp only; omega, by have := HB.hn; simp only; omega, by have := HB.tn; simp only; omega, by simp only; omega, by simp only; omega, HB.small⟩, ?_⟩
 rw [← HSG.out]
 rfl
theorem zCs (B pr pm n d : Nat) (pl : Bool) (σ : SG) (op : Int) (lbl : Nat) (w : World) (h : Mk B pr pm n d pl σ w) (hn : n ≤ 900000) :
 Calls Tryz.prog 195 #[.pointer (some ⟨pm, 0, none⟩), .int .i64 op, .int .i64 (lbl : Int)] w fun e w' => e = .returned (.tuple #[]) ∧ Mk B pr pm (n + 1) d pl (σ.jump op (lbl : Int)) w' ∧ Kq B pr w w' := by
 obtain ⟨s, HP, HB, hsg⟩ := h
 have HSG := zA0 hsg
 clear hsg
 obtain ⟨-, -, c2, -, -, c5, -⟩ := zE8 HP.blk
 have f0 := zAa HP.blk
 have hz := HP.lt
 have hln := HB.ln
 have L0 := HB.l0
 have L1 := HB.l1
 have HPL := zA0 (fun v1 w1 hg ho => HP.putL (o := .cells (lrow ⟨0, op, 0, 0, (lbl : Int), -1⟩).toArray 181) (v1 := v1) (w1 := w1) (x := ⟨0, op, 0, 0, (lbl : Int), -1⟩) hg ho)
 have hOl := HP.l
 obtain ⟨aol, capl, el⟩ := zA4 HP.l
 have HEL := zA0 el
 rw [el] at c2
 go_enter Tryz.func195, Tryz.ntmps195
 go_wp2_with (at_builtin; refine zCj rfl _ _ rfl B (.slice aol s.ls.length capl) _ _ ⟨0, op, 0, 0, (lbl : Int), -1⟩ rfl (by rw [← HEL.out]; exact hOl) rfl (by omega) (by omega) ?_; intro v1 w1 ho1 hg1; obtain ⟨hb1, HP1, K1⟩ := HPL.out v1 w1 (by rw [HEL.out]; exact hg1) ho1; obtain ⟨-, -, q2, -, -, q5, -⟩ := zE8 hb1; have qf := zAa hb1; obtain ⟨ao1, cap1, rfl⟩ := zA4 ho1)
 go_end0
 refine ⟨rfl, ⟨_, HP1.set (s' := { s with vl := .slice ao1 (s.ls.length + 1) cap1, ls := s.ls ++ [⟨0, op, 0, 0, (lbl : Int), -1⟩], left := s.left - 1 }) 5 (.int .i64 (s.left - 1)) rfl rfl rfl rfl rfl rfl rfl rfl rfl rfl rfl rfl, ?_⟩, K1.set (.inl HP.hpm)⟩
 refine ⟨⟨HB.dep, HB.pln, by have := HB.lb; simp only; omega, by simp; omega, by have := HB.pn; simp only; omega, by have := HB.hn; simp only; omega, by have := HB.tn; simp only; omega, by simp only; omega, by simp only; omega, HB.small⟩, ?_⟩
 rw [← HSG.out]
 rfl
theorem zCt (B pr pm n d : Nat) (pl : Bool) (σ : SG) (lbl : Nat) (w : World) (h : Mk B pr pm n d pl σ w) (hn : n ≤ 900000) :
 Calls Tryz.prog 196 #[.pointer (some ⟨pm, 0, none⟩), .int .i64 (lbl : Int)] w fun e w' => e = .returned (.tuple #[]) ∧ Mk B pr pm (n + 1) d pl (σ.here (lbl : Int)) w' ∧ Kq B pr w w' := by
 obtain ⟨s, HP, HB, hsg⟩ := h
 have HSG := zA0 hsg
 clear hsg
 obtain ⟨-, -, c2, -, -, c5, -⟩ := zE8 HP.blk
 have f0 := zAa HP.blk
 have hz := HP.lt
 have hln := HB.ln
 have L0 := HB.l0
 have L1 := HB.l1
 have HPL := zA0 (fun v1 w1 hg ho => HP.putL (o := .cells (lrow ⟨0, -1, 0, 0, -1, (lbl : Int)⟩).toArray 181) (v1 := v1) (w1 := w1) (x := ⟨0, -1, 0, 0, -1, (lbl : Int)⟩) hg ho)
 have hOl := HP.l
 obtain ⟨aol, capl, el⟩ := zA4 HP.l
 have HEL := zA0 el
 rw [el] at c2
 go_enter Tryz.func196, Tryz.ntmps196
 go_wp2_with (at_builtin; refine zCj rfl _ _ rfl B (.slice aol s.ls.length capl) _ _ ⟨0, -1, 0, 0, -1, (lbl : Int)⟩ rfl (by rw [← HEL.out]; exact hOl) rfl (by omega) (by omega) ?_; intro v1 w1 ho1 hg1; obtain ⟨hb1, HP1, K1⟩ := HPL.out v1 w1 (by rw [HEL.out]; exact hg1) ho1; obtain ⟨-, -, q2, -, -, q5, -⟩ := zE8 hb1; have qf := zAa hb1; obtain ⟨ao1, cap1, rfl⟩ := zA4 ho1)
 go_end0
 refine ⟨rfl, ⟨_, HP1, ?_⟩, K1⟩
 refine ⟨⟨HB.dep, HB.pln, by have := HB.lb; simp only; omega, by simp; omega, by have := HB.pn; simp only; omega, by have := HB.hn; simp only; omega, by have := HB.tn; simp only; omega, by simp only; omega, by simp only; omega, HB.small⟩, ?_⟩
 rw [← HSG.out]
 rfl
theorem zBp (B pr pm n d : Nat) (pl : Bool) (σ : SG) (w : World) (h : Mk B pr pm n d pl σ w) (hn : n ≤ 900000) :
 Calls Tryz.prog 194 #[.pointer (some ⟨pm, 0, none⟩)] w fun e w' => e = .returned (.int .i64 (σ.labels : Int)) ∧ Mk B pr pm (n + 1) d pl σ.mark w' ∧ Kq B pr w w' := by
 obtain ⟨s, HP, HB, hsg⟩ := h
 have HSG := zA0 hsg
 clear hsg
 obtain ⟨-, -, -, c3, -, -, -⟩ := zE8 HP.blk
 have f0 := zAa HP.blk
 have hlb := HB.lb
 go_enter Tryz.func194, Tryz.ntmps194
 go_wp2
 go_ret
 refine ⟨zC4 (by rw [← HSG.out]; show _ = ((s.labels : Nat) : Int); omega), ⟨_, HP.set (s' := { s with labels := s.labels + 1 }) 3 (.int .i64 ((s.labels : Int) + 1)) (by simp [mblk]) rfl rfl rfl rfl rfl rfl rfl rfl rfl rfl rfl, ?_⟩, (Kq.refl B pr w).set (.inl HP.hpm)⟩
 refine ⟨⟨HB.dep, HB.pln, by simp only; omega, by have := HB.ln; simp only; omega, by have := HB.pn; simp only; omega, by have := HB.hn; simp only; omega, by have := HB.tn; simp only; omega, by have := HB.l0; simp only; omega, HB.l1, HB.small⟩, ?_⟩
 rw [← HSG.out]
 rfl
end Go.Proofs.YtpehimfnkmepnaaGreat.M
