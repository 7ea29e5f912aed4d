/- Texts RG MA MB MT MU. -/
import Derived.Test.YtlnapfeglbdecaaBm09
import Derived.Deep.QuietTactic
import Derived.BigQuiet
import Derived.Deep.CutRange
import Derived.WalkKit
import Derived.WalkSpells
import Derived.WalkLawsBesides
import Derived.Maps.AppendAt
import Derived.Deep.AppendLies
namespace Go.Proofs.Ytlnapfeglbdecaa.P3
open Go.RowKit
theorem ceq_comm (c d : CD) : ceq c d = ceq d c := by
  cases h : ceq c d with
  | true => have := (ceq_iff c d).1 h; subst this; exact h.symm
  | false =>
    cases h2 : ceq d c with
    | true => have := (ceq_iff d c).1 h2; subst this; rw [h] at h2; cases h2
    | false => rfl

set_option maxRecDepth 8000 in
set_option maxHeartbeats 4000000 in
theorem radd_any (v : Value) (l : List CD) (c : CD) (w : World) (hv : CView w v l) (hc : c.Small) (hlen : l.length * 64 ≤ 70368744177664) :
    Calls Try.prog 62 #[v, c.val] w fun e w' => Below w.heap.size w w' ∧ ∃ v', e = .returned (.tuple #[v', .int .i64 (addZ l c).2.1, .int .i64 (addZ l c).2.2]) ∧ w'.ownsRow w.heap.size 99 5 v' (addZ l c).1.length (ccells (addZ l c).1) := by
  obtain ⟨i0, hi, hz0, hz1, hz2⟩ := info_parts Try.info99
  have hbx := box_at w c
  have b1 : Below w.heap.size w (w.alloc (.cells #[.int .i64 c.kind, .int .i32 c.n, .string c.cls, .string c.nm, .string c.dsc] 99)) := (Below.refl _ _).alloc (Nat.le_refl _) _
  have hv1 := hv.below b1
  have HR := fun w => D.hidIt (rright_any c w hc)
  have hz1' : (w.alloc (.cells #[.int .i64 c.kind, .int .i32 c.n, .string c.cls, .string c.nm, .string c.dsc] 99)).heap.size = w.heap.size + 1 := by simp
  cases hr : rightB c with
  | false =>
    rw [addZ_no hr]
    rw [hr] at HR
    clear hr
    unfold CD.val at *
    go_enter Try.func62, Try.ntmps62
    go_wp2_with fail
    refine (HR _).out.mono ?_
    rintro e w2 ⟨rfl, b2⟩
    go_wp2
    go_ret3
    exact ⟨b1.trans (b2.mono (by omega)), _, rfl, World.ownsRow_nil _ _ _ _⟩
  | true =>
    rw [hr] at HR
    have HRT := D.hidIt hr
    have HZ : Hid (addZ l c = addZ l c) := rfl
    generalize hAZ : addZ l c = AZ at *
    have HAZ := D.hidIt hAZ
    have HEQ : Hid (∀ d wx, (binOp .eql 99 d.val c.val).run Try.prog wx = .ok (.bool (ceq d c)) wx) := fun d wx => run_ceq wx d c
    clear hr hAZ HZ
    obtain ⟨ao, cap, rfl, _, hm, hok, _⟩ := id hv1
    unfold maxLen at hm
    have hcz : Hid (ccells l ++ [.int .i64 c.kind, .int .i32 c.n, .string c.cls, .string c.nm, .string c.dsc] = ccells (l ++ [c])) := by show _ = _; rw [ccells_append]; rfl
    unfold CD.val at HR HEQ ⊢
    go_enter Try.func62, Try.ntmps62
    go_wp2_with fail
    refine (HR _).out.mono ?_
    rintro e w2 ⟨rfl, b2⟩
    have hs2 := b2.size
    rw [hz1'] at hs2
    have hv2 := hv1.below b2
    have hbx2 := hbx.below b2
    have B2 := b1.trans (b2.mono (by omega))
    have ba : Below w2.heap.size w2 (w2.alloc (.cells #[] 99)) := (Below.refl _ _).alloc (Nat.le_refl _) _
    have hown0 : (w2.alloc (.cells #[] 99)).ownsRow w2.heap.size 99 5 (.slice (some ⟨w2.heap.size, 0, none⟩) 0 0) 0 [] := World.ownsRow_made w2 #[] 0 (Nat.le_refl _) (by unfold maxLen; omega) rfl
    have hv2a := hv2.below ba
    go_wp2_with (at_builtin; refine wpList_cappend_view rfl _ _ rfl w2.heap.size _ _ _ _ l rfl hown0 rfl hv2a (by omega) (by simp) ?_; intro v3 w3 o3 g3 _)
    rw [Nat.zero_add, List.nil_append] at o3
    have B3 : Below w2.heap.size w2 w3 := ba.grown g3 (by simp) (fun k hk => (hown0.lt k hk).1)
    have z3 := B3.size
    have hv3 := hv2.below B3
    have hbx3 := hbx2.below B3
    have B3w := B2.trans (B3.mono (by omega))
    obtain ⟨ao3, cap3, rfl⟩ := cown_slice o3
    clear hbx2 hv2 hv2a hown0 g3 ba hbx hv1 b2 b1
    obtain ⟨_, _, ee, _, _, _, hl⟩ := id hv3
    cases ee
    go_wp2
    go_loopw [8] (fun i wr => ∃ k q : Nat, k ≤ l.length ∧ i = .int .i64 (k : Int) ∧ wr = w3.drewN q ∧ Hid (∀ x ∈ l.take k, ceq c x = false)) (fun i _ => l.length - (intOf i).toNat)
    case atStart => exact ⟨0, 0, by omega, rfl, rfl, fun x hx => by simp at hx⟩
    case round =>
      obtain ⟨k, q, hk, rfl, rfl, HN⟩ := hrel
      by_cases hlt : k < l.length
      · obtain ⟨g, off, rfl, hla⟩ : ∃ g off, ao = some ⟨g, off, none⟩ ∧ CLies w3 g off l := by
          rcases hl with e | h
          · rw [e] at hlt; simp at hlt
          · exact h
        have HL : Hid (l[k]? = some l[k]) := by show _ = _; simp [hlt]
        have hd := hla k l[k] (by simp [hlt])
        have h1 : (k : Int) < (l.length : Int) := by omega
        have he := HEQ.out l[k]
        clear hla hl
        generalize l[k] = d at *
        obtain ⟨d0, d1, d2, d3, d4⟩ := hd
        obtain ⟨c0, c1, c2, c3, c4⟩ := id hbx3
        generalize hcd : ceq d c = b at *
        have HCD := D.hidIt hcd
        clear hcd
        cases b
        · go_wp2
          go_quiet (fail)
          go_wp2
          refine ⟨⟨k + 1, _, by omega, by go_num, rfl, ?_⟩, by simp [intOf]; omega⟩
          intro x hx
          rw [List.take_add_one, HL.out] at hx
          rcases List.mem_append.1 hx with hx | hx
          · exact HN.out x hx
          · simp at hx; subst hx; rw [ceq_comm]; exact HCD.out
        · go_wp2
          go_quiet (fail)
          go_wp2
          go_ret3
          have e : AZ = (l, (k : Int), 0) := by
            rw [← HAZ.out]
            exact addZ_has HRT.out (idxO_some HL.out (by rw [ceq_comm]; exact HCD.out) HN.out)
          rw [e]
          exact ⟨below_drewN (below_drewN B3w _) _, _, rfl, own_base o3 (by omega)⟩
      · have h1 : ¬ (k : Int) < (l.length : Int) := by omega
        have HI : Hid (idxO c l = none) := idxO_none (fun x hx => HN.out x (by rw [List.take_of_length_le (by omega)]; exact hx))
        obtain ⟨c0, c1, c2, c3, c4⟩ := id hbx3
        by_cases h256 : 256 ≤ l.length
        · have h256' : (256 : Int) ≤ (l.length : Int) := by omega
          go_wp2
          go_ret3
          have e : AZ = ([], 0, 4) := by rw [← HAZ.out]; exact addZ_full HRT.out HI.out h256
          rw [e]
          exact ⟨below_drewN B3w _, _, rfl, World.ownsRow_nil _ _ _ _⟩
        · have h256' : ¬ (256 : Int) ≤ (l.length : Int) := by omega
          have o3q : (w3.drewN q).ownsRow w2.heap.size 99 5 (.slice ao3 l.length cap3) l.length (ccells l) := o3
          have B3q := below_drewN B3w q
          have z3q : w2.heap.size ≤ (w3.drewN q).heap.size := z3
          have C3q : CAt (w3.drewN q) w.heap.size 0 c := hbx3.block rfl
          clear c0 c1 c2 c3 c4
          obtain ⟨c0, c1, c2, c3, c4⟩ := id C3q
          generalize w3.drewN q = w4 at *
          go_wp2_with (at_builtin; refine wpList_append_own_at _ rfl _ _ 39 rfl w2.heap.size 99 i0 _ 5 64 Try.underlying39 hi hz0 hz1 hz2 rfl (by decide) _ _ _ rfl (o3q.alloc _) _ 1 1 [.int .i64 c.kind, .int .i32 c.n, .string c.cls, .string c.nm, .string c.dsc] rfl rfl ?q1 ?q2 ?q3 ?q4 ?q5 ?q6)
          case q2 => exact ⟨rfl, rfl, rfl, rfl, rfl⟩
          case q3 => unfold maxLen; omega
          case q4 => omega
          case q5 => omega
          intro v5 w5 o5 g5 _ _
          have B5 : Below w.heap.size w w5 := (B3q.alloc (by omega) _).grown g5 (by simp; omega) (fun k hk => by have := (o3q.lt k hk).1; omega)
          have O5 := own_base (B' := w.heap.size) o5 (by omega)
          rw [hcz.out] at O5
          go_wp2
          go_ret3
          have e : AZ = (l ++ [c], (l.length : Int), 0) := by rw [← HAZ.out]; exact addZ_more HRT.out HI.out h256
          rw [e]
          refine ⟨B5, _, rfl, ?_⟩
          rw [List.length_append]
          exact O5
end Go.Proofs.Ytlnapfeglbdecaa.P3
namespace Go.Proofs.Ytlnapfeglbdecaa.M
open Go.RowKit

theorem hidIt {p : Prop} (h : p) : Hid p := h
theorem ret_int {k : IntKind} {a b : Int} (h : a = b) : Ending.returned (.int k a) = .returned (.int k b) := by rw [h]
theorem below_alloc (w : World) (o : Obj) : Below w.heap.size w (w.alloc o) := (Below.refl _ _).alloc (Nat.le_refl _) o
theorem below_drewN {B : Nat} {w W : World} (h : Below B w W) (q : Nat) : Below B w (W.drewN q) := ⟨h.os, h.tape, h.output, h.size, h.block⟩
theorem cell_row {w : World} {b : Nat} {cs : Array Value} {T : TypeId} (h : w.heap[b]? = some (.cells cs T (0, 0))) (j : Nat) {v : Value} (hv : cs[j]? = some v) : w.cell? ⟨b, j, none⟩ = some v := by
  rw [cell_of_row w b j _ T (0, 0) h]; exact hv
theorem frozen_row {w : World} {b : Nat} {cs : Array Value} {T : TypeId} (hb : w.heap[b]? = some (.cells cs T (0, 0))) (j : Nat) : w.frozen? ⟨b, j, none⟩ = false := by
  simp [World.frozen?, hb]
theorem set_row {w : World} {g j : Nat} {cur : Array Value} {T : TypeId} {u : Value} (h : w.heap[g]? = some (.cells cur T (0, 0))) : (w.setCell ⟨g, j, none⟩ u).heap[g]? = some (.cells (cur.setIfInBounds j u) T (0, 0)) := by
  simp only [World.setCell, Array.getElem?_modify, if_pos, h, Option.map_some]
  try simp
theorem other_block {w : World} {k k' : Nat} {cs cs' : Array Value} {T T' : TypeId} {f f' : Nat × Nat} (h : w.heap[k]? = some (.cells cs T f)) (h' : w.heap[k']? = some (.cells cs' T' f')) (hT : T ≠ T') : k ≠ k' := by
  rintro rfl
  rw [h] at h'
  cases h'
  exact hT rfl
theorem own_slice {w : World} {B e s n : Nat} {v : Value} {xs : List Value} (h : w.ownsRow B e s v n xs) : ∃ ao cap, v = .slice ao n cap := by
  rcases h.2 with ⟨rfl, rfl⟩ | ⟨g, cap, cur, rfl, _⟩
  · exact ⟨_, _, rfl⟩
  · exact ⟨_, _, rfl⟩

def Same (T : TypeId) (w w' : World) : Prop := ∀ (g : Nat) (cur : Array Value), w.heap[g]? = some (.cells cur T (0, 0)) → w'.heap[g]? = some (.cells cur T (0, 0))
theorem Same.refl (T : TypeId) (w : World) : Same T w w := fun _ _ h => h
theorem Same.trans {T : TypeId} {a b c : World} (h : Same T a b) (k : Same T b c) : Same T a c := fun g cur hg => k g cur (h g cur hg)
theorem Same.of_below {T : TypeId} {w w' : World} (h : Below w.heap.size w w') : Same T w w' := fun g _ hg => (h.block g (Array.getElem?_eq_some_iff.1 hg).1).trans hg
theorem Same.of_set {T : TypeId} {w : World} {k o U : Nat} {cs : Array Value} {u : Value} (h : w.heap[k]? = some (.cells cs U (0, 0))) (hT : T ≠ U) : Same T w (w.setCell ⟨k, o, none⟩ u) := fun g cur hg => by
  rw [Below.heap_setCell _ _ _ _ (other_block hg h hT)]; exact hg
theorem Same.of_grown {w w' : World} {B U s n : Nat} {v : Value} {xs : List Value} (own : w.ownsRow B U s v n xs) (h : w.grownBy w' v.ownBlock) {T : TypeId} (hT : T ≠ U) : Same T w w' := fun g cur hg => by
  have hlt := (Array.getElem?_eq_some_iff.1 hg).1
  have hne : some g ≠ v.ownBlock := by
    intro e
    rcases own.2 with ⟨rfl, _⟩ | ⟨g', _, _, rfl, _, h1, _⟩
    · cases e
    · cases e
      rw [h1] at hg
      cases hg
      exact hT rfl
  exact (h.block g hlt hne).trans hg
theorem own_same {w w' : World} {B T s n : Nat} {v : Value} {xs : List Value} (h : w.ownsRow B T s v n xs) (k : Same T w w') : w'.ownsRow B T s v n xs := by
  refine ⟨h.1, ?_⟩
  rcases h.2 with x | ⟨g, cap, cur, rfl, hB, hg, r⟩
  · exact .inl x
  · exact .inr ⟨g, cap, cur, rfl, hB, k g cur hg, r⟩

structure Kq (B pr : Nat) (w w' : World) : Prop where
  os : w'.os = w.os
  tape : w'.tape = w.tape
  output : w'.output = w.output
  size : w.heap.size ≤ w'.heap.size
  block : ∀ k, k < B → k ≠ pr → w'.heap[k]? = w.heap[k]?
theorem Kq.refl (B pr : Nat) (w : World) : Kq B pr w w := ⟨rfl, rfl, rfl, Nat.le_refl _, fun _ _ _ => rfl⟩
theorem Kq.trans {B pr : Nat} {a b c : World} (h : Kq B pr a b) (k : Kq B pr b c) : Kq B pr a c := ⟨k.os.trans h.os, k.tape.trans h.tape, k.output.trans h.output, Nat.le_trans h.size k.size, fun i hi hp => (k.block i hi hp).trans (h.block i hi hp)⟩
theorem Kq.of_below {B pr C : Nat} {w w' : World} (h : Below C w w') (hB : B ≤ C) : Kq B pr w w' := ⟨h.os, h.tape, h.output, h.size, fun k hk _ => h.block k (by omega)⟩
theorem Kq.drew {B pr : Nat} {w w' : World} (h : Kq B pr w w') (q : Nat) : Kq B pr w (w'.drewN q) := ⟨h.os, h.tape, h.output, h.size, h.block⟩
theorem Kq.set {B pr k o : Nat} {w w' : World} {u : Value} (h : Kq B pr w w') (hk : B ≤ k ∨ k = pr) : Kq B pr w (w'.setCell ⟨k, o, none⟩ u) :=
  ⟨h.os, h.tape, h.output, by simpa [World.setCell] using h.size, fun i hi hp => by rw [Below.heap_setCell _ _ _ _ (by show i ≠ k; omega)]; exact h.block i hi hp⟩
theorem Kq.grown {B pr : Nat} {w w1 w' : World} {g : Option Nat} (h : Kq B pr w w1) (k : w1.grownBy w' g) (hB : B ≤ w1.heap.size) (hg : ∀ x, g = some x → B ≤ x) : Kq B pr w w' :=
  ⟨k.os.trans h.os, k.tape.trans h.tape, k.output.trans h.output, Nat.le_trans h.size k.size, fun i hi hp => (k.block i (by omega) (fun e => by have := hg i e.symm; omega)).trans (h.block i hi hp)⟩

def NV (B pr : Nat) (w : World) (v : Value) (l : List Int) : Prop :=
  ∃ ao cap, v = .slice ao l.length cap ∧ l.length ≤ cap ∧ cap ≤ maxLen ∧ (∀ x ∈ l, -9223372036854775808 ≤ x ∧ x ≤ 9223372036854775807) ∧ (l = [] ∨ ∃ g off, ao = some ⟨g, off, none⟩ ∧ g < B ∧ g < pr ∧ ∀ j x, l[j]? = some x → w.cell? ⟨g, off + j, none⟩ = some (.int .i64 x))
theorem NV.kq {B pr : Nat} {w w' : World} {v : Value} {l : List Int} (h : NV B pr w v l) (k : Kq B pr w w') : NV B pr w' v l := by
  obtain ⟨ao, cap, e, hc, hm, hx, hl⟩ := h
  refine ⟨ao, cap, e, hc, hm, hx, ?_⟩
  rcases hl with h | ⟨g, off, e, hg, hp, hl⟩
  · exact .inl h
  · exact .inr ⟨g, off, e, hg, hp, fun j x hj => (World.cell?_of_block (a := ⟨g, off + j, none⟩) (k.block g hg (Nat.ne_of_lt hp))).trans (hl j x hj)⟩

structure LN where
  pl : Int
  op : Int
  a : Int
  b : Int
  lb : Int
  hr : Int
def lrow (x : LN) : List Value := [.int .i64 x.pl, .int .i64 x.op, .int .i64 x.a, .int .i64 x.b, .int .i64 x.lb, .int .i64 x.hr]
def lcells (l : List LN) : List Value := l.flatMap lrow
theorem lcells_append (a b : List LN) : lcells (a ++ b) = lcells a ++ lcells b := by simp [lcells]
structure TR where
  f : Int
  t : Int
  a : Int
def trow (x : TR) : List Value := [.int .i64 x.f, .int .i64 x.t, .int .i64 x.a]
def tcells (l : List TR) : List Value := l.flatMap trow
theorem tcells_append (a b : List TR) : tcells (a ++ b) = tcells a ++ tcells b := by simp [tcells]
def ncells (l : List Int) : List Value := l.map (Value.int .i64)
theorem ncells_append (a b : List Int) : ncells (a ++ b) = ncells a ++ ncells b := by simp [ncells]
abbrev CD := P3.CD
abbrev ccells (l : List CD) : List Value := P3.ccells l
structure MS where
  vr : Value
  rl : List Int
  at_ : Nat
  vp : Value
  pool : List CD
  vl : Value
  ls : List LN
  vh : Value
  hs : List TR
  vt : Value
  ts : List Int
  labels : Nat
  left : Int
  depth : Nat
  plain : Bool
def mblk (pr : Nat) (s : MS) : Array Value := #[.pointer (some ⟨pr, 0, none⟩), s.vp, s.vl, .int .i64 s.labels, .bool s.plain, .int .i64 s.left, .int .i64 s.depth, s.vh, s.vt, .slice none 0 0]
structure MkP (B pr pm : Nat) (s : MS) (w : World) : Prop where
  blk : w.heap[pm]? = some (.cells (mblk pr s) 86 (0, 0))
  rec_ : w.heap[pr]? = some (.cells #[s.vr, .int .i64 s.at_] 60 (0, 0))
  rl : NV B pr w s.vr s.rl
  p : w.ownsRow 0 99 5 s.vp s.pool.length (ccells s.pool)
  l : w.ownsRow B 94 6 s.vl s.ls.length (lcells s.ls)
  h : w.ownsRow B 106 3 s.vh s.hs.length (tcells s.hs)
  t : w.ownsRow B 3 1 s.vt s.ts.length (ncells s.ts)
  hpm : B ≤ pm
  hpr : pr < B
  at_le : s.at_ ≤ s.rl.length
structure Stands (w w' : World) : Prop where
  t83 : Same 60 w w'
  t106 : Same 99 w w'
  t101 : Same 94 w w'
  t113 : Same 106 w w'
  t3 : Same 3 w w'
theorem MkP.stands {B pr pm : Nat} {s : MS} {w w' : World} (h : MkP B pr pm s w) (k : Kq B pr w w') (q : Stands w w') (h93 : Same 86 w w') : MkP B pr pm s w' :=
  ⟨h93 _ _ h.blk, q.t83 _ _ h.rec_, h.rl.kq k, own_same h.p q.t106, own_same h.l q.t101, own_same h.h q.t113, own_same h.t q.t3, h.hpm, h.hpr, h.at_le⟩
theorem MkP.lt {B pr pm : Nat} {s : MS} {w : World} (h : MkP B pr pm s w) : pm < w.heap.size ∧ B ≤ w.heap.size := by
  have := (Array.getElem?_eq_some_iff.1 h.blk).1
  have := h.hpm
  omega
theorem MkP.below {B pr pm : Nat} {s : MS} {w w' : World} (h : MkP B pr pm s w) (hb : Below w.heap.size w w') : MkP B pr pm s w' :=
  h.stands (Kq.of_below hb h.lt.2) ⟨Same.of_below hb, Same.of_below hb, Same.of_below hb, Same.of_below hb, Same.of_below hb⟩ (Same.of_below hb)
theorem MkP.drew {B pr pm : Nat} {s : MS} {w : World} (h : MkP B pr pm s w) (q : Nat) : MkP B pr pm s (w.drewN q) := ⟨h.blk, h.rec_, h.rl, h.p, h.l, h.h, h.t, h.hpm, h.hpr, h.at_le⟩
theorem MkP.set {B pr pm : Nat} {s s' : MS} {w : World} (h : MkP B pr pm s w) (o : Nat) (u : Value) (hs : (mblk pr s).setIfInBounds o u = mblk pr s')
    (e1 : s'.vr = s.vr) (e2 : s'.rl = s.rl) (e3 : s'.at_ = s.at_) (e4 : s'.vp = s.vp) (e5 : s'.pool = s.pool) (e6 : s'.vl = s.vl) (e7 : s'.ls = s.ls) (e8 : s'.vh = s.vh) (e9 : s'.hs = s.hs) (e10 : s'.vt = s.vt) (e11 : s'.ts = s.ts) :
    MkP B pr pm s' (w.setCell ⟨pm, o, none⟩ u) := by
  have S : ∀ T, T ≠ 86 → Same T w (w.setCell ⟨pm, o, none⟩ u) := fun T hT => Same.of_set h.blk hT
  refine ⟨by rw [set_row h.blk, hs], ?_, ?_, ?_, ?_, ?_, ?_, h.hpm, h.hpr, by rw [e2, e3]; exact h.at_le⟩
  · rw [e1, e3]; exact S 60 (by decide) _ _ h.rec_
  · rw [e1, e2]; exact h.rl.kq ((Kq.refl B pr w).set (.inl h.hpm))
  · rw [e4, e5]; exact own_same h.p (S 99 (by decide))
  · rw [e6, e7]; exact own_same h.l (S 94 (by decide))
  · rw [e8, e9]; exact own_same h.h (S 106 (by decide))
  · rw [e10, e11]; exact own_same h.t (S 3 (by decide))
theorem MkP.putL {B pr pm : Nat} {s : MS} {w w1 : World} {o : Obj} {v1 : Value} {x : LN} (h : MkP B pr pm s w) (hg : (w.alloc o).grownBy w1 s.vl.ownBlock) (ho : w1.ownsRow B 94 6 v1 (s.ls.length + 1) (lcells s.ls ++ lrow x)) :
    w1.heap[pm]? = some (.cells (mblk pr s) 86 (0, 0)) ∧ MkP B pr pm { s with vl := v1, ls := s.ls ++ [x] } (w1.setCell ⟨pm, 2, none⟩ v1) ∧ Kq B pr w (w1.setCell ⟨pm, 2, none⟩ v1) := by
  have hA := h.below (below_alloc w o)
  have S : ∀ T, T ≠ 94 → Same T (w.alloc o) w1 := fun T hT => Same.of_grown hA.l hg hT
  have hb := S 86 (by decide) _ _ hA.blk
  have S2 : ∀ T, T ≠ 86 → Same T w1 (w1.setCell ⟨pm, 2, none⟩ v1) := fun T hT => Same.of_set hb hT
  have hBz := h.lt.2
  have K1 : Kq B pr w w1 := (Kq.of_below (below_alloc w o) hBz).grown hg (by simp; omega) (fun k e => (hA.l.lt k e).1)
  have K2 : Kq B pr w (w1.setCell ⟨pm, 2, none⟩ v1) := K1.set (.inl h.hpm)
  refine ⟨hb, ⟨?_, (S2 60 (by decide)) _ _ ((S 60 (by decide)) _ _ hA.rec_), h.rl.kq K2, own_same hA.p ((S 99 (by decide)).trans (S2 99 (by decide))), ?_, own_same hA.h ((S 106 (by decide)).trans (S2 106 (by decide))), own_same hA.t ((S 3 (by decide)).trans (S2 3 (by decide))), h.hpm, h.hpr, h.at_le⟩, K2⟩
  · rw [set_row hb]; rfl
  · rw [show ({ s with vl := v1, ls := s.ls ++ [x] } : MS).ls = s.ls ++ [x] from rfl, lcells_append, List.length_append]
    exact own_same (by simpa [lcells] using ho) (S2 94 (by decide))
theorem infoL : (Try.prog.info? 94).map (fun i => (i.zero, i.size, i.bytes)) = some (some (.agg #[.int .i64 0, .int .i64 0, .int .i64 0, .int .i64 0, .int .i64 0, .int .i64 0]), 6, 48) := by kernel_rfl
theorem lrow_one (x : LN) : ∀ u ∈ lrow x, u.oneCell' = true := by
  intro u hu
  simp [lrow] at hu
  rcases hu with rfl | rfl | rfl | rfl | rfl | rfl <;> rfl
theorem wpList_lappend {w : World} {ops : Array Oper} {rest : List Oper} {o : Oper} {a : Act} {Q : Exit → Act → World → Prop} (hgd : o.guard = none) (s x : Operand)
    (ho : o.op = .call { callee := .builtin .append, args := #[s, x], argTypes := #[82, 82] })
    (B : Nat) (v : Value) (n : Nat) (xs : List Value) (y : LN) (hs : a.eval s = v) (hown : w.ownsRow B 94 6 v n xs) (hx : a.eval x = .slice (some ⟨w.heap.size, 0, none⟩) 1 1)
    (hlen : n ≤ 1000000) (hB : B ≤ w.heap.size)
    (h : ∀ v' w', w'.ownsRow B 94 6 v' (n + 1) (xs ++ lrow y) → (w.alloc (.cells (lrow y).toArray 94)).grownBy w' v.ownBlock → wpList Try.prog ops Q rest (a.put o.dst v') w') :
    wpList Try.prog ops Q (o :: rest) a (w.alloc (.cells (lrow y).toArray 94)) := by
  obtain ⟨i0, hi, hz0, hz1, hz2⟩ := info_parts infoL
  refine wpList_plain hgd fun K hK => ?_
  have hown' : (w.alloc (.cells (lrow y).toArray 94)).ownsRow B 94 6 v n xs := own_same hown (Same.of_below (below_alloc w _))
  obtain ⟨v', w', hr, h2, h3, _, h4⟩ := run_append_own_at (P := Try.prog) (w.alloc (.cells (lrow y).toArray 94)) B 82 o.type 94 i0 _ 6 48 Try.underlying82 hi hz0 hz1 hz2 rfl (by decide) v n xs hown' ⟨w.heap.size, 0, none⟩ 1 1 (lrow y) rfl
    (fun j u hj => by
      have e : (⟨w.heap.size, 0, none⟩ : Addr).add j = ⟨w.heap.size, j, none⟩ := by unfold Addr.add; split <;> simp_all
      rw [e]
      exact cell_row (heap_alloc_new w _) j (by simpa using hj)) (lrow_one y) (by unfold maxLen; omega) (by omega) (by simp; omega)
  unfold Oper.wp execOp
  simp only [ho, resolve, invoke, builtin, Sem.run_bind, Sem.run_pure, Result.andThen_ok, List.map_toArray, List.map_cons, List.map_nil, hs, hx, hr]
  exact hK _ _ (h v' w' h2 h3)
structure SG where
  pool : List CD
  ls : List LN
  labels : Nat
  left : Int
  hs : List TR
  ts : List Int
def MS.sg (s : MS) : SG := ⟨s.pool, s.ls, s.labels, s.left, s.hs, s.ts⟩
def SG.put (σ : SG) (op a b : Int) : SG := { σ with ls := σ.ls ++ [⟨0, op, a, b, -1, -1⟩], left := σ.left - 1 }
def SG.jump (σ : SG) (op lbl : Int) : SG := { σ with ls := σ.ls ++ [⟨0, op, 0, 0, lbl, -1⟩], left := σ.left - 1 }
def SG.here (σ : SG) (lbl : Int) : SG := { σ with ls := σ.ls ++ [⟨0, -1, 0, 0, -1, lbl⟩] }
def SG.mark (σ : SG) : SG := { σ with labels := σ.labels + 1 }
def SG.add (σ : SG) (c : CD) : SG := { σ with pool := (P3.addZ σ.pool c).1 }
def SG.ix (σ : SG) (c : CD) : Int := (P3.addZ σ.pool c).2.1
end Go.Proofs.Ytlnapfeglbdecaa.M
namespace Go.Proofs.Ytlnapfeglbdecaa.M
open Go.RowKit

structure MkB (n d : Nat) (pl : Bool) (s : MS) : Prop where
  dep : s.depth = d
  pln : s.plain = pl
  lb : s.labels ≤ n
  ln : s.ls.length ≤ n
  pn : s.pool.length ≤ n
  hn : s.hs.length ≤ n
  tn : s.ts.length ≤ n
  l0 : -(n : Int) ≤ s.left
  l1 : s.left ≤ 110
  small : ∀ x ∈ s.pool, P3.CD.Ok x
def Mk (B pr pm n d : Nat) (pl : Bool) (σ : SG) (w : World) : Prop := ∃ s, MkP B pr pm s w ∧ MkB n d pl s ∧ s.sg = σ
theorem MkB.mono {n n' d : Nat} {pl : Bool} {s : MS} (h : MkB n d pl s) (hn : n ≤ n') : MkB n' d pl s :=
  ⟨h.dep, h.pln, by have := h.lb; omega, by have := h.ln; omega, by have := h.pn; omega, by have := h.hn; omega, by have := h.tn; omega, by have := h.l0; omega, h.l1, h.small⟩
theorem Mk.mono {B pr pm n n' d : Nat} {pl : Bool} {σ : SG} {w : World} (h : Mk B pr pm n d pl σ w) (hn : n ≤ n') : Mk B pr pm n' d pl σ w := by
  obtain ⟨s, h1, h2, h3⟩ := h
  exact ⟨s, h1, h2.mono hn, h3⟩
theorem Mk.below {B pr pm n d : Nat} {pl : Bool} {σ : SG} {w w' : World} (h : Mk B pr pm n d pl σ w) (hb : Below w.heap.size w w') : Mk B pr pm n d pl σ w' := by
  obtain ⟨s, h1, h2⟩ := h
  exact ⟨s, h1.below hb, h2⟩
theorem Mk.kq {B pr pm n d : Nat} {pl : Bool} {σ : SG} {w w' : World} (h : Mk B pr pm n d pl σ w) (hb : Below w.heap.size w w') : Kq B pr w w' := by
  obtain ⟨s, h1, -⟩ := h
  exact Kq.of_below hb h1.lt.2

def OnlyB (pr : Nat) (w w' : World) : Prop := ∀ k, k ≠ pr → w'.heap[k]? = w.heap[k]?
theorem MkP.drewS {B pr pm : Nat} {s : MS} {w : World} {x : Addr} {u : Value} (h : MkP B pr pm s (w.setCell x u)) (q : Nat) : MkP B pr pm s ((w.drewN q).setCell x u) := ⟨h.blk, h.rec_, h.rl, h.p, h.l, h.h, h.t, h.hpm, h.hpr, h.at_le⟩
theorem Kq.drewS {B pr : Nat} {w w' : World} {x : Addr} {u : Value} (h : Kq B pr w (w'.setCell x u)) (q : Nat) : Kq B pr w ((w'.drewN q).setCell x u) := ⟨h.os, h.tape, h.output, h.size, h.block⟩
theorem MkP.took {B pr pm : Nat} {s : MS} {w : World} (h : MkP B pr pm s w) (hlt : s.at_ < s.rl.length) : MkP B pr pm { s with at_ := s.at_ + 1 } (w.setCell ⟨pr, 1, none⟩ (.int .i64 ((s.at_ : Int) + 1))) := by
  have S : ∀ T, T ≠ 60 → Same T w (w.setCell ⟨pr, 1, none⟩ (.int .i64 ((s.at_ : Int) + 1))) := fun T hT => Same.of_set h.rec_ hT
  refine ⟨S 86 (by decide) _ _ h.blk, ?_, h.rl.kq ((Kq.refl B pr w).set (.inr rfl)), own_same h.p (S 99 (by decide)), own_same h.l (S 94 (by decide)), own_same h.h (S 106 (by decide)), own_same h.t (S 3 (by decide)), h.hpm, h.hpr, hlt⟩
  rw [set_row h.rec_]
  simp
set_option maxRecDepth 8000 in
set_option maxHeartbeats 2000000 in
theorem take_any (B pr pm n d : Nat) (pl : Bool) (σ : SG) (k : Nat) (w : World) (h : Mk B pr pm n d pl σ w) (hk : 0 < k) (hk2 : k ≤ 100000) :
    Calls Try.prog 17 #[.pointer (some ⟨pr, 0, none⟩), .int .i64 (k : Int)] w fun e w' => (∃ x : Nat, x < k ∧ e = .returned (.int .i64 (x : Int))) ∧ Mk B pr pm n d pl σ w' ∧ Kq B pr w w' ∧ OnlyB pr w w' := by
  obtain ⟨s, HP, HB, hsg⟩ := h
  have HSG := hidIt hsg
  clear hsg
  have c0 := cell_row HP.rec_ 0 rfl
  have c1 := cell_row HP.rec_ 1 rfl
  have hal := HP.at_le
  obtain ⟨ao, cap, hvr, hc, hm, hrg, hl⟩ := HP.rl
  rw [hvr] at c0
  unfold maxLen at hm
  have f0 := frozen_row HP.rec_
  have hk' : ¬ (k : Int) = 0 := by omega
  have HREC : Hid (∀ u, MkP B pr pm { s with at_ := s.at_ + 1 } (w.setCell ⟨pr, 1, none⟩ u) ∨ True) := fun _ => .inr trivial
  by_cases hlt : s.at_ < s.rl.length
  · obtain ⟨x, hx⟩ : ∃ x, s.rl[s.at_]? = some x := ⟨s.rl[s.at_], List.getElem?_eq_getElem hlt⟩
    have hlt' : (s.at_ : Int) < (s.rl.length : Int) := by omega
    obtain ⟨g, off, rfl, hg, hgp, hcl⟩ : ∃ g off, ao = some ⟨g, off, none⟩ ∧ g < B ∧ g < pr ∧ ∀ j x, s.rl[j]? = some x → w.cell? ⟨g, off + j, none⟩ = some (.int .i64 x) := by
      rcases hl with h | h
      · rw [h] at hlt; simp at hlt
      · exact h
    have cx := hcl s.at_ x hx
    have HT := hidIt (HP.took hlt)
    have HBB := hidIt HB
    obtain ⟨r0, r1⟩ := hrg x (List.mem_of_getElem? hx)
    have HK1 := hidIt ((Kq.refl B pr w).set (o := 1) (u := .int .i64 ((s.at_ : Int) + 1)) (.inr rfl))
    clear hl hcl HREC hrg hx
    by_cases hneg : x < 0
    · have t0 := Int.emod_nonneg (-(x + 1)) (b := (k : Int)) (by omega)
      have t1 := Int.emod_lt_of_pos (-(x + 1)) (b := (k : Int)) (by omega)
      go_enter Try.func17, Try.ntmps17
      go_wp2
      go_quiet (fail)
      go_wp2
      go_quiet (fail)
      go_wp2
      go_ret
      refine ⟨⟨((-(x + 1)) % (k : Int)).toNat, by omega, ret_int ?_⟩, ⟨_, HT.out.drewS _, ?_⟩, HK1.out.drewS _, fun k hk => Below.heap_setCell _ _ _ _ hk⟩
      · rw [Int.toNat_of_nonneg t0, ← Int.neg_tmod, Int.tmod_eq_emod_of_nonneg (by omega)]
      · exact ⟨⟨HBB.out.dep, HBB.out.pln, HBB.out.lb, HBB.out.ln, HBB.out.pn, HBB.out.hn, HBB.out.tn, HBB.out.l0, HBB.out.l1, HBB.out.small⟩, HSG.out⟩
    · have t0 := Int.emod_nonneg x (b := (k : Int)) (by omega)
      have t1 := Int.emod_lt_of_pos x (b := (k : Int)) (by omega)
      go_enter Try.func17, Try.ntmps17
      go_wp2
      go_quiet (fail)
      go_wp2
      go_quiet (fail)
      go_wp2
      go_ret
      refine ⟨⟨(x % (k : Int)).toNat, by omega, ret_int ?_⟩, ⟨_, HT.out.drewS _, ?_⟩, HK1.out.drewS _, fun k hk => Below.heap_setCell _ _ _ _ hk⟩
      · rw [Int.toNat_of_nonneg t0]
      · exact ⟨⟨HBB.out.dep, HBB.out.pln, HBB.out.lb, HBB.out.ln, HBB.out.pn, HBB.out.hn, HBB.out.tn, HBB.out.l0, HBB.out.l1, HBB.out.small⟩, HSG.out⟩
  · have hlt' : ¬ (s.at_ : Int) < (s.rl.length : Int) := by omega
    have HBB := hidIt HB
    clear hl hrg HREC
    go_enter Try.func17, Try.ntmps17
    go_wp2
    go_quiet (fail)
    go_wp2
    go_ret
    refine ⟨⟨0, hk, ret_int ?_⟩, ⟨_, HP.drew _, HBB.out, HSG.out⟩, (Kq.refl B pr w).drew _, fun _ _ => rfl⟩
    simp
theorem kcells {pr pm : Nat} {s : MS} {w : World} (h : w.heap[pm]? = some (.cells (mblk pr s) 86 (0, 0))) :
    w.cell? ⟨pm, 0, none⟩ = some (.pointer (some ⟨pr, 0, none⟩)) ∧ w.cell? ⟨pm, 1, none⟩ = some s.vp ∧ w.cell? ⟨pm, 2, none⟩ = some s.vl ∧ w.cell? ⟨pm, 3, none⟩ = some (.int .i64 s.labels) ∧ w.cell? ⟨pm, 4, none⟩ = some (.bool s.plain) ∧ w.cell? ⟨pm, 5, none⟩ = some (.int .i64 s.left) ∧ w.cell? ⟨pm, 6, none⟩ = some (.int .i64 s.depth) :=
  ⟨cell_row h 0 rfl, cell_row h 1 rfl, cell_row h 2 rfl, cell_row h 3 rfl, cell_row h 4 rfl, cell_row h 5 rfl, cell_row h 6 rfl⟩
set_option maxRecDepth 8000 in
set_option maxHeartbeats 2000000 in
theorem put_any (B pr pm n d : Nat) (pl : Bool) (σ : SG) (op a b : Int) (w : World) (h : Mk B pr pm n d pl σ w) (hn : n ≤ 900000) :
    Calls Try.prog 27 #[.pointer (some ⟨pm, 0, none⟩), .int .i64 op, .int .i64 a, .int .i64 b] w fun e w' => e = .returned (.tuple #[]) ∧ Mk B pr pm (n + 1) d pl (σ.put op a b) w' ∧ Kq B pr w w' := by
  obtain ⟨s, HP, HB, hsg⟩ := h
  have HSG := hidIt hsg
  clear hsg
  obtain ⟨-, -, c2, -, -, c5, -⟩ := kcells HP.blk
  have f0 := frozen_row HP.blk
  have hz := HP.lt
  have hln := HB.ln
  have L0 := HB.l0
  have L1 := HB.l1
  have HPL := hidIt (fun v1 w1 hg ho => HP.putL (o := .cells (lrow ⟨0, op, a, b, -1, -1⟩).toArray 94) (v1 := v1) (w1 := w1) (x := ⟨0, op, a, b, -1, -1⟩) hg ho)
  have hOl := HP.l
  obtain ⟨aol, capl, el⟩ := own_slice HP.l
  have HEL := hidIt el
  rw [el] at c2
  go_enter Try.func27, Try.ntmps27
  go_wp2_with (at_builtin; refine wpList_lappend rfl _ _ rfl B (.slice aol s.ls.length capl) _ _ ⟨0, op, a, b, -1, -1⟩ rfl (by rw [← HEL.out]; exact hOl) rfl (by omega) (by omega) ?_; intro v1 w1 ho1 hg1; obtain ⟨hb1, HP1, K1⟩ := HPL.out v1 w1 (by rw [HEL.out]; exact hg1) ho1; obtain ⟨-, -, q2, -, -, q5, -⟩ := kcells hb1; have qf := frozen_row hb1; obtain ⟨ao1, cap1, rfl⟩ := own_slice ho1)
  go_end0
  refine ⟨rfl, ⟨_, HP1.set (s' := { s with vl := .slice ao1 (s.ls.length + 1) cap1, ls := s.ls ++ [⟨0, op, a, b, -1, -1⟩], left := s.left - 1 }) 5 (.int .i64 (s.left - 1)) rfl rfl rfl rfl rfl rfl rfl rfl rfl rfl rfl rfl, ?_⟩, K1.set (.inl HP.hpm)⟩
  refine ⟨⟨HB.dep, HB.pln, by have := HB.lb; simp only; omega, by simp; omega, by have := HB.pn; simp only; omega, by have := HB.hn; simp only; omega, by have := HB.tn; simp only; omega, by simp only; omega, by simp only; omega, HB.small⟩, ?_⟩
  rw [← HSG.out]
  rfl
set_option maxRecDepth 8000 in
set_option maxHeartbeats 2000000 in
theorem jump_any (B pr pm n d : Nat) (pl : Bool) (σ : SG) (op : Int) (lbl : Nat) (w : World) (h : Mk B pr pm n d pl σ w) (hn : n ≤ 900000) :
    Calls Try.prog 68 #[.pointer (some ⟨pm, 0, none⟩), .int .i64 op, .int .i64 (lbl : Int)] w fun e w' => e = .returned (.tuple #[]) ∧ Mk B pr pm (n + 1) d pl (σ.jump op (lbl : Int)) w' ∧ Kq B pr w w' := by
  obtain ⟨s, HP, HB, hsg⟩ := h
  have HSG := hidIt hsg
  clear hsg
  obtain ⟨-, -, c2, -, -, c5, -⟩ := kcells HP.blk
  have f0 := frozen_row HP.blk
  have hz := HP.lt
  have hln := HB.ln
  have L0 := HB.l0
  have L1 := HB.l1
  have HPL := hidIt (fun v1 w1 hg ho => HP.putL (o := .cells (lrow ⟨0, op, 0, 0, (lbl : Int), -1⟩).toArray 94) (v1 := v1) (w1 := w1) (x := ⟨0, op, 0, 0, (lbl : Int), -1⟩) hg ho)
  have hOl := HP.l
  obtain ⟨aol, capl, el⟩ := own_slice HP.l
  have HEL := hidIt el
  rw [el] at c2
  go_enter Try.func68, Try.ntmps68
  go_wp2_with (at_builtin; refine wpList_lappend rfl _ _ rfl B (.slice aol s.ls.length capl) _ _ ⟨0, op, 0, 0, (lbl : Int), -1⟩ rfl (by rw [← HEL.out]; exact hOl) rfl (by omega) (by omega) ?_; intro v1 w1 ho1 hg1; obtain ⟨hb1, HP1, K1⟩ := HPL.out v1 w1 (by rw [HEL.out]; exact hg1) ho1; obtain ⟨-, -, q2, -, -, q5, -⟩ := kcells hb1; have qf := frozen_row hb1; obtain ⟨ao1, cap1, rfl⟩ := own_slice ho1)
  go_end0
  refine ⟨rfl, ⟨_, HP1.set (s' := { s with vl := .slice ao1 (s.ls.length + 1) cap1, ls := s.ls ++ [⟨0, op, 0, 0, (lbl : Int), -1⟩], left := s.left - 1 }) 5 (.int .i64 (s.left - 1)) rfl rfl rfl rfl rfl rfl rfl rfl rfl rfl rfl rfl, ?_⟩, K1.set (.inl HP.hpm)⟩
  refine ⟨⟨HB.dep, HB.pln, by have := HB.lb; simp only; omega, by simp; omega, by have := HB.pn; simp only; omega, by have := HB.hn; simp only; omega, by have := HB.tn; simp only; omega, by simp only; omega, by simp only; omega, HB.small⟩, ?_⟩
  rw [← HSG.out]
  rfl
set_option maxRecDepth 8000 in
set_option maxHeartbeats 2000000 in
theorem here_any (B pr pm n d : Nat) (pl : Bool) (σ : SG) (lbl : Nat) (w : World) (h : Mk B pr pm n d pl σ w) (hn : n ≤ 900000) :
    Calls Try.prog 69 #[.pointer (some ⟨pm, 0, none⟩), .int .i64 (lbl : Int)] w fun e w' => e = .returned (.tuple #[]) ∧ Mk B pr pm (n + 1) d pl (σ.here (lbl : Int)) w' ∧ Kq B pr w w' := by
  obtain ⟨s, HP, HB, hsg⟩ := h
  have HSG := hidIt hsg
  clear hsg
  obtain ⟨-, -, c2, -, -, c5, -⟩ := kcells HP.blk
  have f0 := frozen_row HP.blk
  have hz := HP.lt
  have hln := HB.ln
  have L0 := HB.l0
  have L1 := HB.l1
  have HPL := hidIt (fun v1 w1 hg ho => HP.putL (o := .cells (lrow ⟨0, -1, 0, 0, -1, (lbl : Int)⟩).toArray 94) (v1 := v1) (w1 := w1) (x := ⟨0, -1, 0, 0, -1, (lbl : Int)⟩) hg ho)
  have hOl := HP.l
  obtain ⟨aol, capl, el⟩ := own_slice HP.l
  have HEL := hidIt el
  rw [el] at c2
  go_enter Try.func69, Try.ntmps69
  go_wp2_with (at_builtin; refine wpList_lappend rfl _ _ rfl B (.slice aol s.ls.length capl) _ _ ⟨0, -1, 0, 0, -1, (lbl : Int)⟩ rfl (by rw [← HEL.out]; exact hOl) rfl (by omega) (by omega) ?_; intro v1 w1 ho1 hg1; obtain ⟨hb1, HP1, K1⟩ := HPL.out v1 w1 (by rw [HEL.out]; exact hg1) ho1; obtain ⟨-, -, q2, -, -, q5, -⟩ := kcells hb1; have qf := frozen_row hb1; obtain ⟨ao1, cap1, rfl⟩ := own_slice ho1)
  go_end0
  refine ⟨rfl, ⟨_, HP1, ?_⟩, K1⟩
  refine ⟨⟨HB.dep, HB.pln, by have := HB.lb; simp only; omega, by simp; omega, by have := HB.pn; simp only; omega, by have := HB.hn; simp only; omega, by have := HB.tn; simp only; omega, by simp only; omega, by simp only; omega, HB.small⟩, ?_⟩
  rw [← HSG.out]
  rfl
set_option maxRecDepth 8000 in
set_option maxHeartbeats 2000000 in
theorem mark_any (B pr pm n d : Nat) (pl : Bool) (σ : SG) (w : World) (h : Mk B pr pm n d pl σ w) (hn : n ≤ 900000) :
    Calls Try.prog 67 #[.pointer (some ⟨pm, 0, none⟩)] w fun e w' => e = .returned (.int .i64 (σ.labels : Int)) ∧ Mk B pr pm (n + 1) d pl σ.mark w' ∧ Kq B pr w w' := by
  obtain ⟨s, HP, HB, hsg⟩ := h
  have HSG := hidIt hsg
  clear hsg
  obtain ⟨-, -, -, c3, -, -, -⟩ := kcells HP.blk
  have f0 := frozen_row HP.blk
  have hlb := HB.lb
  go_enter Try.func67, Try.ntmps67
  go_wp2
  go_ret
  refine ⟨ret_int (by rw [← HSG.out]; show _ = ((s.labels : Nat) : Int); omega), ⟨_, HP.set (s' := { s with labels := s.labels + 1 }) 3 (.int .i64 ((s.labels : Int) + 1)) (by simp [mblk]) rfl rfl rfl rfl rfl rfl rfl rfl rfl rfl rfl, ?_⟩, (Kq.refl B pr w).set (.inl HP.hpm)⟩
  refine ⟨⟨HB.dep, HB.pln, by simp only; omega, by have := HB.ln; simp only; omega, by have := HB.pn; simp only; omega, by have := HB.hn; simp only; omega, by have := HB.tn; simp only; omega, by have := HB.l0; simp only; omega, HB.l1, HB.small⟩, ?_⟩
  rw [← HSG.out]
  rfl
end Go.Proofs.Ytlnapfeglbdecaa.M
namespace Go.Proofs.Ytlnapfeglbdecaa.M
open Go.RowKit
theorem own_int {w : World} {B : Nat} {v : Value} {l : List Int} (h : w.ownsRow B 3 1 v l.length (ncells l)) {j : Nat} {x : Int} (hj : l[j]? = some x) :
    ∃ g cap, v = .slice (some ⟨g, 0, none⟩) l.length cap ∧ w.cell? ⟨g, j, none⟩ = some (.int .i64 x) := by
  have hlt := (List.getElem?_eq_some_iff.1 hj).1
  rcases h.2 with ⟨rfl, h0⟩ | ⟨g, cap, cur, rfl, _, hg, h1, h2, h3, h4⟩
  · rw [h0] at hlt; simp at hlt
  · refine ⟨g, cap, rfl, cell_row hg j ?_⟩
    rw [← Array.getElem?_toList]
    have e : (cur.toList.take (l.length * 1))[j]? = (ncells l)[j]? := by rw [h4]
    rw [List.getElem?_take, if_pos (by omega)] at e
    rw [e]
    simp [ncells, hj]
def isIn (l : List Int) (x : Int) : Bool := l.any (· == x)
theorem isIn_drop {l : List Int} {x y : Int} {k : Nat} (h : l[k]? = some y) (hn : y ≠ x) : isIn (l.drop k) x = isIn (l.drop (k + 1)) x := by
  obtain ⟨hk, e⟩ := List.getElem?_eq_some_iff.1 h
  subst e
  unfold isIn
  rw [List.drop_eq_getElem_cons hk, List.any_cons, beq_false_of_ne hn, Bool.false_or]
theorem isIn_hit {l : List Int} {x : Int} {k : Nat} (h : l[k]? = some x) : isIn (l.drop k) x = true := by
  obtain ⟨hk, e⟩ := List.getElem?_eq_some_iff.1 h
  subst e
  unfold isIn
  rw [List.drop_eq_getElem_cons hk, List.any_cons, beq_self_eq_true, Bool.true_or]
set_option maxRecDepth 8000 in
set_option maxHeartbeats 4000000 in
theorem caught_any (B pr pm n d : Nat) (pl : Bool) (σ : SG) (lbl : Int) (w : World) (h : Mk B pr pm n d pl σ w) (hn : n ≤ 900000) :
    Calls Try.prog 46 #[.pointer (some ⟨pm, 0, none⟩), .int .i64 lbl] w fun e w' => e = .returned (.bool (isIn σ.ts lbl)) ∧ w' = w := by
  obtain ⟨s, HP, HB, hsg⟩ := h
  have HA0 : Hid (isIn (s.ts.drop 0) lbl = isIn σ.ts lbl) := by show _ = _; rw [← hsg]; rfl
  clear hsg
  generalize isIn σ.ts lbl = AN at *
  have c8 := cell_row HP.blk 8 (v := s.vt) rfl
  have htn := HB.tn
  have HO := hidIt HP.t
  obtain ⟨ao, cap, el⟩ := own_slice HP.t
  have HEL := hidIt el
  rw [el] at c8
  have hlen : (s.ts.length : Int) ≤ 900000 := by omega
  clear HP HB el
  go_enter Try.func46, Try.ntmps46
  go_wp2
  go_loopw [5] (fun i_ wr => ∃ j : Nat, i_ = .int .i64 (j : Int) ∧ j ≤ s.ts.length ∧ wr = w ∧ isIn (s.ts.drop j) lbl = AN) (fun i_ _ => s.ts.length - (intOf i_).toNat)
  case atStart =>
    exact ⟨0, by go_num, by omega, rfl, HA0.out⟩
  case round =>
    obtain ⟨j, rfl, hj, hww, hA⟩ := hrel
    cases hww
    have HA := hidIt hA
    clear hA HA0
    by_cases hlt : j < s.ts.length
    · have hlt' : (j : Int) < (s.ts.length : Int) := by omega
      obtain ⟨x, hx⟩ : ∃ x, s.ts[j]? = some x := ⟨s.ts[j], List.getElem?_eq_getElem hlt⟩
      obtain ⟨g, cap', ev, cx⟩ := own_int HO.out hx
      rw [HEL.out] at ev
      cases ev
      have HX := hidIt hx
      clear hx
      by_cases he : x = lbl
      · subst he
        go_wp2
        go_ret
        exact ⟨by rw [← HA.out, isIn_hit HX.out]; rfl, rfl⟩
      · have HE := hidIt he
        go_wp2
        exact ⟨⟨j + 1, by go_num, by omega, by first | rfl | trivial, by rw [← isIn_drop HX.out HE.out]; exact HA.out⟩, by simp [intOf]; omega⟩
    · have hlt' : ¬ (j : Int) < (s.ts.length : Int) := by omega
      obtain rfl : j = s.ts.length := by omega
      have HA2 : Hid (false = AN) := by show _ = _; rw [← HA.out, List.drop_length]; rfl
      go_wp2
      go_ret
      exact ⟨by rw [← HA2.out]; rfl, rfl⟩
end Go.Proofs.Ytlnapfeglbdecaa.M
namespace Go.Proofs.Ytlnapfeglbdecaa.M
open Go.RowKit
structure FM where
  at_ : Int
  lc : Value
  st : Value
  o1 : lc.oneCell' = true
  o2 : st.oneCell' = true
def frow (x : FM) : List Value := [.int .i64 x.at_, x.lc, x.st]
def fcells (l : List FM) : List Value := l.flatMap frow
theorem fcells_append (a b : List FM) : fcells (a ++ b) = fcells a ++ fcells b := by simp [fcells]
theorem fcells_at : ∀ (l : List FM) (j : Nat) (x : FM), l[j]? = some x → (fcells l)[j * 3]? = some (.int .i64 x.at_)
  | [], _, _, h => by simp at h
  | y :: l, 0, x, h => by simp at h; subst h; simp [fcells, frow]
  | y :: l, j + 1, x, h => by
    have := fcells_at l j x (by simpa using h)
    rw [show (j + 1) * 3 = j * 3 + 3 from by omega]
    simpa [fcells, frow] using this
theorem own_frame {w : World} {B : Nat} {v : Value} {l : List FM} (h : w.ownsRow B 118 3 v l.length (fcells l)) {j : Nat} {x : FM} (hj : l[j]? = some x) :
    ∃ g cap, v = .slice (some ⟨g, 0, none⟩) l.length cap ∧ g < w.heap.size ∧ w.cell? ⟨g, j * 3, none⟩ = some (.int .i64 x.at_) := by
  have hlt := (List.getElem?_eq_some_iff.1 hj).1
  rcases h.2 with ⟨rfl, h0⟩ | ⟨g, cap, cur, rfl, _, hg, h1, h2, h3, h4⟩
  · rw [h0] at hlt; simp at hlt
  · refine ⟨g, cap, rfl, (Array.getElem?_eq_some_iff.1 hg).1, cell_row hg _ ?_⟩
    rw [← Array.getElem?_toList]
    have e : (cur.toList.take (l.length * 3))[j * 3]? = (fcells l)[j * 3]? := by rw [h4]
    rw [List.getElem?_take, if_pos (by omega)] at e
    rw [e]
    exact fcells_at l j x hj
theorem Try.info118x : (Try.prog.info? 118).map (fun i => (i.zero, i.size, i.bytes)) = some (some (.agg #[.int .i64 0, .slice none 0 0, .slice none 0 0]), 3, 56) := by kernel_rfl
theorem frow_one (x : FM) : ∀ u ∈ frow x, u.oneCell' = true := by
  intro u hu
  simp [frow] at hu
  rcases hu with rfl | rfl | rfl
  · rfl
  · exact x.o1
  · exact x.o2
theorem frame_append {w : World} {ops : Array Oper} {rest : List Oper} {o : Oper} {a : Act} {Q : Exit → Act → World → Prop} (hgd : o.guard = none) (s x : Operand)
    (ho : o.op = .call { callee := .builtin .append, args := #[s, x], argTypes := #[36, 36] })
    (B : Nat) (v : Value) (n : Nat) (xs : List Value) (y : FM) (hs : a.eval s = v) (hown : w.ownsRow B 118 3 v n xs) (hx : a.eval x = .slice (some ⟨w.heap.size, 0, none⟩) 1 1)
    (hlen : n ≤ 1000000) (hB : B ≤ w.heap.size)
    (h : ∀ v' w', w'.ownsRow B 118 3 v' (n + 1) (xs ++ frow y) → (w.alloc (.cells (frow y).toArray 118)).grownBy w' v.ownBlock → wpList Try.prog ops Q rest (a.put o.dst v') w') :
    wpList Try.prog ops Q (o :: rest) a (w.alloc (.cells (frow y).toArray 118)) := by
  obtain ⟨i0, hi, hz0, hz1, hz2⟩ := info_parts Try.info118x
  refine wpList_plain hgd fun K hK => ?_
  have hown' : (w.alloc (.cells (frow y).toArray 118)).ownsRow B 118 3 v n xs := own_same hown (Same.of_below (below_alloc w _))
  obtain ⟨v', w', hr, h2, h3, _, h4⟩ := run_append_own_at (P := Try.prog) (w.alloc (.cells (frow y).toArray 118)) B 36 o.type 118 i0 _ 3 56 Try.underlying36 hi hz0 hz1 hz2 rfl (by decide) v n xs hown' ⟨w.heap.size, 0, none⟩ 1 1 (frow y) rfl
    (fun j u hj => by
      have e : (⟨w.heap.size, 0, none⟩ : Addr).add j = ⟨w.heap.size, j, none⟩ := by unfold Addr.add; split <;> simp_all
      rw [e]
      exact cell_row (heap_alloc_new w _) j (by simpa using hj)) (frow_one y) (by unfold maxLen; omega) (by omega) (by simp; omega)
  unfold Oper.wp execOp
  simp only [ho, resolve, invoke, builtin, Sem.run_bind, Sem.run_pure, Result.andThen_ok, List.map_toArray, List.map_cons, List.map_nil, hs, hx, hr]
  exact hK _ _ (h v' w' h2 h3)
end Go.Proofs.Ytlnapfeglbdecaa.M
