/- Texts BKB BKA. -/
import Derived.Test.YtccbgdbipihoaaaBv02
import Derived.Deep.RegionHeld3
namespace Go.Proofs.Ytccbgdbipihoaaa.BK
open Go.RowKit Q.D

structure It where
  l : Value
  c : Value
  m : List Bs
structure Fine (B : Nat) (w : World) (p : It) : Prop where
  l : w.ownsRow B 9 1 p.l p.m.length (scells p.m)
  c : w.ownsRow B 9 1 p.c p.m.length (scells p.m)
  b : AllB p.m
def Away (p q : It) : Prop := ∀ g, p.l.ownBlock = some g → q.l.ownBlock ≠ some g

structure IsBk (B pb : Nat) (w : World) (L W : Value) (held : Int) (its : List It) : Prop where
  blk : w.heap[pb]? = some (.cells #[L, W, .int .i64 held, .bool false] 45 (0, 0))
  sl : Slot B w L (its.map It.l)
  sw : Slot B w W (its.map It.c)
  ne : ∀ g, L.ownBlock = some g → W.ownBlock ≠ some g
  fine : ∀ p ∈ its, Fine B w p
  away : its.Pairwise Away

structure Kp (B pb : Nat) (w w' : World) : Prop where
  os : w'.os = w.os
  tape : w'.tape = w.tape
  output : w'.output = w.output
  size : w.heap.size ≤ w'.heap.size
  block : ∀ k, k < w.heap.size → k ≠ pb → (k < B ∨ ∀ cs, w.heap[k]? ≠ some (.cells cs 24 (0, 0))) → w'.heap[k]? = w.heap[k]?
theorem Kp.refl (B pb : Nat) (w : World) : Kp B pb w w := ⟨rfl, rfl, rfl, Nat.le_refl _, fun _ _ _ _ => rfl⟩
theorem Kp.trans {B pb : Nat} {a b c : World} (h : Kp B pb a b) (k : Kp B pb b c) : Kp B pb a c :=
  ⟨k.os.trans h.os, k.tape.trans h.tape, k.output.trans h.output, Nat.le_trans h.size k.size, fun i hi hp hc => by
    have e := h.block i hi hp hc
    rw [← e]
    exact k.block i (Nat.lt_of_lt_of_le hi h.size) hp (by rw [e]; exact hc)⟩
theorem Kp.of_below {B pb : Nat} {w w' : World} (h : Below w.heap.size w w') : Kp B pb w w' := ⟨h.os, h.tape, h.output, h.size, fun k hk _ _ => h.block k hk⟩
theorem Kp.setCell (B pb : Nat) (w : World) (o : Nat) (u : Value) : Kp B pb w (w.setCell ⟨pb, o, none⟩ u) :=
  ⟨rfl, rfl, rfl, by simp [World.setCell], fun k _ hp _ => Below.heap_setCell _ _ _ _ hp⟩
theorem Kp.drewN (B pb : Nat) (w : World) (q : Nat) : Kp B pb w (w.drewN q) := ⟨rfl, rfl, rfl, Nat.le_refl _, fun _ _ _ _ => rfl⟩
theorem Kp.of_grown {B pb : Nat} {w w' : World} {v : Value} {xs : List Value} (h : w.grownBy w' v.ownBlock) (hs : Slot B w v xs) : Kp B pb w w' :=
  ⟨h.os, h.tape, h.output, h.size, fun k hk _ hc => h.block k hk (fun e => by
    obtain ⟨hB, cur, hg⟩ := hs.lt k e.symm
    rcases hc with hc | hc
    · omega
    · exact hc cur hg)⟩
theorem Kp.below {B pb C : Nat} {w w' : World} (h : Kp B pb w w') (h1 : C ≤ w.heap.size) (h2 : C ≤ pb) (h3 : C ≤ B) : Below C w w' :=
  ⟨h.os, h.tape, h.output, h.size, fun k hk => h.block k (by omega) (by omega) (.inl (by omega))⟩

theorem own_keep {B n : Nat} {w w' : World} {T : TypeId} {v : Value} {xs : List Value} (h : w.ownsRow B T 1 v n xs) (hb : ∀ g cur, v.ownBlock = some g → w.heap[g]? = some (.cells cur T (0, 0)) → w'.heap[g]? = w.heap[g]?) : w'.ownsRow B T 1 v n xs := by
  refine ⟨h.1, ?_⟩
  rcases h.2 with x | ⟨g, cap, cur, rfl, hB, hg, r⟩
  · exact .inl x
  · exact .inr ⟨g, cap, cur, rfl, hB, (hb g cur rfl hg).trans hg, r⟩
theorem Kp.own {B B' pb n : Nat} {w w' : World} {v : Value} {xs : List Value} (h : Kp B pb w w') (ho : w.ownsRow B' 9 1 v n xs) (hp : ∀ cur, w.heap[pb]? ≠ some (.cells cur 9 (0, 0))) : w'.ownsRow B' 9 1 v n xs :=
  own_keep ho fun g cur _ hg => h.block g (Array.getElem?_eq_some_iff.1 hg).1 (fun e => by rw [e] at hg; exact hp _ hg) (.inr fun cs e => by rw [hg] at e; cases e)
theorem IsBk.no5 {B pb : Nat} {w : World} {L W : Value} {held : Int} {its : List It} (h : IsBk B pb w L W held its) : ∀ cur, w.heap[pb]? ≠ some (.cells cur 9 (0, 0)) := fun cur e => by
  rw [h.blk] at e; cases e
theorem Fine.kp {B pb : Nat} {w w' : World} {p : It} (h : Fine B w p) (k : Kp B pb w w') (hp : ∀ cur, w.heap[pb]? ≠ some (.cells cur 9 (0, 0))) : Fine B w' p := ⟨k.own h.l hp, k.own h.c hp, h.b⟩

theorem kset0 {pb : Nat} {w : World} {a : Value} {b : Value} {c : Value} {d : Value} {u : Value} (h : w.heap[pb]? = some (.cells #[a, b, c, d] 45 (0, 0))) : (w.setCell ⟨pb, 0, none⟩ u).heap[pb]? = some (.cells #[u, b, c, d] 45 (0, 0)) := by
  rw [set_row h]; rfl
theorem kset1 {pb : Nat} {w : World} {a : Value} {b : Value} {c : Value} {d : Value} {u : Value} (h : w.heap[pb]? = some (.cells #[a, b, c, d] 45 (0, 0))) : (w.setCell ⟨pb, 1, none⟩ u).heap[pb]? = some (.cells #[a, u, c, d] 45 (0, 0)) := by
  rw [set_row h]; rfl
theorem kset2 {pb : Nat} {w : World} {a : Value} {b : Value} {c : Value} {d : Value} {u : Value} (h : w.heap[pb]? = some (.cells #[a, b, c, d] 45 (0, 0))) : (w.setCell ⟨pb, 2, none⟩ u).heap[pb]? = some (.cells #[a, b, u, d] 45 (0, 0)) := by
  rw [set_row h]; rfl
theorem kset3 {pb : Nat} {w : World} {a : Value} {b : Value} {c : Value} {d : Value} {u : Value} (h : w.heap[pb]? = some (.cells #[a, b, c, d] 45 (0, 0))) : (w.setCell ⟨pb, 3, none⟩ u).heap[pb]? = some (.cells #[a, b, c, u] 45 (0, 0)) := by
  rw [set_row h]; rfl
theorem kc0 {pb : Nat} {w : World} {a : Value} {b : Value} {c : Value} {d : Value} (h : w.heap[pb]? = some (.cells #[a, b, c, d] 45 (0, 0))) : w.cell? ⟨pb, 0, none⟩ = some a := by rw [cell_of_row w pb 0 _ 45 (0, 0) h]; rfl
theorem kc1 {pb : Nat} {w : World} {a : Value} {b : Value} {c : Value} {d : Value} (h : w.heap[pb]? = some (.cells #[a, b, c, d] 45 (0, 0))) : w.cell? ⟨pb, 1, none⟩ = some b := by rw [cell_of_row w pb 1 _ 45 (0, 0) h]; rfl
theorem kc2 {pb : Nat} {w : World} {a : Value} {b : Value} {c : Value} {d : Value} (h : w.heap[pb]? = some (.cells #[a, b, c, d] 45 (0, 0))) : w.cell? ⟨pb, 2, none⟩ = some c := by rw [cell_of_row w pb 2 _ 45 (0, 0) h]; rfl
theorem kc3 {pb : Nat} {w : World} {a : Value} {b : Value} {c : Value} {d : Value} (h : w.heap[pb]? = some (.cells #[a, b, c, d] 45 (0, 0))) : w.cell? ⟨pb, 3, none⟩ = some d := by rw [cell_of_row w pb 3 _ 45 (0, 0) h]; rfl

theorem other_block {w : World} {k k' : Nat} {cs cs' : Array Value} {T T' : TypeId} {f f' : Nat × Nat} (h : w.heap[k]? = some (.cells cs T f)) (h' : w.heap[k']? = some (.cells cs' T' f')) (hT : T ≠ T') : k ≠ k' := by
  rintro rfl
  rw [h] at h'
  cases h'
  exact hT rfl

structure IsHf (B pb : Nat) (w : World) (L W : Value) (held : Int) (its : List It) (vl : Value) (m : List Bs) : Prop where
  blk : w.heap[pb]? = some (.cells #[L, W, .int .i64 held, .bool false] 45 (0, 0))
  sl : Slot B w L (its.map It.l ++ [vl])
  sw : Slot B w W (its.map It.c)
  ne : ∀ g, L.ownBlock = some g → W.ownBlock ≠ some g
  fine : ∀ p ∈ its, Fine B w p
  own : w.ownsRow B 9 1 vl m.length (scells m)

theorem Slot.store {B pb o : Nat} {w : World} {v u : Value} {xs : List Value} {cs : Array Value} (h : Slot B w v xs) (hb : w.heap[pb]? = some (.cells cs 45 (0, 0))) : Slot B (w.setCell ⟨pb, o, none⟩ u) v xs :=
  h.keep fun g hg _ => Below.heap_setCell _ _ _ _ (by
    obtain ⟨-, cur, hc⟩ := h.lt g hg
    exact other_block hc hb (by decide))

theorem keep_step1 {B pb : Nat} {w w1 : World} {o : Obj} {L W L1 vl : Value} {held : Int} {its : List It} {m : List Bs} (h : IsBk B pb w L W held its) (hl : w.ownsRow B 9 1 vl m.length (scells m))
    (s1 : Slot B w1 L1 (its.map It.l ++ [vl])) (g1 : (w.alloc o).grownBy w1 L.ownBlock) (n1 : L1.ownBlock = L.ownBlock ∨ ∀ g, L1.ownBlock = some g → (w.alloc o).heap.size ≤ g) :
    w1.heap[pb]? = some (.cells #[L, W, .int .i64 held, .bool false] 45 (0, 0)) ∧ Kp B pb w (w1.setCell ⟨pb, 0, none⟩ L1) ∧ IsHf B pb (w1.setCell ⟨pb, 0, none⟩ L1) L1 W held its vl m := by
  have ha : Below w.heap.size w (w.alloc o) := (Below.refl _ _).alloc (Nat.le_refl _) _
  have sA : Slot B (w.alloc o) L (its.map It.l) := h.sl.keep (fun g _ hg => heap_alloc_old w _ hg)
  have sW : Slot B (w.alloc o) W (its.map It.c) := h.sw.keep (fun g _ hg => heap_alloc_old w _ hg)
  have kA : Kp B pb w (w.alloc o) := Kp.of_below ha
  have k1 : Kp B pb (w.alloc o) w1 := Kp.of_grown g1 sA
  have hbA : (w.alloc o).heap[pb]? = some (.cells #[L, W, .int .i64 held, .bool false] 45 (0, 0)) := (ha.block pb (Array.getElem?_eq_some_iff.1 h.blk).1).trans h.blk
  have hpl : some pb ≠ L.ownBlock := by
    intro e
    obtain ⟨-, cur, hc⟩ := sA.lt pb e.symm
    rw [hbA] at hc
    cases hc
  have hb1 : w1.heap[pb]? = some (.cells #[L, W, .int .i64 held, .bool false] 45 (0, 0)) := (g1.block pb (Array.getElem?_eq_some_iff.1 hbA).1 hpl).trans hbA
  have hno : ∀ cur, w.heap[pb]? ≠ some (.cells cur 9 (0, 0)) := h.no5
  have K := (kA.trans k1).trans (Kp.setCell B pb w1 0 L1)
  have sW1 : Slot B w1 W (its.map It.c) := sW.keep fun g hg hlt => g1.block g hlt (fun e => h.ne g e.symm hg)
  refine ⟨hb1, K, kset0 hb1, s1.store hb1, sW1.store hb1, fun g hg hW => ?_, fun p hp => (h.fine p hp).kp K hno, K.own hl hno⟩
  rcases n1 with e | e
  · exact h.ne g (e ▸ hg) hW
  · have h1 := e g hg
    obtain ⟨-, cur, hc⟩ := sW.lt g hW
    have := (Array.getElem?_eq_some_iff.1 hc).1
    omega

theorem keep_step2 {B pb : Nat} {w w1 w2 : World} {o : Obj} {L W W1 vl vc : Value} {held : Int} {its : List It} {m : List Bs} (h : IsHf B pb w L W held its vl m) (hb : AllB m) (hB : B ≤ w.heap.size) (haw : its.Pairwise Away) (hap : ∀ p ∈ its, ∀ g, p.l.ownBlock = some g → vl.ownBlock ≠ some g)
    (bc : Below w.heap.size w w1) (oc : w1.ownsRow w.heap.size 9 1 vc m.length (scells m))
    (s1 : Slot B w2 W1 (its.map It.c ++ [vc])) (g1 : (w1.alloc o).grownBy w2 W.ownBlock) (n1 : W1.ownBlock = W.ownBlock ∨ ∀ g, W1.ownBlock = some g → (w1.alloc o).heap.size ≤ g) :
    w2.heap[pb]? = some (.cells #[L, W, .int .i64 held, .bool false] 45 (0, 0)) ∧ Kp B pb w (w2.setCell ⟨pb, 1, none⟩ W1) ∧ IsBk B pb (w2.setCell ⟨pb, 1, none⟩ W1) L W1 held (its ++ [⟨vl, vc, m⟩]) := by
  have b1 : Below w1.heap.size w1 (w1.alloc o) := (Below.refl _ _).alloc (Nat.le_refl _) _
  have ha : Below w.heap.size w (w1.alloc o) := bc.alloc bc.size _
  have sA : Slot B (w1.alloc o) W (its.map It.c) := h.sw.keep (fun g _ hg => ha.block g hg)
  have sL : Slot B (w1.alloc o) L (its.map It.l ++ [vl]) := h.sl.keep (fun g _ hg => ha.block g hg)
  have kA : Kp B pb w (w1.alloc o) := Kp.of_below ha
  have k1 : Kp B pb (w1.alloc o) w2 := Kp.of_grown g1 sA
  have hbA : (w1.alloc o).heap[pb]? = some (.cells #[L, W, .int .i64 held, .bool false] 45 (0, 0)) := (ha.block pb (Array.getElem?_eq_some_iff.1 h.blk).1).trans h.blk
  have hpl : some pb ≠ W.ownBlock := by
    intro e
    obtain ⟨-, cur, hc⟩ := sA.lt pb e.symm
    rw [hbA] at hc
    cases hc
  have hb1 : w2.heap[pb]? = some (.cells #[L, W, .int .i64 held, .bool false] 45 (0, 0)) := (g1.block pb (Array.getElem?_eq_some_iff.1 hbA).1 hpl).trans hbA
  have hno : ∀ cur, w.heap[pb]? ≠ some (.cells cur 9 (0, 0)) := fun cur e => by rw [h.blk] at e; cases e
  have hnoA : ∀ cur, w1.heap[pb]? ≠ some (.cells cur 9 (0, 0)) := fun cur e => by
    rw [bc.block pb (Array.getElem?_eq_some_iff.1 h.blk).1, h.blk] at e; cases e
  have K1 : Kp B pb w1 (w2.setCell ⟨pb, 1, none⟩ W1) := ((Kp.of_below b1).trans k1).trans (Kp.setCell B pb w2 1 W1)
  have K := (kA.trans k1).trans (Kp.setCell B pb w2 1 W1)
  have sL1 : Slot B w2 L (its.map It.l ++ [vl]) := sL.keep fun g hg hlt => g1.block g hlt (fun e => h.ne g hg e.symm)
  refine ⟨hb1, K, kset1 hb1, by rw [List.map_append]; exact sL1.store hb1, by rw [List.map_append]; exact s1.store hb1, fun g hg hW => ?_, fun p hp => ?_, ?_⟩
  · rcases n1 with e | e
    · exact h.ne g hg (e ▸ hW)
    · have h1 := e g hW
      obtain ⟨-, cur, hc⟩ := sL.lt g hg
      have := (Array.getElem?_eq_some_iff.1 hc).1
      omega
  · rcases List.mem_append.1 hp with hp | hp
    · exact (h.fine p hp).kp K hno
    · simp at hp
      subst hp
      exact ⟨K.own h.own hno, K1.own (own_wk oc hB) hnoA, hb⟩
  · rw [List.pairwise_append]
    refine ⟨haw, by simp, fun p hp q hq => ?_⟩
    simp at hq
    subst hq
    exact hap p hp

def many (pb : Nat) (w : World) : Nat := match w.cell? ⟨pb, 0, none⟩ with
  | some (.slice _ n _) => n
  | _ => 0
theorem many_eq {pb n cap : Nat} {w : World} {ao : Option Addr} {b c d : Value} (h : w.heap[pb]? = some (.cells #[.slice ao n cap, b, c, d] 45 (0, 0))) : many pb w = n := by
  unfold many; rw [kc0 h]

theorem IsBk.drew {B pb q : Nat} {w : World} {L W : Value} {held : Int} {its : List It} (h : IsBk B pb w L W held its) : IsBk B pb (w.drewN q) L W held its :=
  ⟨h.blk, h.sl, h.sw, h.ne, fun p hp => ⟨(h.fine p hp).l, (h.fine p hp).c, (h.fine p hp).b⟩, h.away⟩

theorem step_append_view {w : World} {ops : Array Oper} {o : Oper} {a : Act} {K : Act → World → Prop} {Q : Exit → Act → World → Prop} {E : Prop} (hgd : o.guard = none) (s x : Operand)
    (ho : o.op = .call { callee := .builtin .append, args := #[s, x], argTypes := #[24, 24] })
    (B : Nat) (v vb : Value) (n : Nat) (xs : List Value) (lb : List Bs) (hs : a.eval s = v) (hown : w.ownsRow B 9 1 v n xs) (hx : a.eval x = vb) (hv : View w vb (lb.map str))
    (hlen : (n + lb.length) * 16 ≤ 140737488355328) (hB : B ≤ w.heap.size)
    (h : ∀ v' w', w'.ownsRow B 9 1 v' (n + lb.length) (xs ++ scells lb) → Step v w v' w' → K (a.put o.dst v') w') :
    if Region.wanted o (yielded ops a.tmps) = true then Oper.wp Try.prog o a w K Q else E := by
  have hw : Region.wanted o (yielded ops a.tmps) = true := by simp [Region.wanted, hgd]
  rw [if_pos hw]
  obtain ⟨v', w', hr, h2, h3⟩ := run_append_view w o.type B v vb n xs lb hown hv hlen hB
  unfold Oper.wp execOp
  simp only [ho, resolve, invoke, builtin, Sem.run_bind, Sem.run_pure, Result.andThen_ok, List.map_toArray, List.map_cons, List.map_nil, hs, hx, hr]
  exact h v' w' h2 h3

theorem step_append_slot {w : World} {ops : Array Oper} {o : Oper} {a : Act} {K : Act → World → Prop} {Q : Exit → Act → World → Prop} {E : Prop} (hgd : o.guard = none) (s x : Operand)
    (ho : o.op = .call { callee := .builtin .append, args := #[s, x], argTypes := #[43, 43] })
    (B : Nat) (v u : Value) (xs : List Value) (ad : Addr) (c : Nat) (hs : a.eval s = v) (hsl : Slot B w v xs) (hx : a.eval x = .slice (some ad) 1 c) (hu : w.cell? ad = some u) (h1 : u.oneCell' = true)
    (hlen : xs.length ≤ 1000000) (hB : B ≤ w.heap.size)
    (h : ∀ v' w', Slot B w' v' (xs ++ [u]) → w.grownBy w' v.ownBlock → (v'.ownBlock = v.ownBlock ∨ ∀ g, v'.ownBlock = some g → w.heap.size ≤ g) → K (a.put o.dst v') w') :
    if Region.wanted o (yielded ops a.tmps) = true then Oper.wp Try.prog o a w K Q else E := by
  have hw : Region.wanted o (yielded ops a.tmps) = true := by simp [Region.wanted, hgd]
  rw [if_pos hw]
  obtain ⟨v', w', hr, h2, h3, h4⟩ := run_append_slot w o.type B v u xs ad c hsl hu h1 hlen hB
  unfold Oper.wp execOp
  simp only [ho, resolve, invoke, builtin, Sem.run_bind, Sem.run_pure, Result.andThen_ok, List.map_toArray, List.map_cons, List.map_nil, hs, hx, hr]
  exact h v' w' h2 h3 h4

theorem IsHf.drew {B pb q : Nat} {w : World} {L W vl : Value} {held : Int} {its : List It} {m : List Bs} (h : IsHf B pb w L W held its vl m) : IsHf B pb (w.drewN q) L W held its vl m :=
  ⟨h.blk, h.sl, h.sw, h.ne, fun p hp => ⟨(h.fine p hp).l, (h.fine p hp).c, (h.fine p hp).b⟩, h.own⟩

set_option maxHeartbeats 4000000 in
set_option maxRecDepth 20000 in
theorem keep_any (B pb : Nat) (L W vl : Value) (held : Int) (its : List It) (m : List Bs) (w : World) (h : IsBk B pb w L W held its) (hl : w.ownsRow B 9 1 vl m.length (scells m)) (hb : AllB m)
    (hap : ∀ p ∈ its, ∀ g, p.l.ownBlock = some g → vl.ownBlock ≠ some g) (hlen : its.length ≤ 1000) (hm : m.length ≤ 8796093022150) (hB : B ≤ w.heap.size) (_hpb : pb < B) :
    Calls Try.prog 14 #[.pointer (some ⟨pb, 0, none⟩), vl] w fun e w' => e = .returned (.tuple #[]) ∧ Kp B pb w w' ∧ ∃ L' W' held' its', IsBk B pb w' L' W' held' its' ∧ its'.length ≤ its.length + 1 ∧ ∀ p ∈ its', p ∈ its ∨ p.l = vl := by
  have d0 := kc0 h.blk
  have f0 := frozen_row h.blk 0
  have haw := h.away
  obtain ⟨aol, capl, rfl⟩ := own_slice hl
  obtain ⟨aoL, capL, eL, -, -⟩ := h.sl.form
  obtain ⟨aoW, capW, eW, -, -⟩ := h.sw.form
  rw [List.length_map] at eL eW
  subst eL eW
  have S0 : Slot B (w.alloc (.cells #[.slice aol m.length capl] 24)) (.slice aoL its.length capL) (its.map It.l) := h.sl.keep (fun g _ hg => heap_alloc_old w _ hg)
  have hc0 : (w.alloc (.cells #[.slice aol m.length capl] 24)).cell? ⟨w.heap.size, 0, none⟩ = some (.slice aol m.length capl) := by
    rw [cell_of_row _ _ 0 _ 24 (0, 0) (heap_alloc_new w _)]; rfl
  go_enter Try.func14, Try.ntmps14
  go_wp2_with (
    (at_builtin; refine wpList_append_slot rfl _ _ rfl B (.slice aoL its.length capL) (.slice aol m.length capl) (its.map It.l) _ _ rfl S0 rfl hc0 rfl (by simp; omega) (by simp; omega) ?_; intro L1 w1 s1 g1 n1; obtain ⟨x1, K1, H1⟩ := keep_step1 h hl s1 g1 n1; have e0 := kc0 x1; have fz0 := frozen_row x1 0; obtain ⟨ao1, cap1, e1, -, -⟩ := s1.form; rw [List.length_append, List.length_map] at e1; subst e1; have d0' := kc0 H1.blk; have d1' := kc1 H1.blk; have f1' := frozen_row H1.blk 1; have V1 := VO H1.own hb; have q1 := K1.size))
  clear S0 hc0 d0 f0 e0 fz0 g1 n1 s1 x1
  rw [show its.length + [Value.slice aol m.length capl].length = its.length + 1 from rfl] at *
  generalize w1.setCell ⟨pb, 0, none⟩ (.slice ao1 (its.length + 1) cap1) = w2 at *
  have V1' : View w2.drew (.slice aol m.length capl) (m.map str) := V1
  go_region_law (first
    | (refine step_append_view rfl (.const (.slice none 0 0)) (.tmp 19) rfl w2.heap.size (.slice none 0 0) (.slice aol m.length capl) 0 [] m rfl (World.ownsRow_nil _ _ _ _) rfl V1' (by omega) (Nat.le_refl _) ?_
       intro vc w3 oc st3
       rw [Nat.zero_add, List.nil_append] at oc
       obtain ⟨aoc, capc, rfl⟩ := own_slice oc
       have bc' := st3.below (B := w2.heap.size) (Nat.le_refl _) (fun k h => by simp [Value.ownBlock] at h)
       have bc : Below w2.heap.size w2 w3 := ⟨bc'.os, bc'.tape, bc'.output, bc'.size, bc'.block⟩
       have d1c : w3.cell? ⟨pb, 1, none⟩ = some (.slice aoW its.length capW) := cell_later bc (Nat.le_refl _) d1'
       have z3 := bc.size
       have ba : Below w2.heap.size w2 (w3.alloc (.cells #[.slice aoc m.length capc] 24)) := bc.alloc z3 _
       have d1d := cell_later ba (Nat.le_refl _) d1'
       have SW := H1.sw.keep (fun g _ hg => ba.block g hg)
       have hcc : (w3.alloc (.cells #[.slice aoc m.length capc] 24)).cell? ⟨w3.heap.size, 0, none⟩ = some (.slice aoc m.length capc) := by
         rw [cell_of_row _ _ 0 _ 24 (0, 0) (heap_alloc_new w3 _)]; rfl
       clear bc' st3)
    | (refine step_append_slot rfl (.tmp 18) (.tmp 21) rfl B (.slice aoW its.length capW) (.slice aoc m.length capc) (its.map It.c) ⟨w3.heap.size, 0, none⟩ 1 rfl SW rfl hcc rfl (by simp; omega) (by simp; omega) ?_
       intro W4 w4 s4 g4 n4
       obtain ⟨x4, K4, H4⟩ := keep_step2 H1 hb (by omega) haw hap bc oc s4 g4 n4
       obtain ⟨ao4, cap4, e4, -, -⟩ := s4.form
       rw [List.length_append, List.length_map] at e4
       subst e4
       have e5 := kc1 x4
       have f5 := frozen_row x4 1))
  all_goals
    clear e5 f5 n4 g4 x4 s4 hcc SW d1d d1c
    rw [show its.length + [Value.slice aoc m.length capc].length = its.length + 1 from rfl] at *
    generalize w4.setCell ⟨pb, 1, none⟩ (.slice ao4 (its.length + 1) cap4) = w5 at *
    have d0 := kc0 H4.blk
    have d1 := kc1 H4.blk
    have d2 := kc2 H4.blk
    have d3 := kc3 H4.blk
    have f2 := frozen_row H4.blk 2
    have HB5 : ∀ z, IsBk B pb (w5.setCell ⟨pb, 2, none⟩ (.int .i64 z)) (.slice ao1 (its.length + 1) cap1) (.slice ao4 (its.length + 1) cap4) z (its ++ [⟨.slice aol m.length capl, .slice aoc m.length capc, m⟩]) := fun z =>
      ⟨kset2 H4.blk, H4.sl.store H4.blk, H4.sw.store H4.blk, H4.ne, fun p hp => (H4.fine p hp).kp (Kp.setCell B pb w5 2 _) H4.no5, H4.away⟩
    have HK5 : ∀ z, Kp B pb w (w5.setCell ⟨pb, 2, none⟩ (.int .i64 z)) := fun z => (K1.trans K4).trans (Kp.setCell B pb w5 2 _)
    clear K1 K4 H1 H4 h haw hap V1 V1' bc ba oc z3 q1 d1' d0'
    go_wp2_with fail
    go_loopw [] (fun wr => ∃ L W held' its', IsBk B pb wr L W held' its' ∧ Kp B pb w wr ∧ its'.length ≤ its.length + 1 ∧ ∀ p ∈ its', p ∈ its ∨ p.l = .slice aol m.length capl) (fun wr => many pb wr)
    case atStart => 
      refine ⟨_, _, _, _, HB5 _, HK5 _, by simp, fun p hp => ?_⟩
      rcases List.mem_append.1 hp with hp | hp
      · exact .inl hp
      · simp at hp; exact .inr (by rw [hp])
    case round =>
      clear HB5 HK5 d0 d1 d2 d3 f2
      obtain ⟨L, W, held', its', HB, HK, hlen', hsub⟩ := hrel
      obtain ⟨aoL', capL', eL, hcL, hmL⟩ := HB.sl.form
      obtain ⟨aoW', capW', eW, hcW, hmW⟩ := HB.sw.form
      rw [List.length_map] at eL eW hcL hcW
      subst eL eW
      have d0 := kc0 HB.blk
      have d1 := kc1 HB.blk
      have d2 := kc2 HB.blk
      have d3 := kc3 HB.blk
      by_cases hgo : 1 < its'.length ∧ (1000000 < held' ∨ 4000 < its'.length)
      · obtain ⟨hg1, hg2⟩ := hgo
        have hg1' : (1 : Int) < (its'.length : Int) := by omega
        match its', hg1 with
        | p :: q :: tl, hg1 =>
          obtain ⟨gL, oL, rfl, cL⟩ := HB.sl.cell (j := 0) (u := p.l) rfl
          obtain ⟨gW, oW, rfl, cW⟩ := HB.sw.cell (j := 0) (u := p.c) rfl
          have Fp := HB.fine p (by simp)
          obtain ⟨aop, capp, epl⟩ := own_slice Fp.l
          obtain ⟨aoc', capc', epc⟩ := own_slice Fp.c
          have HSame := hidIt (same_any p.l p.c (p.m.map str) wr (VO Fp.l Fp.b) (VO Fp.c Fp.b))
          rw [epl, Nat.add_zero] at cL
          rw [epc, Nat.add_zero] at cW
          rw [epl, epc] at HSame
          have f3 := frozen_row HB.blk 3
          have h6 : 1000000 < held' := by omega
          have HSame' : Hid (Calls Try.prog 10 #[.slice aop p.m.length capp, .slice aoc' p.m.length capc'] wr.drew fun e w' => e = .returned (.bool true) ∧ ∃ q, w' = wr.drew.drewN q) := by
            have := same_any p.l p.c (p.m.map str) wr.drew (VO Fp.l Fp.b) (VO Fp.c Fp.b)
            rwa [epl, epc] at this
          clear HSame
          have HB3 : ∀ q6, IsBk B pb ((wr.drewN q6).setCell ⟨pb, 3, none⟩ (.bool false)) (.slice (some ⟨gL, oL, none⟩) (p :: q :: tl).length capL') (.slice (some ⟨gW, oW, none⟩) (p :: q :: tl).length capW') held' (p :: q :: tl) := fun q6 =>
            have hB' := HB.drew (q := q6)
            ⟨kset3 hB'.blk, hB'.sl.store hB'.blk, hB'.sw.store hB'.blk, hB'.ne, fun p hp => (hB'.fine p hp).kp (Kp.setCell B pb _ 3 _) hB'.no5, hB'.away⟩
          have mkS : Hid (∀ q6, ((wr.drewN q6).setCell ⟨pb, 3, none⟩ (.bool false)).cell? ⟨pb, 0, none⟩ = some (.slice (some ⟨gL, oL, none⟩) (p :: q :: tl).length capL') ∧ ((wr.drewN q6).setCell ⟨pb, 3, none⟩ (.bool false)).cell? ⟨pb, 1, none⟩ = some (.slice (some ⟨gW, oW, none⟩) (p :: q :: tl).length capW') ∧ ((wr.drewN q6).setCell ⟨pb, 3, none⟩ (.bool false)).cell? ⟨pb, 3, none⟩ = some (.bool false) ∧ ((wr.drewN q6).setCell ⟨pb, 3, none⟩ (.bool false)).cell? ⟨gL, oL, none⟩ = some (.slice aop p.m.length capp) ∧ ((wr.drewN q6).setCell ⟨pb, 3, none⟩ (.bool false)).cell? ⟨gW, oW, none⟩ = some (.slice aoc' p.m.length capc')) := by
            intro q6
            obtain ⟨g1, o1, e1, c1⟩ := (HB3 q6).sl.cell (j := 0) (u := p.l) rfl
            obtain ⟨g2, o2, e2, c2⟩ := (HB3 q6).sw.cell (j := 0) (u := p.c) rfl
            cases e1
            cases e2
            rw [epl, Nat.add_zero] at c1
            rw [epc, Nat.add_zero] at c2
            exact ⟨kc0 (HB3 q6).blk, kc1 (HB3 q6).blk, kc3 (HB3 q6).blk, c1, c2⟩
          have HH3 := hidIt HB3
          clear HB3
          generalize hnn : (p :: q :: tl).length = nn at *
          have hn0 : (0 : Int) < (nn : Int) := by omega
          have hn1 : 0 < nn := by omega
          have hn2 : nn ≠ 0 := by omega
          have hn3 : ¬ (nn : Int) = 0 := by omega
          have HNN := hidIt hnn
          clear hnn
          go_wp2_with fail
          go_region_held3 (fun W => W.cell? ⟨pb, 0, none⟩ = some (.slice (some ⟨gL, oL, none⟩) nn capL') ∧ W.cell? ⟨pb, 1, none⟩ = some (.slice (some ⟨gW, oW, none⟩) nn capW') ∧ W.cell? ⟨pb, 3, none⟩ = some (.bool false) ∧ W.cell? ⟨gL, oL, none⟩ = some (.slice aop p.m.length capp) ∧ W.cell? ⟨gW, oW, none⟩ = some (.slice aoc' p.m.length capc')) (first | exact mkS.out _ | go_keep)
            (first
              | (go_at_call 10; refine HSame'.out.mono ?_; rintro e w6 ⟨rfl, q6, rfl⟩))
          have HB4 := HH3.out (1 + q6)
          have HK4 : Kp B pb w ((wr.drewN (1 + q6)).setCell ⟨pb, 3, none⟩ (.bool false)) := HK.trans ((Kp.drewN B pb wr (1 + q6)).trans (Kp.setCell B pb _ 3 _))
          obtain ⟨-, -, -, c4L, c4W⟩ := mkS.out (1 + q6)
          have hmany : many pb wr = nn := many_eq HB.blk
          clear HH3 HK HB mkS cL cW d0 d1 d2 d3 f3 HSame'
          generalize (wr.drewN (1 + q6)).setCell ⟨pb, 3, none⟩ (.bool false) = w6 at *
          have d0 := kc0 HB4.blk
          have d2 := kc2 HB4.blk
          have f2 := frozen_row HB4.blk 2
          have HB7 : ∀ z, IsBk B pb (w6.setCell ⟨pb, 2, none⟩ (.int .i64 z)).drew (.slice (some ⟨gL, oL, none⟩) nn capL') (.slice (some ⟨gW, oW, none⟩) nn capW') z (p :: q :: tl) := fun z =>
            IsBk.drew (q := 1) ⟨kset2 HB4.blk, HB4.sl.store HB4.blk, HB4.sw.store HB4.blk, HB4.ne, fun p hp => (HB4.fine p hp).kp (Kp.setCell B pb _ 2 _) HB4.no5, HB4.away⟩
          have HK7 : ∀ z, Kp B pb w (w6.setCell ⟨pb, 2, none⟩ (.int .i64 z)).drew := fun z => (HK4.trans (Kp.setCell B pb _ 2 _)).trans (Kp.drewN B pb _ 1)
          have HH7 := hidIt HB7
          have HH8 := hidIt HK7
          clear HB7 HB4 HK7 HK4
          go_wp2_with fail
          go_region
          generalize wrap64 (wrap64 (held' - (capp : Int)) - 1) = z7
          have HB8 := HH7.out z7
          have HK8 := HH8.out z7
          clear HH7 HH8 d0 d2 f2 c4L c4W
          generalize (w6.setCell ⟨pb, 2, none⟩ (.int .i64 z7)).drew = w8 at *
          obtain ⟨L8, hsL, SL8, oL8⟩ := HB8.sl.tail (by simp)
          obtain ⟨W8, hsW, SW8, oW8⟩ := HB8.sw.tail (by simp)
          obtain ⟨aoL8, capL8, eL8, -, -⟩ := SL8.form
          obtain ⟨aoW8, capW8, eW8, -, -⟩ := SW8.form
          rw [List.length_map] at eL8 eW8
          subst eL8 eW8
          have d0 := kc0 HB8.blk
          have d1 := kc1 HB8.blk
          have f0 := frozen_row HB8.blk 0
          have f1 := frozen_row HB8.blk 1
          have x8 := kset0 (u := .slice aoL8 (q :: tl).length capL8) HB8.blk
          have HB9 : IsBk B pb ((w8.setCell ⟨pb, 0, none⟩ (.slice aoL8 (q :: tl).length capL8)).setCell ⟨pb, 1, none⟩ (.slice aoW8 (q :: tl).length capW8)) (.slice aoL8 (q :: tl).length capL8) (.slice aoW8 (q :: tl).length capW8) z7 (q :: tl) :=
            ⟨kset1 x8, (SL8.store HB8.blk).store x8, (SW8.store HB8.blk).store x8, fun g hg hW => HB8.ne g (oL8 ▸ hg) (oW8 ▸ hW), fun p' hp' => ((HB8.fine p' (List.mem_cons_of_mem _ hp')).kp (Kp.setCell B pb _ 0 _) HB8.no5).kp (Kp.setCell B pb _ 1 _) (fun cur e => by rw [x8] at e; cases e), (List.pairwise_cons.1 HB8.away).2⟩
          have HK9 : Kp B pb w ((w8.setCell ⟨pb, 0, none⟩ (.slice aoL8 (q :: tl).length capL8)).setCell ⟨pb, 1, none⟩ (.slice aoW8 (q :: tl).length capW8)) := (HK8.trans (Kp.setCell B pb _ 0 _)).trans (Kp.setCell B pb _ 1 _)
          have hm9 := many_eq HB9.blk
          have HH9 := hidIt HB9
          have HI9 := hidIt HK9
          have HJ9 := hidIt hm9
          clear HB9 HK9 HB8 HK8 SL8 SW8 oL8 oW8 x8 hm9
          generalize hn9 : (q :: tl).length = n9 at *
          have HN9 := hidIt hn9
          clear hn9
          go_wp2
          have hnn := HNN.out
          have hn9 := HN9.out
          simp only [List.length_cons] at hnn hn9 hlen'
          refine ⟨⟨_, _, _, _, HH9.out, HI9.out, by simp only [List.length_cons]; omega, fun p' hp' => hsub p' (List.mem_cons_of_mem _ hp')⟩, ?_⟩
          rw [HJ9.out, hmany]
          omega
      · have hno : ¬ (1 : Int) < (its'.length : Int) ∨ ((1 : Int) < (its'.length : Int) ∧ ¬ 1000000 < held' ∧ ¬ (4000 : Int) < (its'.length : Int)) := by omega
        rcases hno with h1 | ⟨h1, h2, h3⟩
        · go_wp2
          go_end0
          exact ⟨rfl, HK, _, _, _, its', HB, hlen', hsub⟩
        · go_wp2
          go_end0
          exact ⟨rfl, HK, _, _, _, its', HB, hlen', hsub⟩
end Go.Proofs.Ytccbgdbipihoaaa.BK
namespace Go.Proofs.Ytccbgdbipihoaaa.BK
open Go.RowKit Q.D

set_option maxHeartbeats 2000000 in
theorem stays_any (B pb : Nat) (L W : Value) (held : Int) (its : List It) (w : World) (h : IsBk B pb w L W held its) (hlen : its.length ≤ 2000) :
    Calls Try.prog 26 #[.pointer (some ⟨pb, 0, none⟩)] w fun e w' => e = .returned (.bool true) ∧ Kp B pb w w' ∧ IsBk B pb w' L W held its := by
  obtain ⟨aoL, capL, eL, hcL, hmL⟩ := h.sl.form
  obtain ⟨aoW, capW, eW, hcW, hmW⟩ := h.sw.form
  rw [List.length_map] at eL eW hcL hcW
  subst eL eW
  go_enter Try.func26, Try.ntmps26
  go_wp2_with fail
  go_loopw [3] (fun i wr => ∃ k : Nat, k ≤ its.length ∧ i = .int .i64 (k : Int) ∧ IsBk B pb wr (.slice aoL its.length capL) (.slice aoW its.length capW) held its ∧ Kp B pb w wr) (fun i _ => its.length - (intOf i).toNat)
  case atStart => exact ⟨0, Nat.zero_le _, rfl, h, Kp.refl _ _ _⟩
  case round =>
    clear h
    obtain ⟨k, hk, rfl, HB, HK⟩ := hrel
    have d0 := kc0 HB.blk
    have d1 := kc1 HB.blk
    have d3 := kc3 HB.blk
    have f3 := frozen_row HB.blk 3
    by_cases hlt : k < its.length
    · have hk' : (k : Int) < (its.length : Int) := by omega
      have hk0 : (0 : Int) ≤ (k : Int) := by omega
      obtain ⟨gL, oL, rfl, cL⟩ := HB.sl.cell (j := k) (u := its[k].l) (by simp [hlt])
      obtain ⟨gW, oW, rfl, cW⟩ := HB.sw.cell (j := k) (u := its[k].c) (by simp [hlt])
      have Fp := HB.fine its[k] (by simp)
      generalize its[k] = p at *
      obtain ⟨aop, capp, epl⟩ := own_slice Fp.l
      obtain ⟨aoc', capc', epc⟩ := own_slice Fp.c
      have HSame' : Hid (Calls Try.prog 10 #[.slice aop p.m.length capp, .slice aoc' p.m.length capc'] wr.drew fun e w' => e = .returned (.bool true) ∧ ∃ q, w' = wr.drew.drewN q) := by
        have := same_any p.l p.c (p.m.map str) wr.drew (VO Fp.l Fp.b) (VO Fp.c Fp.b)
        rwa [epl, epc] at this
      rw [epl] at cL
      rw [epc] at cW
      have HB3 : ∀ q6, IsBk B pb ((wr.drewN q6).setCell ⟨pb, 3, none⟩ (.bool false)) (.slice (some ⟨gL, oL, none⟩) its.length capL) (.slice (some ⟨gW, oW, none⟩) its.length capW) held its := fun q6 =>
        have hB' := HB.drew (q := q6)
        ⟨kset3 hB'.blk, hB'.sl.store hB'.blk, hB'.sw.store hB'.blk, hB'.ne, fun p hp => (hB'.fine p hp).kp (Kp.setCell B pb _ 3 _) hB'.no5, hB'.away⟩
      have HK3 : ∀ q6, Kp B pb w ((wr.drewN q6).setCell ⟨pb, 3, none⟩ (.bool false)) := fun q6 => HK.trans ((Kp.drewN B pb wr q6).trans (Kp.setCell B pb _ 3 _))
      have hne1 : gL ≠ pb := by
        obtain ⟨-, cur, hc⟩ := HB.sl.lt gL rfl
        exact other_block hc HB.blk (by decide)
      have hne2 : gW ≠ pb := by
        obtain ⟨-, cur, hc⟩ := HB.sw.lt gW rfl
        exact other_block hc HB.blk (by decide)
      have mkS : Hid (∀ q6, ((wr.drewN q6).setCell ⟨pb, 3, none⟩ (.bool false)).cell? ⟨pb, 0, none⟩ = some (.slice (some ⟨gL, oL, none⟩) its.length capL) ∧ ((wr.drewN q6).setCell ⟨pb, 3, none⟩ (.bool false)).cell? ⟨pb, 1, none⟩ = some (.slice (some ⟨gW, oW, none⟩) its.length capW) ∧ ((wr.drewN q6).setCell ⟨pb, 3, none⟩ (.bool false)).cell? ⟨pb, 3, none⟩ = some (.bool false) ∧ ((wr.drewN q6).setCell ⟨pb, 3, none⟩ (.bool false)).cell? ⟨gL, oL + k, none⟩ = some (.slice aop p.m.length capp) ∧ ((wr.drewN q6).setCell ⟨pb, 3, none⟩ (.bool false)).cell? ⟨gW, oW + k, none⟩ = some (.slice aoc' p.m.length capc')) := by
        intro q6
        refine ⟨kc0 (HB3 q6).blk, kc1 (HB3 q6).blk, kc3 (HB3 q6).blk, ?_, ?_⟩
        · rw [World.cell?_of_block (a := ⟨gL, oL + k, none⟩) (w := wr.drewN q6) (Below.heap_setCell _ _ _ _ hne1)]
          exact cL
        · rw [World.cell?_of_block (a := ⟨gW, oW + k, none⟩) (w := wr.drewN q6) (Below.heap_setCell _ _ _ _ hne2)]
          exact cW
      have HH3 := hidIt HB3
      have HI3 := hidIt HK3
      clear HB3 HK3 HB HK
      go_wp2_with fail
      go_region_held3 (fun W => W.cell? ⟨pb, 0, none⟩ = some (.slice (some ⟨gL, oL, none⟩) its.length capL) ∧ W.cell? ⟨pb, 1, none⟩ = some (.slice (some ⟨gW, oW, none⟩) its.length capW) ∧ W.cell? ⟨pb, 3, none⟩ = some (.bool false) ∧ W.cell? ⟨gL, oL + k, none⟩ = some (.slice aop p.m.length capp) ∧ W.cell? ⟨gW, oW + k, none⟩ = some (.slice aoc' p.m.length capc')) (first | exact mkS.out _ | go_keep)
        (first
          | (go_at_call 10; refine HSame'.out.mono ?_; rintro e w6 ⟨rfl, q6, rfl⟩))
      have HB4 := HH3.out (1 + q6)
      have HK4 := HI3.out (1 + q6)
      go_wp2
      exact ⟨⟨k + 1, by omega, by go_num, HB4, HK4⟩, by simp [intOf]; omega⟩
    · have hk' : ¬ (k : Int) < (its.length : Int) := by omega
      go_wp2
      go_ret
      exact ⟨rfl, HK, HB⟩

def mnum (i : Nat) : List Int := [(i : Int) % 256, (i : Int) / 256 % 256, (i : Int) / 65536]
def mrk (i : Nat) : ByteArray := { data := #[109, 97, 114, 107, 32] } ++ strOfNums (mnum i)
def mob (i : Nat) : Obj := .cells #[.int .u8 ((i : Int) % 256), .int .u8 ((i : Int) / 256 % 256), .int .u8 ((i : Int) / 65536)] 5
theorem run_mark (i : Nat) (w : World) : (convert 28 9 (.slice (some ⟨w.heap.size, 0, none⟩) 3 3)).run Try.prog (w.alloc (mob i)) = .ok (.string (strOfNums (mnum i))) (w.alloc (mob i)) :=
  run_convert_bytes_arg (P := Try.prog) (w.alloc (mob i)) 28 5 Try.underlying28 Try.underlying5 w.heap.size 0 3 3 (mnum i) rfl (fun j hj => by
    rw [cell_of_row (w.alloc (mob i)) w.heap.size (0 + j) _ 5 (0, 0) (heap_alloc_new w _)]
    match j, hj with
    | 0, _ => rfl
    | 1, _ => rfl
    | 2, _ => rfl
    | j + 3, h => omega) 9 Try.underlying9

set_option maxHeartbeats 800000 in
theorem mark_any (i j : Nat) (w : World) (hi : i ≤ 1000000) :
    Calls Try.prog 16 #[.int .i64 (i : Int), .int .i64 (j : Int)] w fun e w' => e = .returned (.string (mrk i)) ∧ w' = w.alloc (mob i) := by
  have hr := run_mark i w
  have hz : (strOfNums (mnum i)).size ≤ 3 := by rw [Lib.size_eq]; simp [strOfNums, mnum]
  unfold mrk
  unfold mob at hr ⊢
  generalize strOfNums (mnum i) = X at *
  go_enter Try.func16, Try.ntmps16
  go_wp2
  go_ret
  exact ⟨rfl, rfl⟩
end Go.Proofs.Ytccbgdbipihoaaa.BK
