/- The book: Apart. -/
import Derived.Test.YtcmneinhcfejhaaIA
import Derived.Test.YtcmneinhcfejhaaZ
import Derived.Deep.MidRow
import Derived.Deep.RegionWith
import Derived.Deep.CutRange
import Derived.Deep.RegionHeld3
import Derived.Deep.QuietTactic
import Derived.BigQuiet
namespace Go.Proofs.Ytcmneinhcfejhaa.KI
open Go.RowKit

/-- Place j of a row of constants holds the mark of list i. -/
def MkAt (i j : Nat) (cur : Array Value) : Prop := ∀ r u, (irow (numI (mkN i j)))[r]? = some u → cur[j * 4 + r]? = some u
/-- A row of constants with all its room; of each place this is known. -/
def Mem (w : World) (v : Value) (R : Nat → Array Value → Prop) : Prop :=
  v = .slice none 0 0 ∨ ∃ g n cap cur, v = .slice (some ⟨g, 0, none⟩) n cap ∧ cap ≤ maxLen ∧ w.heap[g]? = some (.cells cur 33 (0, 0)) ∧ cur.size = cap * 4 ∧ ∀ j, j < cap → R j cur
theorem Mem.keep {w w' : World} {v : Value} {R : Nat → Array Value → Prop} (h : Mem w v R) (hb : ∀ g, v.ownBlock = some g → w'.heap[g]? = w.heap[g]?) : Mem w' v R := by
  rcases h with h | ⟨g, n, cap, cur, rfl, hm, hg, r⟩
  · exact .inl h
  · exact .inr ⟨g, n, cap, cur, rfl, hm, (hb g rfl).trans hg, r⟩
theorem Mem.of_own {B n : Nat} {w : World} {v : Value} {xs : List Value} (h : w.ownsRow B 33 4 v n xs) : Mem w v (fun _ _ => True) := by
  rcases h.2 with ⟨rfl, -⟩ | ⟨g, cap, cur, rfl, hB, hg, hc, hm, hs, -⟩
  · exact .inl rfl
  · exact .inr ⟨g, n, cap, cur, rfl, hm, hg, by omega, fun _ _ => trivial⟩
theorem Mem.five {w : World} {v : Value} {R : Nat → Array Value → Prop} (h : Mem w v R) {g : Nat} (hg : v.ownBlock = some g) : ∃ cur, w.heap[g]? = some (.cells cur 33 (0, 0)) := by
  rcases h with rfl | ⟨g', n, cap, cur, rfl, hm, hg', r⟩
  · simp [Value.ownBlock] at hg
  · simp only [Value.ownBlock, Option.some.injEq] at hg
    subst hg
    exact ⟨cur, hg'⟩

/-- The first i lists hold their marks; all but the lists' rows is as in w0. -/
structure P1 (w0 wr : World) (its : List It) (i : Nat) : Prop where
  os : wr.os = w0.os
  tape : wr.tape = w0.tape
  output : wr.output = w0.output
  size : w0.heap.size ≤ wr.heap.size
  block : ∀ k, k < w0.heap.size → (∀ p ∈ its, p.l.ownBlock ≠ some k) → wr.heap[k]? = w0.heap[k]?
  wide : ∀ p ∈ its, Mem wr p.l (fun _ _ => True)
  mark : ∀ j p, its[j]? = some p → j < i → Mem wr p.l (fun t c => MkAt j t c)

theorem P1.drew {w0 wr : World} {its : List It} {i : Nat} (q : Nat) (h : P1 w0 wr its i) : P1 w0 (wr.drewN q) its i := ⟨h.os, h.tape, h.output, h.size, h.block, h.wide, h.mark⟩

theorem Mem.alloc {w : World} {v : Value} {R : Nat → Array Value → Prop} (h : Mem w v R) (o : Obj) : Mem (w.alloc o) v R :=
  h.keep fun g hg => by
    obtain ⟨cur, hc⟩ := h.five hg
    exact heap_alloc_old w _ (Array.getElem?_eq_some_iff.1 hc).1
theorem P1.alloc {w0 wr : World} {its : List It} {i : Nat} (h : P1 w0 wr its i) (o : Obj) : P1 w0 (wr.alloc o) its i :=
  ⟨h.os, h.tape, h.output, by have := h.size; simp; omega, fun k hk hno => (heap_alloc_old wr o (Nat.lt_of_lt_of_le hk h.size)).trans (h.block k hk hno), fun p hp => (h.wide p hp).alloc o, fun j p hj hji => (h.mark j p hj hji).alloc o⟩

theorem Mem.later {w w' : World} {v : Value} {R : Nat → Array Value → Prop} (h : Mem w v R) (hb : Below w.heap.size w w') : Mem w' v R :=
  h.keep fun g hg => by
    obtain ⟨cur, hc⟩ := h.five hg
    exact hb.block g (Array.getElem?_eq_some_iff.1 hc).1
theorem P1.later {w0 wr w' : World} {its : List It} {i : Nat} (h : P1 w0 wr its i) (hb : Below wr.heap.size wr w') : P1 w0 w' its i :=
  ⟨hb.os.trans h.os, hb.tape.trans h.tape, hb.output.trans h.output, Nat.le_trans h.size hb.size, fun k hk hno => (hb.block k (Nat.lt_of_lt_of_le hk h.size)).trans (h.block k hk hno), fun p hp => (h.wide p hp).later hb, fun j p hj hji => (h.mark j p hj hji).later hb⟩
/-- A mark is written at place t. -/
theorem mk_put {k t cap : Nat} {cur : Array Value} (N : Int) (hN : mkN k t = N) (hs : cur.size = cap * 4) (ht : t < cap) (h : ∀ t', t' < t → MkAt k t' cur) :
    ∀ t', t' < t + 1 → MkAt k t' ((((cur.setIfInBounds (t * 4) (.int .i64 N)).setIfInBounds (t * 4 + 1) (.int .i64 0)).setIfInBounds (t * 4 + 2) (.int .i64 0)).setIfInBounds (t * 4 + 3) (.int .i64 0)) := by
  intro t' ht' r u hu
  have hr : r < 4 := by have := (List.getElem?_eq_some_iff.1 hu).1; simpa [irow] using this
  simp only [Array.getElem?_setIfInBounds, Array.size_setIfInBounds]
  by_cases e : t' = t
  · subst e
    have hsz : t' * 4 + 4 ≤ cur.size := by rw [hs]; omega
    rw [hN] at hu
    match r, hr, hu with
    | 0, _, hu => simp [irow, numI] at hu; subst hu; simp; omega
    | 1, _, hu => simp [irow, numI] at hu; subst hu; simp; omega
    | 2, _, hu => simp [irow, numI] at hu; subst hu; simp; omega
    | 3, _, hu => simp [irow, numI] at hu; subst hu; simp; omega
  · rw [if_neg (by omega), if_neg (by omega), if_neg (by omega), if_neg (by omega)]
    exact h t' (by omega) r u hu
theorem run_cne (w : World) (c : IN) : (binOp .neq 33 c.val c.val).run Try.prog w = .ok (.bool false) w := by
  unfold IN.val
  go_simp
theorem exec_cne (env : Operand → Value) (c : IN) (w : World) (x y : Operand) (o : Oper) (ho : o.op = .binOp .neq 33 x y 33) (h1 : env x = c.val) (h2 : env y = c.val) : Sem.run Try.prog (execOp env o) w = .ok (.value (.bool false)) w := by
  have hn := run_cne w c
  have hg : Sem.run Try.prog (eqGuard .neq 33 x y c.val c.val) w = .ok () w := run_eqGuard_agg w .neq 33 x y _ _ (by kernel_rfl)
  unfold execOp
  rw [ho]
  simp only [h1, h2, Sem.run_bind, Sem.run_pure, hg, hn, Result.andThen_ok]
theorem mk_at {w : World} {g k t : Nat} {cur : Array Value} (hg : w.heap[g]? = some (.cells cur 33 (0, 0))) (h : MkAt k t cur) : IAt w g (t * 4) (numI (mkN k t)) :=
  ⟨(cell_of_row w g _ cur 33 (0, 0) hg).trans (h 0 _ rfl), (cell_of_row w g _ cur 33 (0, 0) hg).trans (h 1 _ rfl), (cell_of_row w g _ cur 33 (0, 0) hg).trans (h 2 _ rfl), (cell_of_row w g _ cur 33 (0, 0) hg).trans (h 3 _ rfl)⟩
theorem away_of {its : List It} (h : its.Pairwise Away) {i j : Nat} {p q : It} (hi : its[i]? = some p) (hj : its[j]? = some q) (hne : i ≠ j) {g : Nat} (hg : p.l.ownBlock = some g) : q.l.ownBlock ≠ some g := by
  obtain ⟨hi1, rfl⟩ := List.getElem?_eq_some_iff.1 hi
  obtain ⟨hj1, rfl⟩ := List.getElem?_eq_some_iff.1 hj
  rw [List.pairwise_iff_getElem] at h
  rcases Nat.lt_or_gt_of_ne hne with hlt | hlt
  · exact h i j hi1 hj1 hlt g hg
  · intro e
    exact h j i hj1 hi1 hlt g e hg

/-- One place of list i is written. -/
theorem P1.set {w0 wr : World} {its : List It} {i g n cap : Nat} {p : It} {cur : Array Value} (h : P1 w0 wr its i) (haw : its.Pairwise Away) (hp : its[i]? = some p) (hl : p.l = .slice (some ⟨g, 0, none⟩) n cap) (hg : wr.heap[g]? = some (.cells cur 33 (0, 0))) (hs : cur.size = cap * 4) (hm : cap ≤ maxLen) (t : Nat) (u : Value) :
    P1 w0 (wr.setCell ⟨g, t, none⟩ u) its i := by
  have hown : p.l.ownBlock = some g := by rw [hl]; rfl
  have hpm : p ∈ its := List.mem_of_getElem? hp
  have hoth : ∀ k, k ≠ g → (wr.setCell ⟨g, t, none⟩ u).heap[k]? = wr.heap[k]? := fun k hk => Below.heap_setCell _ _ _ _ hk
  refine ⟨h.os, h.tape, h.output, by simpa [World.setCell] using h.size, fun k hk hno => ?_, fun q hq => ?_, fun j q hj hji => ?_⟩
  · rw [hoth k (fun e => hno p hpm (by rw [hown, e]))]
    exact h.block k hk hno
  · obtain ⟨j, hj⟩ := List.mem_iff_getElem?.1 hq
    by_cases e : i = j
    · subst e
      rw [hp] at hj
      cases hj
      exact .inr ⟨g, n, cap, _, hl, hm, set_row hg, by simpa using hs, fun _ _ => trivial⟩
    · exact (h.wide q hq).keep fun g' hg' => hoth g' (fun e' => away_of haw hp hj e hown (e' ▸ hg'))
  · exact (h.mark j q hj hji).keep fun g' hg' => hoth g' (fun e' => away_of haw hp hj (by omega) hown (e' ▸ hg'))
/-- What is not the book's, and no list of instructions, stands. -/
def Stand (w w' : World) : Prop := ∀ (k : Nat) (cs : Array Value) (T : TypeId), w.heap[k]? = some (.cells cs T (0, 0)) → T ≠ 33 → T ≠ 25 → T ≠ 48 → w'.heap[k]? = w.heap[k]?
theorem set_four (w : World) (g o : Nat) (a b c d : Value) : w.setCells g o [a, b, c, d] = (((w.setCell ⟨g, o, none⟩ a).setCell ⟨g, o + 1, none⟩ b).setCell ⟨g, o + 2, none⟩ c).setCell ⟨g, o + 3, none⟩ d := rfl
theorem P1.set4 {w0 wr : World} {its : List It} {i g n cap : Nat} {p : It} {cur : Array Value} (h : P1 w0 wr its i) (haw : its.Pairwise Away) (hp : its[i]? = some p) (hl : p.l = .slice (some ⟨g, 0, none⟩) n cap) (hg : wr.heap[g]? = some (.cells cur 33 (0, 0))) (hs : cur.size = cap * 4) (hm : cap ≤ maxLen) (t : Nat) (a b c d : Value) :
    P1 w0 (wr.setCells g t [a, b, c, d]) its i ∧ (wr.setCells g t [a, b, c, d]).heap[g]? = some (.cells ((((cur.setIfInBounds t a).setIfInBounds (t + 1) b).setIfInBounds (t + 2) c).setIfInBounds (t + 3) d) 33 (0, 0)) := by
  rw [set_four]
  have p1 := h.set haw hp hl hg hs hm t a
  have g1 := set_row (j := t) (u := a) hg
  have p2 := p1.set haw hp hl g1 (by simpa using hs) hm (t + 1) b
  have g2 := set_row (j := t + 1) (u := b) g1
  have p3 := p2.set haw hp hl g2 (by simpa using hs) hm (t + 2) c
  have g3 := set_row (j := t + 2) (u := c) g2
  exact ⟨p3.set haw hp hl g3 (by simpa using hs) hm (t + 3) d, set_row g3⟩
theorem there4 {w : World} {g t cap : Nat} {cur : Array Value} (hg : w.heap[g]? = some (.cells cur 33 (0, 0))) (hs : cur.size = cap * 4) (ht : t < cap) : w.there g (t * 4) 4 := fun r hr => by
  refine ⟨?_, frozen_row hg _⟩
  rw [cell_of_row w _ _ cur 33 (0, 0) hg]
  have : t * 4 + r < cur.size := by rw [hs]; omega
  simp [this]
theorem one4 (N : Int) : (#[.int .i64 N, .int .i64 0, .int .i64 0, .int .i64 0] : Array Value).all (·.oneCell') = true :=
  all_oneCell_toArray (cs := irow (numI N)) (by intro v hv; simp [irow] at hv; rcases hv with rfl | rfl | rfl | rfl <;> rfl)
theorem size33 : (Try.prog.info? 33).map (·.size) = some 4 := by kernel_rfl
theorem P1.next {w0 wr : World} {its : List It} {i : Nat} {p : It} (h : P1 w0 wr its i) (hp : its[i]? = some p) (hm : Mem wr p.l (fun t c => MkAt i t c)) : P1 w0 wr its (i + 1) :=
  ⟨h.os, h.tape, h.output, h.size, h.block, h.wide, fun j q hj hji => by
    by_cases e : j = i
    · subst e
      rw [hp] at hj
      cases hj
      exact hm
    · exact h.mark j q hj (by omega)⟩

theorem IsBk.notRow {B pb : Nat} {w : World} {L W : Value} {held : Int} {its : List It} (h : IsBk B pb w L W held its) {k : Nat} {cs : Array Value} {T : TypeId} {f : Nat × Nat} (hk : w.heap[k]? = some (.cells cs T f)) (hT : T ≠ 33) : ∀ p ∈ its, p.l.ownBlock ≠ some k := fun p hp e => by
  obtain ⟨cur, hc⟩ := (Mem.of_own (h.fine p hp).l).five e
  rw [hk] at hc
  cases hc
  exact hT rfl
theorem P1.blk {B pb i : Nat} {w wr : World} {L W : Value} {held : Int} {its : List It} (h : IsBk B pb w L W held its) (q : P1 w wr its i) : wr.heap[pb]? = some (.cells #[L, W, .int .i64 held, .bool false] 48 (0, 0)) :=
  (q.block pb (Array.getElem?_eq_some_iff.1 h.blk).1 (h.notRow h.blk (by decide))).trans h.blk
theorem P1.sl {B pb i : Nat} {w wr : World} {L W : Value} {held : Int} {its : List It} (h : IsBk B pb w L W held its) (q : P1 w wr its i) : Slot B wr L (its.map It.l) :=
  h.sl.keep fun g hg hlt => by
    obtain ⟨-, cur, hc⟩ := h.sl.lt g hg
    exact q.block g hlt (h.notRow hc (by decide))
theorem P1.start {B pb : Nat} {w : World} {L W : Value} {held : Int} {its : List It} (h : IsBk B pb w L W held its) : P1 w w its 0 :=
  ⟨rfl, rfl, rfl, Nat.le_refl _, fun _ _ _ => rfl, fun p hp => Mem.of_own (h.fine p hp).l, fun _ _ _ hj => absurd hj (Nat.not_lt_zero _)⟩
/-- Old memory below the book stands. -/
theorem P1.below {B pb i C : Nat} {w wr : World} {L W : Value} {held : Int} {its : List It} (h : IsBk B pb w L W held its) (q : P1 w wr its i) (h1 : C ≤ w.heap.size) (h2 : C ≤ B) : Below C w wr :=
  ⟨q.os, q.tape, q.output, q.size, fun k hk => q.block k (by omega) (fun p hp e => by have := ((h.fine p hp).l.lt k e).1; omega)⟩

set_option maxRecDepth 20000 in
set_option maxHeartbeats 4000000 in
set_option maxRecDepth 20000 in
theorem apart_any (B pb C : Nat) (L W : Value) (held : Int) (its : List It) (w : World) (h : IsBk B pb w L W held its) (hlen : its.length ≤ 2000) (hC : C ≤ w.heap.size) (hCp : C ≤ pb) (hCB : C ≤ B) :
    Calls Try.prog 28 #[.pointer (some ⟨pb, 0, none⟩), .func (.func 29) #[] #[]] w fun e w' => e = .returned (.bool true) ∧ Below C w w' ∧ Stand w w' := by
  have HS := hidIt (stays_any B pb L W held its w h hlen)
  have HBLK := hidIt h.blk
  go_enter Try.func28, Try.ntmps28
  go_wp2_with fail
  refine HS.out.mono ?_
  rintro e w1 ⟨rfl, K1, H1⟩
  have b1 : Below C w w1 := K1.below hC hCp hCB
  have z1 := K1.size
  have HK1 := hidIt K1
  clear HS h K1
  obtain ⟨aoL, capL, eL, hcL, hmL⟩ := H1.sl.form
  rw [List.length_map] at eL hcL
  subst eL
  have haw := H1.away
  go_wp2_with fail
  go_loopw [5] (fun i wr => ∃ k : Nat, k ≤ its.length ∧ i = .int .i64 (k : Int) ∧ P1 w1 wr its k) (fun i _ => its.length - (intOf i).toNat)
  case atStart => exact ⟨0, Nat.zero_le _, rfl, P1.start H1⟩
  case round =>
    obtain ⟨k, hk, rfl, HP⟩ := hrel
    have d0 := kc0 (P1.blk H1 HP)
    by_cases hlt : k < its.length
    · have hk' : (k : Int) < (its.length : Int) := by omega
      have hk0 : (0 : Int) ≤ (k : Int) := by omega
      have hpk : its[k]? = some its[k] := by simp [hlt]
      obtain ⟨gL, oL, rfl, cL⟩ := (P1.sl H1 HP).cell (j := k) (u := its[k].l) (by simp [hlt])
      have hpm : its[k] ∈ its := by simp
      generalize its[k] = p at *
      rcases id (HP.wide p hpm) with epl | ⟨g, n, cap, cur, epl, hmc, hg, hcs, -⟩
      · rw [epl] at cL
        have HPn : Hid (∀ q, P1 w1 (wr.drewN q) its (k + 1)) := fun q => (P1.next HP hpk (.inl epl)).drew q
        go_wp2_with fail
        go_quiet (fail)
        go_wp2_with fail
        go_loopw [7] (fun j wr' => j = .int .i64 0 ∧ P1 w1 wr' its (k + 1)) (fun _ _ => 0)
        case atStart => exact ⟨rfl, HPn.out _⟩
        case round =>
          obtain ⟨rfl, HP'⟩ := hrel
          go_wp2_with fail
          exact ⟨⟨k + 1, by omega, by go_num, HP'⟩, by simp [intOf]; omega⟩
      · rw [epl] at cL
        have HP0 := hidIt HP
        unfold maxLen at hmc
        go_wp2_with fail
        go_quiet (fail)
        go_wp2_with fail
        go_loopw [7] (fun j wr' => ∃ (t : Nat) (cur : Array Value), j = .int .i64 (t : Int) ∧ t ≤ cap ∧ wr'.heap[g]? = some (.cells cur 33 (0, 0)) ∧ cur.size = cap * 4 ∧ (∀ t', t' < t → MkAt k t' cur) ∧ P1 w1 wr' its k) (fun j _ => cap - (intOf j).toNat)
        case atStart => exact ⟨0, cur, rfl, Nat.zero_le _, hg, hcs, fun _ h => absurd h (Nat.not_lt_zero _), HP0.out.drew _⟩
        case round =>
          clear cL d0 HP HP0 hg hcs cur
          obtain ⟨t, cur, rfl, ht, hg, hcs, hmk, HP⟩ := hrel
          by_cases htl : t < cap
          · have ht' : (t : Int) < (cap : Int) := by omega
            have HM := hidIt (mark_any k t wr)
            obtain ⟨N, hN⟩ : ∃ N, Hid (mkN k t = N) := ⟨_, rfl⟩
            rw [show mkN k t = N from hN.out] at HM
            unfold numI IN.val at HM
            have h15 := one4 N
            have hi5 := size33
            have HX := hidIt (mk_put N hN.out hcs htl hmk)
            have HP0 := hidIt HP
            have HG0 := hidIt hg
            clear HP hg
            go_wp2_with fail
            refine HM.out.mono ?_
            rintro e w2 ⟨rfl, b2⟩
            have hg2 := (b2.block g (Array.getElem?_eq_some_iff.1 HG0.out).1).trans HG0.out
            have ht := there4 hg2 hcs htl
            have hml : cap ≤ maxLen := by unfold maxLen; omega
            have HPS := hidIt ((HP0.out.later b2).set4 haw hpk epl hg2 hcs hml (t * 4) (.int .i64 N) (.int .i64 0) (.int .i64 0) (.int .i64 0))
            clear hg2 HG0 HP0 HM
            go_wp2_with (refine wpList_store_mid rfl 33 (.tmp 51) (.tmp 50) rfl g (t * 4) #[.int .i64 N, .int .i64 0, .int .i64 0, .int .i64 0] rfl rfl ht hi5 h15 ?_; rw [show (#[.int .i64 N, .int .i64 0, .int .i64 0, .int .i64 0] : Array Value).toList = [.int .i64 N, .int .i64 0, .int .i64 0, .int .i64 0] from rfl]; generalize w2.setCells g (t * 4) [.int .i64 N, .int .i64 0, .int .i64 0, .int .i64 0] = w9 at *)
            exact ⟨⟨t + 1, _, by go_num, by omega, HPS.out.2, by simpa using hcs, HX.out, HPS.out.1⟩, by simp [intOf]; omega⟩
          · have ht' : ¬ (t : Int) < (cap : Int) := by omega
            have hte : t = cap := by omega
            have HPn : Hid (P1 w1 wr its (k + 1)) := P1.next HP hpk (.inr ⟨g, n, cap, cur, epl, by unfold maxLen; omega, hg, hcs, fun j hj => hmk j (by omega)⟩)
            go_wp2_with fail
            exact ⟨⟨k + 1, by omega, by go_num, HPn.out⟩, by simp [intOf]; omega⟩
    · have hk' : ¬ (k : Int) < (its.length : Int) := by omega
      have hke : k = its.length := by omega
      subst hke
      go_wp2_with fail
      go_loopw [8] (fun i wr => ∃ k : Nat, k ≤ its.length ∧ i = .int .i64 (k : Int) ∧ P1 w1 wr its its.length) (fun i _ => its.length - (intOf i).toNat)
      case atStart => exact ⟨0, Nat.zero_le _, rfl, HP⟩
      case round =>
        clear HP d0
        obtain ⟨k, hk, rfl, HP⟩ := hrel
        have x0 := P1.blk H1 HP
        have d0 := kc0 x0
        by_cases hlt : k < its.length
        · have hk' : (k : Int) < (its.length : Int) := by omega
          have hk0 : (0 : Int) ≤ (k : Int) := by omega
          have hpk : its[k]? = some its[k] := by simp [hlt]
          obtain ⟨gL, oL, rfl, cL⟩ := (P1.sl H1 HP).cell (j := k) (u := its[k].l) (by simp [hlt])
          generalize its[k] = p at *
          have HP0 := hidIt HP
          rcases id (HP.mark k p hpk hlt) with epl | ⟨g, n, cap, cur, epl, hmc, hg, hcs, hmk⟩
          · rw [epl] at cL
            go_wp2_with fail
            go_quiet (fail)
            go_wp2_with fail
            go_loopw [10] (fun j wr' => j = .int .i64 0 ∧ P1 w1 wr' its its.length) (fun _ _ => 0)
            case atStart => exact ⟨rfl, HP0.out.drew _⟩
            case round =>
              obtain ⟨rfl, HP'⟩ := hrel
              go_wp2_with fail
              exact ⟨⟨k + 1, by omega, by go_num, HP'⟩, by simp [intOf]; omega⟩
          · rw [epl] at cL
            unfold maxLen at hmc
            have HG := hidIt hg
            go_wp2_with fail
            go_quiet (fail)
            go_wp2_with fail
            go_loopw [10] (fun j wr' => ∃ t : Nat, j = .int .i64 (t : Int) ∧ t ≤ cap ∧ wr'.heap[g]? = some (.cells cur 33 (0, 0)) ∧ P1 w1 wr' its its.length) (fun j _ => cap - (intOf j).toNat)
            case atStart => exact ⟨0, rfl, Nat.zero_le _, HG.out, HP0.out.drew _⟩
            case round =>
              clear cL d0 HP HP0 hg HG x0
              obtain ⟨t, rfl, ht, hg, HP⟩ := hrel
              by_cases htl : t < cap
              · have ht' : (t : Int) < (cap : Int) := by omega
                have hc := mk_at hg (hmk t htl)
                have HM : Hid (∀ W, Calls Try.prog 29 #[.int .i64 (k : Int), .int .i64 (t : Int)] W fun e w' => e = .returned (numI (mkN k t)).val ∧ Below W.heap.size W w') := fun W => mark_any k t W
                generalize numI (mkN k t) = c at *
                unfold IN.val at HM
                have hcd : IAt wr.drew g (t * 4) c := hc.block rfl
                have HPd : Hid (P1 w1 wr.drew its its.length) := HP.drew 1
                have HGd : Hid (wr.drew.heap[g]? = some (.cells cur 33 (0, 0))) := hg
                clear HP hg
                obtain ⟨c0, c1, c2, c3⟩ := id hc
                obtain ⟨d0, d1, d2, d3⟩ := id hcd
                have hBd : Below wr.drew.heap.size wr.drew wr.drew := Below.refl _ _
                have mkL : Hid (∀ w', Below wr.drew.heap.size wr.drew w' → w'.cell? ⟨g, t * 4, none⟩ = some (.int .i64 c.pl) ∧ w'.cell? ⟨g, t * 4 + 1, none⟩ = some (.int .i64 c.op) ∧ w'.cell? ⟨g, t * 4 + 2, none⟩ = some (.int .i64 c.a) ∧ w'.cell? ⟨g, t * 4 + 3, none⟩ = some (.int .i64 c.b)) := by
                  intro w' hb
                  obtain ⟨e0, e1, e2, e3⟩ := hcd.below hb
                  exact ⟨e0, e1, e2, e3⟩
                go_upto_region 18 with fail
                go_cut [91] from 83 to 91 (fun s91 wx => s91 = .bool false ∧ Below wr.drew.heap.size wr.drew wx)
                case first =>
                  refine wp_region_noPanic ?_
                  refine wp_region_held_drew (S := (fun w' => w'.cell? ⟨g, t * 4, none⟩ = some (.int .i64 c.pl) ∧ w'.cell? ⟨g, t * 4 + 1, none⟩ = some (.int .i64 c.op) ∧ w'.cell? ⟨g, t * 4 + 2, none⟩ = some (.int .i64 c.a) ∧ w'.cell? ⟨g, t * 4 + 3, none⟩ = some (.int .i64 c.b))) (by kernel_rfl) ?_ (fun hHeld => ?_)
                  · (try dsimp only); exact mkL.out _ (by assumption)
                  refine wpAnyH_take (i := 0) (oi := { dst := some 83, op := Go.Op.move (Go.Operand.tmp 9), type := 25, pos := "book.go:59", after := #[], guard := none }) (v := ?vb1) rfl (by kernel_rfl) (by kernel_rfl) (by kernel_rfl) (fun _ _ _ h => h) (Or.inl ⟨by rfl, ?hyb1⟩) (by assumption) ?restb1
                  case hyb1 => intro w hSw; (try dsimp only at hSw); go_simp; try with_reducible rfl
                  try simp only [Act.put, List.setIfInBounds_toArray, List.set_cons_zero, List.set_cons_succ]
                  refine wpAnyH_take (i := 1) (oi := { dst := some 84, op := Go.Op.move (Go.Operand.tmp 10), type := 3, pos := "book.go:59", after := #[], guard := none }) (v := ?vb2) rfl (by kernel_rfl) (by kernel_rfl) (by kernel_rfl) (fun _ _ _ h => h) (Or.inl ⟨by rfl, ?hyb2⟩) (by assumption) ?restb2
                  case hyb2 => intro w hSw; (try dsimp only at hSw); go_simp; try with_reducible rfl
                  try simp only [Act.put, List.setIfInBounds_toArray, List.set_cons_zero, List.set_cons_succ]
                  refine wpAnyH_take (i := 2) (oi := { dst := some 85, op := Go.Op.indexAddr 25 (Go.Operand.tmp 83) (Go.Operand.tmp 84), type := 0, pos := "book.go:59", after := #[{ on := 0, ground := Go.Ground.data }, { on := 1, ground := Go.Ground.data }], guard := none }) (v := ?vb3) rfl (by kernel_rfl) (by kernel_rfl) (by kernel_rfl) (fun _ _ _ h => h) (Or.inl ⟨by rfl, ?hyb3⟩) (by assumption) ?restb3
                  case hyb3 => intro w hSw; (try dsimp only at hSw); go_simp; try with_reducible rfl
                  try simp only [Act.put, List.setIfInBounds_toArray, List.set_cons_zero, List.set_cons_succ]
                  refine wpAnyH_take (i := 3) (oi := { dst := some 86, op := Go.Op.load 33 (Go.Operand.tmp 85), type := 33, pos := "book.go:59", after := #[{ on := 2, ground := Go.Ground.data }], guard := none }) (v := ?vb4) rfl (by kernel_rfl) (by kernel_rfl) (by kernel_rfl) (fun _ _ _ h => h) (Or.inl ⟨by rfl, ?hyb4⟩) (by assumption) ?restb4
                  case hyb4 => intro w hSw; (try dsimp only at hSw); go_simp; try with_reducible rfl
                  try simp only [Act.put, List.setIfInBounds_toArray, List.set_cons_zero, List.set_cons_succ]
                  refine wpAnyH_take (i := 4) (oi := { dst := some 87, op := Go.Op.move (Go.Operand.tmp 1), type := 55, pos := "book.go:59", after := #[], guard := none }) (v := ?vb5) rfl (by kernel_rfl) (by kernel_rfl) (by kernel_rfl) (fun _ _ _ h => h) (Or.inl ⟨by rfl, ?hyb5⟩) (by assumption) ?restb5
                  case hyb5 => intro w hSw; (try dsimp only at hSw); go_simp; try with_reducible rfl
                  try simp only [Act.put, List.setIfInBounds_toArray, List.set_cons_zero, List.set_cons_succ]
                  refine wpAnyH_take (i := 5) (oi := { dst := some 88, op := Go.Op.move (Go.Operand.tmp 8), type := 3, pos := "book.go:59", after := #[], guard := none }) (v := ?vb6) rfl (by kernel_rfl) (by kernel_rfl) (by kernel_rfl) (fun _ _ _ h => h) (Or.inl ⟨by rfl, ?hyb6⟩) (by assumption) ?restb6
                  case hyb6 => intro w hSw; (try dsimp only at hSw); go_simp; try with_reducible rfl
                  try simp only [Act.put, List.setIfInBounds_toArray, List.set_cons_zero, List.set_cons_succ]
                  refine wpAnyH_take (i := 6) (oi := { dst := some 89, op := Go.Op.move (Go.Operand.tmp 10), type := 3, pos := "book.go:59", after := #[], guard := none }) (v := ?vb7) rfl (by kernel_rfl) (by kernel_rfl) (by kernel_rfl) (fun _ _ _ h => h) (Or.inl ⟨by rfl, ?hyb7⟩) (by assumption) ?restb7
                  case hyb7 => intro w hSw; (try dsimp only at hSw); go_simp; try with_reducible rfl
                  try simp only [Act.put, List.setIfInBounds_toArray, List.set_cons_zero, List.set_cons_succ]
                  refine wpAnyH_ready (rs := [7]) (by kernel_rfl) (by simp) ?_
                  refine AllReadyH.cons (o := { dst := some 90, op := Go.Op.call { callee := Go.Callee.value (Go.Operand.tmp 87), args := #[Go.Operand.tmp 88, Go.Operand.tmp 89], argTypes := #[3, 3] }, type := 33, pos := "book.go:59", after := #[{ on := 4, ground := Go.Ground.data }, { on := 5, ground := Go.Ground.data }, { on := 6, ground := Go.Ground.data }], guard := none }) rfl (fun K hK => ?_) AllReadyH.nil
                  go_simp
                  refine (HM.out _).mono ?_; rintro e wa ⟨rfl, ba⟩
                  try go_wp2_with fail
                  refine hK.out _ _ ?hSb8 ?restb8
                  case hSb8 => (try dsimp only); exact mkL.out _ (by assumption)
                  clear hK K hHeld
                  intro hHeld
                  try simp only [Act.put, List.setIfInBounds_toArray, List.set_cons_zero, List.set_cons_succ]
                  refine wpAnyH_take (i := 8) (oi := { dst := some 91, op := Go.Op.binOp Go.BinOp.neq 33 (Go.Operand.tmp 86) (Go.Operand.tmp 90) 33, type := 4, pos := "book.go:59", after := #[{ on := 3, ground := Go.Ground.data }, { on := 7, ground := Go.Ground.data }], guard := none }) (v := .bool false) rfl (by kernel_rfl) (by kernel_rfl) (by kernel_rfl) (fun _ _ _ h => h) (Or.inl ⟨by rfl, ?hyb9⟩) (by assumption) ?restb9
                  case hyb9 => intro w _; refine exec_cne _ c w (.tmp 86) (.tmp 90) _ ?_ ?_ ?_ <;> rfl
                  try simp only [Act.put, List.setIfInBounds_toArray, List.set_cons_zero, List.set_cons_succ]
                  refine wpAnyH_done (by kernel_rfl) ?_ _
                  refine NoPanic.normal ?_
                  go_wp2_with fail
                  go_meet
                  exact ⟨rfl, ba⟩
                case rest =>
                  obtain ⟨rfl, b'⟩ := hcut
                  go_wp2_with fail
                  exact ⟨⟨t + 1, by go_num, by omega, (b'.block g (Array.getElem?_eq_some_iff.1 HGd.out).1).trans HGd.out, HPd.out.later b'⟩, by simp [intOf]; omega⟩
              · have ht' : ¬ (t : Int) < (cap : Int) := by omega
                go_wp2_with fail
                exact ⟨⟨k + 1, by omega, by go_num, HP⟩, by simp [intOf]; omega⟩
        · have hk' : ¬ (k : Int) < (its.length : Int) := by omega
          have f0 := frozen_row x0 0
          have f1 := frozen_row x0 1
          have f2 := frozen_row x0 2
          have d1 := kc1 x0
          have d2 := kc2 x0
          go_wp2_with fail
          go_ret
          have bz : Below C w1 wr := P1.below H1 HP (by omega) hCB
          refine ⟨rfl, b1.trans (((bz.setCell (p := ⟨pb, 0, none⟩) hCp _).setCell (p := ⟨pb, 1, none⟩) hCp _).setCell (p := ⟨pb, 2, none⟩) hCp _), fun k2 cs T hk2 h33 h25 h48 => ?_⟩
          have hkp : k2 ≠ pb := other_block hk2 HBLK.out h48
          have s1 := HK1.out.block k2 (Array.getElem?_eq_some_iff.1 hk2).1 hkp (.inr fun cs' e => by rw [hk2] at e; cases e; exact h25 rfl)
          have s2 := HP.block k2 (Nat.lt_of_lt_of_le (Array.getElem?_eq_some_iff.1 hk2).1 z1) (H1.notRow (s1.trans hk2) h33)
          rw [Below.heap_setCell _ _ _ _ hkp, Below.heap_setCell _ _ _ _ hkp, Below.heap_setCell _ _ _ _ hkp, s2, s1]
end Go.Proofs.Ytcmneinhcfejhaa.KI
