/- The book: Apart. -/
import Derived.Test.YtcmneinhcfejhaaYA
namespace Go.Proofs.Ytcmneinhcfejhaa.KY
open Go.RowKit

/-- A row of bytes with all its room; of each place this is known. -/
def Mem (w : World) (v : Value) (R : Nat → Option Value → Prop) : Prop :=
  v = .slice none 0 0 ∨ ∃ g n cap cur, v = .slice (some ⟨g, 0, none⟩) n cap ∧ cap ≤ maxLen ∧ w.heap[g]? = some (.cells cur 5 (0, 0)) ∧ cur.size = cap ∧ ∀ j, j < cap → R j cur[j]?
theorem Mem.keep {w w' : World} {v : Value} {R : Nat → Option Value → Prop} (h : Mem w v R) (hb : ∀ g, v.ownBlock = some g → w'.heap[g]? = w.heap[g]?) : Mem w' v R := by
  rcases h with h | ⟨g, n, cap, cur, rfl, hm, hg, r⟩
  · exact .inl h
  · exact .inr ⟨g, n, cap, cur, rfl, hm, (hb g rfl).trans hg, r⟩
theorem Mem.of_own {B n : Nat} {w : World} {v : Value} {xs : List Value} (h : w.ownsRow B 5 1 v n xs) : Mem w v (fun _ _ => True) := by
  rcases h.2 with ⟨rfl, -⟩ | ⟨g, cap, cur, rfl, hB, hg, hc, hm, hs, -⟩
  · exact .inl rfl
  · exact .inr ⟨g, n, cap, cur, rfl, hm, hg, by omega, fun _ _ => trivial⟩
theorem Mem.five {w : World} {v : Value} {R : Nat → Option Value → Prop} (h : Mem w v R) {g : Nat} (hg : v.ownBlock = some g) : ∃ cur, w.heap[g]? = some (.cells cur 5 (0, 0)) := by
  rcases h with rfl | ⟨g', n, cap, cur, rfl, hm, hg', r⟩
  · simp [Value.ownBlock] at hg
  · simp only [Value.ownBlock, Option.some.injEq] at hg
    subst hg
    exact ⟨cur, hg'⟩

/-- The first i lists hold their marks; all but the lists' rows is as in w0. -/
structure P1 (w0 wr : World) (its : List It) (i : Nat) : Prop where
  os : wr.os = w0.os
  tape : wr.tape = w0.tape
  output : wr.output = w0.output
  size : w0.heap.size ≤ wr.heap.size
  block : ∀ k, k < w0.heap.size → (∀ p ∈ its, p.l.ownBlock ≠ some k) → wr.heap[k]? = w0.heap[k]?
  wide : ∀ p ∈ its, Mem wr p.l (fun _ _ => True)
  mark : ∀ j p, its[j]? = some p → j < i → Mem wr p.l (fun t c => c = some (.int .u8 (mrk j t)))

theorem P1.drew {w0 wr : World} {its : List It} {i : Nat} (q : Nat) (h : P1 w0 wr its i) : P1 w0 (wr.drewN q) its i := ⟨h.os, h.tape, h.output, h.size, h.block, h.wide, h.mark⟩

theorem away_of {its : List It} (h : its.Pairwise Away) {i j : Nat} {p q : It} (hi : its[i]? = some p) (hj : its[j]? = some q) (hne : i ≠ j) {g : Nat} (hg : p.l.ownBlock = some g) : q.l.ownBlock ≠ some g := by
  obtain ⟨hi1, rfl⟩ := List.getElem?_eq_some_iff.1 hi
  obtain ⟨hj1, rfl⟩ := List.getElem?_eq_some_iff.1 hj
  rw [List.pairwise_iff_getElem] at h
  rcases Nat.lt_or_gt_of_ne hne with hlt | hlt
  · exact h i j hi1 hj1 hlt g hg
  · intro e
    exact h j i hj1 hi1 hlt g e hg

/-- One place of list i is written. -/
theorem P1.set {w0 wr : World} {its : List It} {i g n cap : Nat} {p : It} {cur : Array Value} (h : P1 w0 wr its i) (haw : its.Pairwise Away) (hp : its[i]? = some p) (hl : p.l = .slice (some ⟨g, 0, none⟩) n cap) (hg : wr.heap[g]? = some (.cells cur 5 (0, 0))) (hs : cur.size = cap) (hm : cap ≤ maxLen) (t : Nat) (u : Value) :
    P1 w0 (wr.setCell ⟨g, t, none⟩ u) its i := by
  have hown : p.l.ownBlock = some g := by rw [hl]; rfl
  have hpm : p ∈ its := List.mem_of_getElem? hp
  have hoth : ∀ k, k ≠ g → (wr.setCell ⟨g, t, none⟩ u).heap[k]? = wr.heap[k]? := fun k hk => Below.heap_setCell _ _ _ _ hk
  refine ⟨h.os, h.tape, h.output, by simpa [World.setCell] using h.size, fun k hk hno => ?_, fun q hq => ?_, fun j q hj hji => ?_⟩
  · rw [hoth k (fun e => hno p hpm (by rw [hown, e]))]
    exact h.block k hk hno
  · obtain ⟨j, hj⟩ := List.mem_iff_getElem?.1 hq
    by_cases e : i = j
    · subst e
      rw [hp] at hj
      cases hj
      exact .inr ⟨g, n, cap, _, hl, hm, set_row hg, by simpa using hs, fun _ _ => trivial⟩
    · exact (h.wide q hq).keep fun g' hg' => hoth g' (fun e' => away_of haw hp hj e hown (e' ▸ hg'))
  · exact (h.mark j q hj hji).keep fun g' hg' => hoth g' (fun e' => away_of haw hp hj (by omega) hown (e' ▸ hg'))
theorem P1.next {w0 wr : World} {its : List It} {i : Nat} {p : It} (h : P1 w0 wr its i) (hp : its[i]? = some p) (hm : Mem wr p.l (fun t c => c = some (.int .u8 (mrk i t)))) : P1 w0 wr its (i + 1) :=
  ⟨h.os, h.tape, h.output, h.size, h.block, h.wide, fun j q hj hji => by
    by_cases e : j = i
    · subst e
      rw [hp] at hj
      cases hj
      exact hm
    · exact h.mark j q hj (by omega)⟩

theorem IsBk.notRow {B pb : Nat} {w : World} {L W : Value} {held : Int} {its : List It} (h : IsBk B pb w L W held its) {k : Nat} {cs : Array Value} {T : TypeId} {f : Nat × Nat} (hk : w.heap[k]? = some (.cells cs T f)) (hT : T ≠ 5) : ∀ p ∈ its, p.l.ownBlock ≠ some k := fun p hp e => by
  obtain ⟨cur, hc⟩ := (Mem.of_own (h.fine p hp).l).five e
  rw [hk] at hc
  cases hc
  exact hT rfl
theorem P1.blk {B pb i : Nat} {w wr : World} {L W : Value} {held : Int} {its : List It} (h : IsBk B pb w L W held its) (q : P1 w wr its i) : wr.heap[pb]? = some (.cells #[L, W, .int .i64 held, .bool false] 51 (0, 0)) :=
  (q.block pb (Array.getElem?_eq_some_iff.1 h.blk).1 (h.notRow h.blk (by decide))).trans h.blk
theorem P1.sl {B pb i : Nat} {w wr : World} {L W : Value} {held : Int} {its : List It} (h : IsBk B pb w L W held its) (q : P1 w wr its i) : Slot B wr L (its.map It.l) :=
  h.sl.keep fun g hg hlt => by
    obtain ⟨-, cur, hc⟩ := h.sl.lt g hg
    exact q.block g hlt (h.notRow hc (by decide))
theorem P1.start {B pb : Nat} {w : World} {L W : Value} {held : Int} {its : List It} (h : IsBk B pb w L W held its) : P1 w w its 0 :=
  ⟨rfl, rfl, rfl, Nat.le_refl _, fun _ _ _ => rfl, fun p hp => Mem.of_own (h.fine p hp).l, fun _ _ _ hj => absurd hj (Nat.not_lt_zero _)⟩
/-- Old memory below the book stands. -/
theorem P1.below {B pb i C : Nat} {w wr : World} {L W : Value} {held : Int} {its : List It} (h : IsBk B pb w L W held its) (q : P1 w wr its i) (h1 : C ≤ w.heap.size) (h2 : C ≤ B) : Below C w wr :=
  ⟨q.os, q.tape, q.output, q.size, fun k hk => q.block k (by omega) (fun p hp e => by have := ((h.fine p hp).l.lt k e).1; omega)⟩

set_option maxHeartbeats 4000000 in
set_option maxRecDepth 20000 in
theorem apart_any (B pb C : Nat) (L W : Value) (held : Int) (its : List It) (w : World) (h : IsBk B pb w L W held its) (hlen : its.length ≤ 2000) (hC : C ≤ w.heap.size) (hCp : C ≤ pb) (hCB : C ≤ B) :
    Calls Try.prog 30 #[.pointer (some ⟨pb, 0, none⟩), .func (.func 31) #[] #[]] w fun e w' => e = .returned (.bool true) ∧ Below C w w' := by
  have HS := hidIt (stays_any B pb L W held its w h hlen)
  go_enter Try.func30, Try.ntmps30
  go_wp2_with fail
  refine HS.out.mono ?_
  rintro e w1 ⟨rfl, K1, H1⟩
  have b1 : Below C w w1 := K1.below hC hCp hCB
  have z1 := K1.size
  clear HS h K1
  obtain ⟨aoL, capL, eL, hcL, hmL⟩ := H1.sl.form
  rw [List.length_map] at eL hcL
  subst eL
  have haw := H1.away
  go_wp2_with fail
  go_loopw [5] (fun i wr => ∃ k : Nat, k ≤ its.length ∧ i = .int .i64 (k : Int) ∧ P1 w1 wr its k) (fun i _ => its.length - (intOf i).toNat)
  case atStart => exact ⟨0, Nat.zero_le _, rfl, P1.start H1⟩
  case round =>
    obtain ⟨k, hk, rfl, HP⟩ := hrel
    have d0 := kc0 (P1.blk H1 HP)
    by_cases hlt : k < its.length
    · have hk' : (k : Int) < (its.length : Int) := by omega
      have hk0 : (0 : Int) ≤ (k : Int) := by omega
      have hpk : its[k]? = some its[k] := by simp [hlt]
      obtain ⟨gL, oL, rfl, cL⟩ := (P1.sl H1 HP).cell (j := k) (u := its[k].l) (by simp [hlt])
      have hpm : its[k] ∈ its := by simp
      generalize its[k] = p at *
      rcases id (HP.wide p hpm) with epl | ⟨g, n, cap, cur, epl, hmc, hg, hcs, -⟩
      · rw [epl] at cL
        have HPn : Hid (∀ q, P1 w1 (wr.drewN q) its (k + 1)) := fun q => (P1.next HP hpk (.inl epl)).drew q
        go_wp2_with fail
        go_quiet (fail)
        go_wp2_with fail
        go_loopw [7] (fun j wr' => j = .int .i64 0 ∧ P1 w1 wr' its (k + 1)) (fun _ _ => 0)
        case atStart => exact ⟨rfl, HPn.out _⟩
        case round =>
          obtain ⟨rfl, HP'⟩ := hrel
          go_wp2_with fail
          exact ⟨⟨k + 1, by omega, by go_num, HP'⟩, by simp [intOf]; omega⟩
      · rw [epl] at cL
        have HP0 := hidIt HP
        unfold maxLen at hmc
        go_wp2_with fail
        go_quiet (fail)
        go_wp2_with fail
        go_loopw [7] (fun j wr' => ∃ (t : Nat) (cur : Array Value), j = .int .i64 (t : Int) ∧ t ≤ cap ∧ wr'.heap[g]? = some (.cells cur 5 (0, 0)) ∧ cur.size = cap ∧ (∀ t', t' < t → cur[t']? = some (.int .u8 (mrk k t'))) ∧ P1 w1 wr' its k) (fun j _ => cap - (intOf j).toNat)
        case atStart => exact ⟨0, cur, rfl, Nat.zero_le _, hg, hcs, fun _ h => absurd h (Nat.not_lt_zero _), HP0.out.drew _⟩
        case round =>
          clear cL d0 HP HP0 hg hcs cur
          obtain ⟨t, cur, rfl, ht, hg, hcs, hmk, HP⟩ := hrel
          by_cases htl : t < cap
          · have ht' : (t : Int) < (cap : Int) := by omega
            have ct : ∃ u, wr.cell? ⟨g, t, none⟩ = some u := by
              rw [cell_of_row wr g t cur 5 (0, 0) hg]
              exact ⟨cur[t], by simp [htl, hcs]⟩
            obtain ⟨u, hu⟩ := ct
            have hf := frozen_row hg t
            have HM := hidIt (mark_any k t wr (by omega) (by unfold maxLen; omega))
            have HN : Hid (P1 w1 (wr.setCell ⟨g, t, none⟩ (.int .u8 (mrk k t))) its k) := HP.set haw hpk epl hg hcs (by unfold maxLen; omega) t _
            have HG : Hid ((wr.setCell ⟨g, t, none⟩ (.int .u8 (mrk k t))).heap[g]? = some (.cells (cur.setIfInBounds t (.int .u8 (mrk k t))) 5 (0, 0))) := set_row hg
            have HX : Hid (∀ t', t' < t + 1 → (cur.setIfInBounds t (.int .u8 (mrk k t)))[t']? = some (.int .u8 (mrk k t'))) := by
              intro t' h'
              rw [Array.getElem?_setIfInBounds]
              by_cases e : t = t'
              · subst e
                rw [if_pos rfl, if_pos (by omega)]
              · rw [if_neg e]
                exact hmk t' (by omega)
            clear HP hg
            go_wp2_with fail
            refine HM.out.mono ?_
            rintro e w' ⟨rfl, hww⟩; cases hww
            go_wp2_with fail
            exact ⟨⟨t + 1, _, by go_num, by omega, HG.out, by simpa using hcs, HX.out, HN.out⟩, by simp [intOf]; omega⟩
          · have ht' : ¬ (t : Int) < (cap : Int) := by omega
            have hte : t = cap := by omega
            have HPn : Hid (P1 w1 wr its (k + 1)) := P1.next HP hpk (.inr ⟨g, n, cap, cur, epl, by unfold maxLen; omega, hg, hcs, fun j hj => hmk j (by omega)⟩)
            go_wp2_with fail
            exact ⟨⟨k + 1, by omega, by go_num, HPn.out⟩, by simp [intOf]; omega⟩
    · have hk' : ¬ (k : Int) < (its.length : Int) := by omega
      have hke : k = its.length := by omega
      subst hke
      go_wp2_with fail
      go_loopw [8] (fun i wr => ∃ k : Nat, k ≤ its.length ∧ i = .int .i64 (k : Int) ∧ P1 w1 wr its its.length) (fun i _ => its.length - (intOf i).toNat)
      case atStart => exact ⟨0, Nat.zero_le _, rfl, HP⟩
      case round =>
        clear HP d0
        obtain ⟨k, hk, rfl, HP⟩ := hrel
        have x0 := P1.blk H1 HP
        have d0 := kc0 x0
        by_cases hlt : k < its.length
        · have hk' : (k : Int) < (its.length : Int) := by omega
          have hk0 : (0 : Int) ≤ (k : Int) := by omega
          have hpk : its[k]? = some its[k] := by simp [hlt]
          obtain ⟨gL, oL, rfl, cL⟩ := (P1.sl H1 HP).cell (j := k) (u := its[k].l) (by simp [hlt])
          generalize its[k] = p at *
          have HP0 := hidIt HP
          rcases id (HP.mark k p hpk hlt) with epl | ⟨g, n, cap, cur, epl, hmc, hg, hcs, hmk⟩
          · rw [epl] at cL
            go_wp2_with fail
            go_quiet (fail)
            go_wp2_with fail
            go_loopw [10] (fun j wr' => j = .int .i64 0 ∧ P1 w1 wr' its its.length) (fun _ _ => 0)
            case atStart => exact ⟨rfl, HP0.out.drew _⟩
            case round =>
              obtain ⟨rfl, HP'⟩ := hrel
              go_wp2_with fail
              exact ⟨⟨k + 1, by omega, by go_num, HP'⟩, by simp [intOf]; omega⟩
          · rw [epl] at cL
            unfold maxLen at hmc
            have HG := hidIt hg
            go_wp2_with fail
            go_quiet (fail)
            go_wp2_with fail
            go_loopw [10] (fun j wr' => ∃ t : Nat, j = .int .i64 (t : Int) ∧ t ≤ cap ∧ wr'.heap[g]? = some (.cells cur 5 (0, 0)) ∧ P1 w1 wr' its its.length) (fun j _ => cap - (intOf j).toNat)
            case atStart => exact ⟨0, rfl, Nat.zero_le _, HG.out, HP0.out.drew _⟩
            case round =>
              clear cL d0 HP HP0 hg HG x0
              obtain ⟨t, rfl, ht, hg, HP⟩ := hrel
              by_cases htl : t < cap
              · have ht' : (t : Int) < (cap : Int) := by omega
                have ct : wr.cell? ⟨g, t, none⟩ = some (.int .u8 (mrk k t)) := by
                  rw [cell_of_row wr g t cur 5 (0, 0) hg]
                  exact hmk t htl
                have HM : Hid (∀ W, Calls Try.prog 31 #[.int .i64 (k : Int), .int .i64 (t : Int)] W fun e w' => e = .returned (.int .u8 (mrk k t)) ∧ w' = W) := fun W => mark_any k t W (by omega) (by unfold maxLen; omega)
                have HPd : Hid (∀ q, P1 w1 (wr.drewN q) its its.length) := fun q => HP.drew q
                have HGd := hidIt hg
                clear HP hg
                go_wp2_with fail
                go_region_with (go_at_call 31; refine (HM.out _).mono ?_; rintro e w' ⟨rfl, hww⟩; cases hww)
                all_goals
                  go_wp2_with fail
                  exact ⟨⟨t + 1, by go_num, by omega, HGd.out, HPd.out 1⟩, by simp [intOf]; omega⟩
              · have ht' : ¬ (t : Int) < (cap : Int) := by omega
                go_wp2_with fail
                exact ⟨⟨k + 1, by omega, by go_num, HP⟩, by simp [intOf]; omega⟩
        · have hk' : ¬ (k : Int) < (its.length : Int) := by omega
          have f0 := frozen_row x0 0
          have f1 := frozen_row x0 1
          have f2 := frozen_row x0 2
          have d1 := kc1 x0
          have d2 := kc2 x0
          go_wp2_with fail
          go_ret
          have bz : Below C w1 wr := P1.below H1 HP (by omega) hCB
          exact ⟨rfl, b1.trans (((bz.setCell (p := ⟨pb, 0, none⟩) hCp _).setCell (p := ⟨pb, 1, none⟩) hCp _).setCell (p := ⟨pb, 2, none⟩) hCp _)⟩
end Go.Proofs.Ytcmneinhcfejhaa.KY
