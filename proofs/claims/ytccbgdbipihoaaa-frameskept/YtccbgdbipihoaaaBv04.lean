/- Texts BKP QCQ QCL QPC QBase QEnc QDecA QDecB QDecC QKnown QWr QWrN QWrB QPV QCA. -/
import Derived.Test.YtccbgdbipihoaaaBv03
import Derived.Shelf.SlicesQ.IndexFunc
import Derived.Shelf.SlicesE.IndexFunc
import Derived.Test.YtccbgdbipihoaaaProg
import Derived.Test.YtccbgdbipihoaaaBv02
import Derived.Deep.QuietTactic
import Derived.BigQuiet
import Derived.WalkKit
import Derived.WalkSpells
import Derived.WalkLawsBesides
import Derived.Maps.AppendAt
import Derived.Deep.AppendLies
import Derived.Lib.OthersKept
import Derived.Lib.ValidU
import Derived.Lib.DecodeN
import Derived.Deep.LoopGhost
import Derived.Laws.BytesArg
import Derived.Deep.RegionHeld3
import Derived.Deep.RegionLaw
import Derived.Deep.DrawnRows
import Derived.Handy
namespace Go.Proofs.Ytccbgdbipihoaaa.BK
open Go.RowKit Q.D

def Mem (w : World) (v : Value) (R : Nat → Option Value → Prop) : Prop :=
  v = .slice none 0 0 ∨ ∃ g n cap cur, v = .slice (some ⟨g, 0, none⟩) n cap ∧ cap ≤ maxLen ∧ w.heap[g]? = some (.cells cur 9 (0, 0)) ∧ cur.size = cap ∧ ∀ j, j < cap → R j cur[j]?
theorem Mem.keep {w w' : World} {v : Value} {R : Nat → Option Value → Prop} (h : Mem w v R) (hb : ∀ g, v.ownBlock = some g → w'.heap[g]? = w.heap[g]?) : Mem w' v R := by
  rcases h with h | ⟨g, n, cap, cur, rfl, hm, hg, r⟩
  · exact .inl h
  · exact .inr ⟨g, n, cap, cur, rfl, hm, (hb g rfl).trans hg, r⟩
theorem Mem.of_own {B n : Nat} {w : World} {v : Value} {xs : List Value} (h : w.ownsRow B 9 1 v n xs) : Mem w v (fun _ _ => True) := by
  rcases h.2 with ⟨rfl, -⟩ | ⟨g, cap, cur, rfl, hB, hg, hc, hm, hs, -⟩
  · exact .inl rfl
  · exact .inr ⟨g, n, cap, cur, rfl, hm, hg, by omega, fun _ _ => trivial⟩
theorem Mem.five {w : World} {v : Value} {R : Nat → Option Value → Prop} (h : Mem w v R) {g : Nat} (hg : v.ownBlock = some g) : ∃ cur, w.heap[g]? = some (.cells cur 9 (0, 0)) := by
  rcases h with rfl | ⟨g', n, cap, cur, rfl, hm, hg', r⟩
  · simp [Value.ownBlock] at hg
  · simp only [Value.ownBlock, Option.some.injEq] at hg
    subst hg
    exact ⟨cur, hg'⟩

structure P1 (w0 wr : World) (its : List It) (i : Nat) : Prop where
  os : wr.os = w0.os
  tape : wr.tape = w0.tape
  output : wr.output = w0.output
  size : w0.heap.size ≤ wr.heap.size
  block : ∀ k, k < w0.heap.size → (∀ p ∈ its, p.l.ownBlock ≠ some k) → wr.heap[k]? = w0.heap[k]?
  wide : ∀ p ∈ its, Mem wr p.l (fun _ _ => True)
  mark : ∀ j p, its[j]? = some p → j < i → Mem wr p.l (fun _ c => c = some (.string (mrk j)))

theorem P1.drew {w0 wr : World} {its : List It} {i : Nat} (q : Nat) (h : P1 w0 wr its i) : P1 w0 (wr.drewN q) its i := ⟨h.os, h.tape, h.output, h.size, h.block, h.wide, h.mark⟩

theorem Mem.alloc {w : World} {v : Value} {R : Nat → Option Value → Prop} (h : Mem w v R) (o : Obj) : Mem (w.alloc o) v R :=
  h.keep fun g hg => by
    obtain ⟨cur, hc⟩ := h.five hg
    exact heap_alloc_old w _ (Array.getElem?_eq_some_iff.1 hc).1
theorem P1.alloc {w0 wr : World} {its : List It} {i : Nat} (h : P1 w0 wr its i) (o : Obj) : P1 w0 (wr.alloc o) its i :=
  ⟨h.os, h.tape, h.output, by have := h.size; simp; omega, fun k hk hno => (heap_alloc_old wr o (Nat.lt_of_lt_of_le hk h.size)).trans (h.block k hk hno), fun p hp => (h.wide p hp).alloc o, fun j p hj hji => (h.mark j p hj hji).alloc o⟩

theorem away_of {its : List It} (h : its.Pairwise Away) {i j : Nat} {p q : It} (hi : its[i]? = some p) (hj : its[j]? = some q) (hne : i ≠ j) {g : Nat} (hg : p.l.ownBlock = some g) : q.l.ownBlock ≠ some g := by
  obtain ⟨hi1, rfl⟩ := List.getElem?_eq_some_iff.1 hi
  obtain ⟨hj1, rfl⟩ := List.getElem?_eq_some_iff.1 hj
  rw [List.pairwise_iff_getElem] at h
  rcases Nat.lt_or_gt_of_ne hne with hlt | hlt
  · exact h i j hi1 hj1 hlt g hg
  · intro e
    exact h j i hj1 hi1 hlt g e hg

theorem P1.set {w0 wr : World} {its : List It} {i g n cap : Nat} {p : It} {cur : Array Value} (h : P1 w0 wr its i) (haw : its.Pairwise Away) (hp : its[i]? = some p) (hl : p.l = .slice (some ⟨g, 0, none⟩) n cap) (hg : wr.heap[g]? = some (.cells cur 9 (0, 0))) (hs : cur.size = cap) (hm : cap ≤ maxLen) (t : Nat) (u : Value) :
    P1 w0 (wr.setCell ⟨g, t, none⟩ u) its i := by
  have hown : p.l.ownBlock = some g := by rw [hl]; rfl
  have hpm : p ∈ its := List.mem_of_getElem? hp
  have hoth : ∀ k, k ≠ g → (wr.setCell ⟨g, t, none⟩ u).heap[k]? = wr.heap[k]? := fun k hk => Below.heap_setCell _ _ _ _ hk
  refine ⟨h.os, h.tape, h.output, by simpa [World.setCell] using h.size, fun k hk hno => ?_, fun q hq => ?_, fun j q hj hji => ?_⟩
  · rw [hoth k (fun e => hno p hpm (by rw [hown, e]))]
    exact h.block k hk hno
  · obtain ⟨j, hj⟩ := List.mem_iff_getElem?.1 hq
    by_cases e : i = j
    · subst e
      rw [hp] at hj
      cases hj
      exact .inr ⟨g, n, cap, _, hl, hm, set_row hg, by simpa using hs, fun _ _ => trivial⟩
    · exact (h.wide q hq).keep fun g' hg' => hoth g' (fun e' => away_of haw hp hj e hown (e' ▸ hg'))
  · exact (h.mark j q hj hji).keep fun g' hg' => hoth g' (fun e' => away_of haw hp hj (by omega) hown (e' ▸ hg'))
theorem P1.next {w0 wr : World} {its : List It} {i : Nat} {p : It} (h : P1 w0 wr its i) (hp : its[i]? = some p) (hm : Mem wr p.l (fun _ c => c = some (.string (mrk i)))) : P1 w0 wr its (i + 1) :=
  ⟨h.os, h.tape, h.output, h.size, h.block, h.wide, fun j q hj hji => by
    by_cases e : j = i
    · subst e
      rw [hp] at hj
      cases hj
      exact hm
    · exact h.mark j q hj (by omega)⟩

theorem IsBk.notRow {B pb : Nat} {w : World} {L W : Value} {held : Int} {its : List It} (h : IsBk B pb w L W held its) {k : Nat} {cs : Array Value} {T : TypeId} {f : Nat × Nat} (hk : w.heap[k]? = some (.cells cs T f)) (hT : T ≠ 9) : ∀ p ∈ its, p.l.ownBlock ≠ some k := fun p hp e => by
  obtain ⟨cur, hc⟩ := (Mem.of_own (h.fine p hp).l).five e
  rw [hk] at hc
  cases hc
  exact hT rfl
theorem P1.blk {B pb i : Nat} {w wr : World} {L W : Value} {held : Int} {its : List It} (h : IsBk B pb w L W held its) (q : P1 w wr its i) : wr.heap[pb]? = some (.cells #[L, W, .int .i64 held, .bool false] 45 (0, 0)) :=
  (q.block pb (Array.getElem?_eq_some_iff.1 h.blk).1 (h.notRow h.blk (by decide))).trans h.blk
theorem P1.sl {B pb i : Nat} {w wr : World} {L W : Value} {held : Int} {its : List It} (h : IsBk B pb w L W held its) (q : P1 w wr its i) : Slot B wr L (its.map It.l) :=
  h.sl.keep fun g hg hlt => by
    obtain ⟨-, cur, hc⟩ := h.sl.lt g hg
    exact q.block g hlt (h.notRow hc (by decide))
theorem P1.start {B pb : Nat} {w : World} {L W : Value} {held : Int} {its : List It} (h : IsBk B pb w L W held its) : P1 w w its 0 :=
  ⟨rfl, rfl, rfl, Nat.le_refl _, fun _ _ _ => rfl, fun p hp => Mem.of_own (h.fine p hp).l, fun _ _ _ hj => absurd hj (Nat.not_lt_zero _)⟩
theorem P1.below {B pb i C : Nat} {w wr : World} {L W : Value} {held : Int} {its : List It} (h : IsBk B pb w L W held its) (q : P1 w wr its i) (h1 : C ≤ w.heap.size) (h2 : C ≤ B) : Below C w wr :=
  ⟨q.os, q.tape, q.output, q.size, fun k hk => q.block k (by omega) (fun p hp e => by have := ((h.fine p hp).l.lt k e).1; omega)⟩

set_option maxHeartbeats 4000000 in
set_option maxRecDepth 20000 in
theorem apart_any (B pb C : Nat) (L W : Value) (held : Int) (its : List It) (w : World) (h : IsBk B pb w L W held its) (hlen : its.length ≤ 2000) (hC : C ≤ w.heap.size) (hCp : C ≤ pb) (hCB : C ≤ B) :
    Calls Try.prog 15 #[.pointer (some ⟨pb, 0, none⟩), .func (.func 16) #[] #[]] w fun e w' => e = .returned (.bool true) ∧ Below C w w' := by
  have HS := hidIt (stays_any B pb L W held its w h hlen)
  go_enter Try.func15, Try.ntmps15
  go_wp2_with fail
  refine HS.out.mono ?_
  rintro e w1 ⟨rfl, K1, H1⟩
  have b1 : Below C w w1 := K1.below hC hCp hCB
  have z1 := K1.size
  clear HS h K1
  obtain ⟨aoL, capL, eL, hcL, hmL⟩ := H1.sl.form
  rw [List.length_map] at eL hcL
  subst eL
  have haw := H1.away
  go_wp2_with fail
  go_loopw [5] (fun i wr => ∃ k : Nat, k ≤ its.length ∧ i = .int .i64 (k : Int) ∧ P1 w1 wr its k) (fun i _ => its.length - (intOf i).toNat)
  case atStart => exact ⟨0, Nat.zero_le _, rfl, P1.start H1⟩
  case round =>
    obtain ⟨k, hk, rfl, HP⟩ := hrel
    have d0 := kc0 (P1.blk H1 HP)
    by_cases hlt : k < its.length
    · have hk' : (k : Int) < (its.length : Int) := by omega
      have hk0 : (0 : Int) ≤ (k : Int) := by omega
      have hpk : its[k]? = some its[k] := by simp [hlt]
      obtain ⟨gL, oL, rfl, cL⟩ := (P1.sl H1 HP).cell (j := k) (u := its[k].l) (by simp [hlt])
      have hpm : its[k] ∈ its := by simp
      generalize its[k] = p at *
      rcases id (HP.wide p hpm) with epl | ⟨g, n, cap, cur, epl, hmc, hg, hcs, -⟩
      · rw [epl] at cL
        have HPn : Hid (∀ q, P1 w1 (wr.drewN q) its (k + 1)) := fun q => (P1.next HP hpk (.inl epl)).drew q
        go_wp2_with fail
        go_quiet (fail)
        go_wp2_with fail
        go_loopw [7] (fun j wr' => j = .int .i64 0 ∧ P1 w1 wr' its (k + 1)) (fun _ _ => 0)
        case atStart => exact ⟨rfl, HPn.out _⟩
        case round =>
          obtain ⟨rfl, HP'⟩ := hrel
          go_wp2_with fail
          exact ⟨⟨k + 1, by omega, by go_num, HP'⟩, by simp [intOf]; omega⟩
      · rw [epl] at cL
        have HP0 := hidIt HP
        unfold maxLen at hmc
        go_wp2_with fail
        go_quiet (fail)
        go_wp2_with fail
        go_loopw [7] (fun j wr' => ∃ (t : Nat) (cur : Array Value), j = .int .i64 (t : Int) ∧ t ≤ cap ∧ wr'.heap[g]? = some (.cells cur 9 (0, 0)) ∧ cur.size = cap ∧ (∀ t', t' < t → cur[t']? = some (.string (mrk k))) ∧ P1 w1 wr' its k) (fun j _ => cap - (intOf j).toNat)
        case atStart => exact ⟨0, cur, rfl, Nat.zero_le _, hg, hcs, fun _ h => absurd h (Nat.not_lt_zero _), HP0.out.drew _⟩
        case round =>
          clear cL d0 HP HP0 hg hcs cur
          obtain ⟨t, cur, rfl, ht, hg, hcs, hmk, HP⟩ := hrel
          by_cases htl : t < cap
          · have ht' : (t : Int) < (cap : Int) := by omega
            have ct : ∃ u, wr.cell? ⟨g, t, none⟩ = some u := by
              rw [cell_of_row wr g t cur 9 (0, 0) hg]
              exact ⟨cur[t], by simp [htl, hcs]⟩
            obtain ⟨u, hu⟩ := ct
            have hf := frozen_row hg t
            have HM := hidIt (mark_any k t wr (by omega))
            have hgA : (wr.alloc (mob k)).heap[g]? = some (.cells cur 9 (0, 0)) := (heap_alloc_old wr _ (Array.getElem?_eq_some_iff.1 hg).1).trans hg
            have huA : (wr.alloc (mob k)).cell? ⟨g, t, none⟩ = some u := by rw [cell_of_row _ g t cur 9 (0, 0) hgA, ← cell_of_row wr g t cur 9 (0, 0) hg]; exact hu
            have hfA := frozen_row hgA t
            have HN : Hid (P1 w1 ((wr.alloc (mob k)).setCell ⟨g, t, none⟩ (.string (mrk k))) its k) := (HP.alloc (mob k)).set haw hpk epl hgA hcs (by unfold maxLen; omega) t _
            have HG : Hid (((wr.alloc (mob k)).setCell ⟨g, t, none⟩ (.string (mrk k))).heap[g]? = some (.cells (cur.setIfInBounds t (.string (mrk k))) 9 (0, 0))) := set_row hgA
            have HX : Hid (∀ t', t' < t + 1 → (cur.setIfInBounds t (.string (mrk k)))[t']? = some (.string (mrk k))) := by
              intro t' h'
              rw [Array.getElem?_setIfInBounds]
              by_cases e : t = t'
              · subst e
                rw [if_pos rfl, if_pos (by omega)]
              · rw [if_neg e]
                exact hmk t' (by omega)
            clear HP hg hgA hu hf
            go_wp2_with fail
            refine HM.out.mono ?_
            rintro e w' ⟨rfl, rfl⟩
            generalize wr.alloc (mob k) = wx at *
            generalize hMX : mrk k = X at *
            have HMX := hidIt hMX
            clear hMX
            go_wp2_with fail
            cases HMX.out
            exact ⟨⟨t + 1, _, by go_num, by omega, HG.out, by simpa using hcs, HX.out, HN.out⟩, by simp [intOf]; omega⟩
          · have ht' : ¬ (t : Int) < (cap : Int) := by omega
            have hte : t = cap := by omega
            have HPn : Hid (P1 w1 wr its (k + 1)) := P1.next HP hpk (.inr ⟨g, n, cap, cur, epl, by unfold maxLen; omega, hg, hcs, fun j hj => hmk j (by omega)⟩)
            go_wp2_with fail
            exact ⟨⟨k + 1, by omega, by go_num, HPn.out⟩, by simp [intOf]; omega⟩
    · have hk' : ¬ (k : Int) < (its.length : Int) := by omega
      have hke : k = its.length := by omega
      subst hke
      go_wp2_with fail
      go_loopw [8] (fun i wr => ∃ k : Nat, k ≤ its.length ∧ i = .int .i64 (k : Int) ∧ P1 w1 wr its its.length) (fun i _ => its.length - (intOf i).toNat)
      case atStart => exact ⟨0, Nat.zero_le _, rfl, HP⟩
      case round =>
        clear HP d0
        obtain ⟨k, hk, rfl, HP⟩ := hrel
        have x0 := P1.blk H1 HP
        have d0 := kc0 x0
        by_cases hlt : k < its.length
        · have hk' : (k : Int) < (its.length : Int) := by omega
          have hk0 : (0 : Int) ≤ (k : Int) := by omega
          have hpk : its[k]? = some its[k] := by simp [hlt]
          obtain ⟨gL, oL, rfl, cL⟩ := (P1.sl H1 HP).cell (j := k) (u := its[k].l) (by simp [hlt])
          generalize its[k] = p at *
          have HP0 := hidIt HP
          rcases id (HP.mark k p hpk hlt) with epl | ⟨g, n, cap, cur, epl, hmc, hg, hcs, hmk⟩
          · rw [epl] at cL
            go_wp2_with fail
            go_quiet (fail)
            go_wp2_with fail
            go_loopw [10] (fun j wr' => j = .int .i64 0 ∧ P1 w1 wr' its its.length) (fun _ _ => 0)
            case atStart => exact ⟨rfl, HP0.out.drew _⟩
            case round =>
              obtain ⟨rfl, HP'⟩ := hrel
              go_wp2_with fail
              exact ⟨⟨k + 1, by omega, by go_num, HP'⟩, by simp [intOf]; omega⟩
          · rw [epl] at cL
            unfold maxLen at hmc
            have HG := hidIt hg
            go_wp2_with fail
            go_quiet (fail)
            go_wp2_with fail
            go_loopw [10] (fun j wr' => ∃ t : Nat, j = .int .i64 (t : Int) ∧ t ≤ cap ∧ wr'.heap[g]? = some (.cells cur 9 (0, 0)) ∧ P1 w1 wr' its its.length) (fun j _ => cap - (intOf j).toNat)
            case atStart => exact ⟨0, rfl, Nat.zero_le _, HG.out, HP0.out.drew _⟩
            case round =>
              clear cL d0 HP HP0 hg HG x0
              obtain ⟨t, rfl, ht, hg, HP⟩ := hrel
              by_cases htl : t < cap
              · have ht' : (t : Int) < (cap : Int) := by omega
                have ct : wr.cell? ⟨g, t, none⟩ = some (.string (mrk k)) := by
                  rw [cell_of_row wr g t cur 9 (0, 0) hg]
                  exact hmk t htl
                have HM : Hid (∀ W, Calls Try.prog 16 #[.int .i64 (k : Int), .int .i64 (t : Int)] W fun e w' => e = .returned (.string (mrk k)) ∧ w' = W.alloc (mob k)) := fun W => mark_any k t W (by omega)
                have hgA : ∀ o, (wr.alloc o).heap[g]? = some (.cells cur 9 (0, 0)) := fun o => (heap_alloc_old wr _ (Array.getElem?_eq_some_iff.1 hg).1).trans hg
                have ctA : ∀ o, (wr.alloc o).cell? ⟨g, t, none⟩ = some (.string (mrk k)) := fun o => by
                  rw [cell_of_row _ g t cur 9 (0, 0) (hgA o)]
                  exact hmk t htl
                have HPd : Hid (P1 w1 ((wr.alloc (mob k)).drewN 1) its its.length) := (HP.alloc _).drew 1
                have HGd := hidIt (hgA (mob k))
                clear HP hg hgA
                generalize mob k = O at *
                generalize mrk k = X at *
                go_wp2_with fail
                go_region_with (go_at_call 16; refine (HM.out _).mono ?_; rintro e w' ⟨rfl, rfl⟩)
                all_goals
                  go_wp2_with fail
                  exact ⟨⟨t + 1, by go_num, by omega, HGd.out, HPd.out⟩, by simp [intOf]; omega⟩
              · have ht' : ¬ (t : Int) < (cap : Int) := by omega
                go_wp2_with fail
                exact ⟨⟨k + 1, by omega, by go_num, HP⟩, by simp [intOf]; omega⟩
        · have hk' : ¬ (k : Int) < (its.length : Int) := by omega
          have f0 := frozen_row x0 0
          have f1 := frozen_row x0 1
          have f2 := frozen_row x0 2
          have d1 := kc1 x0
          have d2 := kc2 x0
          go_wp2_with fail
          go_ret
          have bz : Below C w1 wr := P1.below H1 HP (by omega) hCB
          exact ⟨rfl, b1.trans (((bz.setCell (p := ⟨pb, 0, none⟩) hCp _).setCell (p := ⟨pb, 1, none⟩) hCp _).setCell (p := ⟨pb, 2, none⟩) hCp _)⟩
end Go.Proofs.Ytccbgdbipihoaaa.BK
namespace Go.Proofs.Ytccbgdbipihoaaa.Q
open Go.RowKit Go.Shelf Go.Lib Go.Proofs
variable {P : Program} {ρ : Ren}





end Go.Proofs.Ytccbgdbipihoaaa.Q
namespace Go.Proofs
open Go.Shelf
end Go.Proofs
namespace Go.Proofs.Ytccbgdbipihoaaa.Q
open Go.RowKit D
structure CD where
  kind : Int
  n : Int
  cls : ByteArray
  nm : ByteArray
  dsc : ByteArray
def CD.cells (c : CD) : List Value := [.int .i64 c.kind, .int .i32 c.n, .string c.cls, .string c.nm, .string c.dsc]
def CD.val (c : CD) : Value := .agg #[.int .i64 c.kind, .int .i32 c.n, .string c.cls, .string c.nm, .string c.dsc]
structure CD.Fits (c : CD) : Prop where
  c3 : c.cls.size ≤ 9223372036854775807
  c4 : c.nm.size ≤ 9223372036854775807
  c5 : c.dsc.size ≤ 9223372036854775807






end Go.Proofs.Ytccbgdbipihoaaa.Q
namespace Go.Proofs.Ytccbgdbipihoaaa.Q
open Go.RowKit
def Moved (H : Nat) (v v' : Value) : Prop := v'.ownBlock = v.ownBlock ∨ ∃ g, v'.ownBlock = some g ∧ H ≤ g

structure Step (v : Value) (w : World) (v' : Value) (w' : World) : Prop where
  grown : w.grownBy w' v.ownBlock
  moved : Moved w.heap.size v v'

theorem Step.refl (v : Value) (w : World) : Step v w v w := ⟨⟨rfl, rfl, rfl, Nat.le_refl _, fun _ _ _ => rfl⟩, .inl rfl⟩

theorem Step.trans {v v1 v2 : Value} {w w1 w2 : World} (h : Step v w v1 w1) (k : Step v1 w1 v2 w2) : Step v w v2 w2 := by
  refine ⟨⟨k.grown.os.trans h.grown.os, k.grown.tape.trans h.grown.tape, k.grown.output.trans h.grown.output, Nat.le_trans h.grown.size k.grown.size, ?_⟩, ?_⟩
  · intro i hi hne
    have h1 := h.grown.block i hi hne
    have hlt : i < w1.heap.size := Nat.lt_of_lt_of_le hi h.grown.size
    rw [k.grown.block i hlt ?_, h1]
    rcases h.moved with e | ⟨g, e, hg⟩
    · rw [e]; exact hne
    · rw [e]; intro e2; cases e2; omega
  · rcases k.moved with e | ⟨g, e, hg⟩
    · rcases h.moved with e1 | ⟨g1, e1, hg1⟩
      · exact .inl (e.trans e1)
      · exact .inr ⟨g1, e.trans e1, hg1⟩
    · exact .inr ⟨g, e, Nat.le_trans h.grown.size hg⟩




theorem Step.of_at {v v' : Value} {w w' : World} (hg : w.grownBy w' v.ownBlock) (ha : v'.ownBlock = v.ownBlock ∨ v'.ownBlock = some w.heap.size) : Step v w v' w' :=
  ⟨hg, ha.imp id fun e => ⟨_, e, Nat.le_refl _⟩⟩

theorem Step.below {v v' : Value} {w w' : World} (h : Step v w v' w') {B : Nat} (hB : B ≤ w.heap.size) (hv : ∀ k, v.ownBlock = some k → B ≤ k) : Below B w w' :=
  (Below.refl _ _).grown h.grown hB hv

theorem Try.info5 : (Try.prog.info? 5).map (fun i => (i.zero, i.size, i.bytes)) = some (some (.int .u8 0), 1, 1) := by kernel_rfl

theorem ret_int {k : IntKind} {a b : Int} (h : a = b) : Ending.returned (.int k a) = .returned (.int k b) := by rw [h]


def bcells (l : List Int) : List Value := l.map (Value.int .u8)
theorem hidIt {p : Prop} (h : p) : Hid p := h

end Go.Proofs.Ytccbgdbipihoaaa.Q
namespace Go.Proofs.Ytccbgdbipihoaaa.Q
open Go.RowKit



end Go.Proofs.Ytccbgdbipihoaaa.Q
namespace Go.Proofs.Ytccbgdbipihoaaa.Q
open Go.RowKit

end Go.Proofs.Ytccbgdbipihoaaa.Q
namespace Go.Proofs.Ytccbgdbipihoaaa.Q
open Go.RowKit
def Lies (w : World) (g off : Nat) (l : List Int) : Prop := ∀ j x, l[j]? = some x → w.cell? ⟨g, off + j, none⟩ = some (.int .u8 x)
def AllBytes (l : List Int) : Prop := ∀ x ∈ l, 0 ≤ x ∧ x ≤ 255
def View (w : World) (v : Value) (l : List Int) : Prop :=
  ∃ ao cap, v = .slice ao l.length cap ∧ l.length ≤ cap ∧ cap ≤ maxLen ∧ AllBytes l ∧ (l = [] ∨ ∃ g off, ao = some ⟨g, off, none⟩ ∧ Lies w g off l)





theorem View.drewN {w : World} {v : Value} {l : List Int} (h : View w v l) (q : Nat) : View (w.drewN q) v l := h


end Go.Proofs.Ytccbgdbipihoaaa.Q
namespace Go.Proofs.Ytccbgdbipihoaaa.Q
open Go.RowKit

def lenOf : Value → Nat
  | .slice _ n _ => n
  | _ => 0

theorem View.below {w wr : World} {v : Value} {l : List Int} (h : View w v l) (hb : Below w.heap.size w wr) : View wr v l := by
  obtain ⟨ao, cap, rfl, hc, hm, hy, hl⟩ := h
  refine ⟨ao, cap, rfl, hc, hm, hy, ?_⟩
  rcases hl with h | ⟨g, off, e, hl⟩
  · exact .inl h
  · exact .inr ⟨g, off, e, fun j x hj => cell_later hb (hl j x hj)⟩

theorem View.of_own {w : World} {B : Nat} {v : Value} {l : List Int} (h : w.ownsRow B 5 1 v l.length (bcells l)) (hb : AllBytes l) : View w v l := by
  rcases h.2 with ⟨rfl, h0⟩ | ⟨g, cap, cur, rfl, _, hg, h1, h2, h3, h4⟩
  · have : l = [] := List.length_eq_zero_iff.1 h0
    subst this
    exact ⟨none, 0, rfl, Nat.le_refl _, by unfold maxLen; omega, hb, .inl rfl⟩
  · refine ⟨some ⟨g, 0, none⟩, cap, rfl, h1, h2, hb, .inr ⟨g, 0, rfl, fun j x hj => ?_⟩⟩
    have hj' : (bcells l)[j]? = some (.int .u8 x) := by simp [bcells, hj]
    have := h.cells (g := g) rfl j _ hj'
    have e : (⟨g, 0, none⟩ : Addr).add j = ⟨g, 0 + j, none⟩ := by unfold Addr.add; split <;> simp_all
    rwa [e] at this

end Go.Proofs.Ytccbgdbipihoaaa.Q
namespace Go.Proofs.Ytccbgdbipihoaaa.Q
open Go.RowKit
theorem View.laid (w : World) (l : List Int) (hb : AllBytes l) (hm : l.length ≤ maxLen) : View (w.alloc (.cells (bcells l).toArray 5)) (.slice (some ⟨w.heap.size, 0, none⟩) l.length l.length) l := by
  refine ⟨_, _, rfl, Nat.le_refl _, hm, hb, .inr ⟨_, _, rfl, fun j x hj => ?_⟩⟩
  have h := cell_of_row (w.alloc (.cells (bcells l).toArray 5)) w.heap.size (0 + j) (bcells l).toArray 5 (0, 0) (heap_alloc_new w _)
  rw [h]
  simp [bcells, hj]


end Go.Proofs.Ytccbgdbipihoaaa.Q
namespace Go.Proofs.Ytccbgdbipihoaaa.Q
open Go.RowKit

theorem bcells_cell {w : World} {g off : Nat} {l : List Int} (h : Lies w g off l) (j : Nat) (u : Value) (hj : (bcells l)[j]? = some u) : w.cell? ((⟨g, off, none⟩ : Addr).add j) = some u := by
  have e : (⟨g, off, none⟩ : Addr).add j = ⟨g, off + j, none⟩ := by unfold Addr.add; split <;> simp_all
  rw [e]
  simp only [bcells, List.getElem?_map, Option.map_eq_some_iff] at hj
  obtain ⟨x, hx, rfl⟩ := hj
  exact h j x hx
theorem bcells_one (l : List Int) : ∀ u ∈ bcells l, u.oneCell' = true := by
  intro u hu
  simp only [bcells, List.mem_map] at hu
  obtain ⟨x, _, rfl⟩ := hu
  rfl


structure WStep (pw : Nat) (v : Value) (w : World) (v' : Value) (w' : World) : Prop where
  os : w'.os = w.os
  tape : w'.tape = w.tape
  output : w'.output = w.output
  size : w.heap.size ≤ w'.heap.size
  block : ∀ k, k < w.heap.size → k ≠ pw → some k ≠ v.ownBlock → w'.heap[k]? = w.heap[k]?
  moved : Moved w.heap.size v v'

theorem WStep.refl (pw : Nat) (v : Value) (w : World) : WStep pw v w v w := ⟨rfl, rfl, rfl, Nat.le_refl _, fun _ _ _ _ => rfl, .inl rfl⟩
theorem WStep.trans {pw : Nat} {v v1 v2 : Value} {w w1 w2 : World} (h : WStep pw v w v1 w1) (k : WStep pw v1 w1 v2 w2) : WStep pw v w v2 w2 := by
  refine ⟨k.os.trans h.os, k.tape.trans h.tape, k.output.trans h.output, Nat.le_trans h.size k.size, ?_, ?_⟩
  · intro i hi hp hne
    have h1 := h.block i hi hp hne
    rw [k.block i (Nat.lt_of_lt_of_le hi h.size) hp ?_, h1]
    rcases h.moved with e | ⟨g, e, hg⟩
    · rw [e]; exact hne
    · rw [e]; intro e2; cases e2; omega
  · rcases k.moved with e | ⟨g, e, hg⟩
    · rcases h.moved with e1 | ⟨g1, e1, hg1⟩
      · exact .inl (e.trans e1)
      · exact .inr ⟨g1, e.trans e1, hg1⟩
    · exact .inr ⟨g, e, Nat.le_trans h.size hg⟩
theorem WStep.of_below {pw : Nat} {v : Value} {w w' : World} (h : Below w.heap.size w w') : WStep pw v w v w' :=
  ⟨h.os, h.tape, h.output, h.size, fun k hk _ _ => h.block k hk, .inl rfl⟩

theorem frozen_row {w : World} {b : Nat} {cs : Array Value} {T : TypeId} (hb : w.heap[b]? = some (.cells cs T (0, 0))) (j : Nat) : w.frozen? ⟨b, j, none⟩ = false := by
  simp [World.frozen?, hb]

end Go.Proofs.Ytccbgdbipihoaaa.Q
namespace Go.Proofs.Ytccbgdbipihoaaa.Q
open Go.RowKit
attribute [local go_sem ↓] Go.wp_at_zero Go.wp_at_succ

def be (n : Int) : Nat → List Int
  | 0 => []
  | k + 1 => (n / 2 ^ (8 * k) % 256) :: be n k


end Go.Proofs.Ytccbgdbipihoaaa.Q
namespace Go.Proofs.Ytccbgdbipihoaaa.Q
open Go.RowKit
theorem run_append_view (w : World) (ty : TypeId) (B : Nat) (v vb : Value) (n : Nat) (xs : List Value) (lb : List Int) (hown : w.ownsRow B 5 1 v n xs) (hv : View w vb lb) (hlen : n + lb.length ≤ 140737488355328) (hB : B ≤ w.heap.size) :
    ∃ v' w', (Builtin.append_ #[28, 28] ty #[v, vb]).run Try.prog w = .ok v' w' ∧ w'.ownsRow B 5 1 v' (n + lb.length) (xs ++ bcells lb) ∧ Step v w v' w' := by
  obtain ⟨i0, hi, hz0, hz1, hz2⟩ := info_parts Try.info5
  obtain ⟨ao, cap, rfl, hc, hm, hy, hl⟩ := hv
  rcases hl with rfl | ⟨g, off, rfl, hl⟩
  · refine ⟨v, w, ?_, by simpa [bcells] using hown, Step.refl _ _⟩
    rcases hown.2 with ⟨rfl, rfl⟩ | ⟨g, cap, cur, rfl, hbg, hg, hnc, hcm, hcs, htake⟩
    · cases ao <;> simp [Builtin.append_, run_underlying Try.underlying28, sizeOf, typeInfo, hi, Builtin.lenOf, Builtin.firstCells, loadCells, loadCellsFrom]
    · cases ao <;> simp [Builtin.append_, run_underlying Try.underlying28, sizeOf, typeInfo, hi, Builtin.lenOf, Builtin.firstCells, loadCells, loadCellsFrom, hnc, storeCells]
  · obtain ⟨v', w', hr, ho, hg, _, hat⟩ := run_append_own_at (P := Try.prog) w B 28 ty 5 i0 (.int .u8 0) 1 1 Try.underlying28 hi hz0 hz1 hz2 rfl (by decide) v n xs hown ⟨g, off, none⟩ lb.length cap (bcells lb) (by simp [bcells]) (fun j u hj => bcells_cell hl j u hj) (bcells_one lb) (by unfold maxLen; omega) (by omega) hB
    exact ⟨v', w', hr, ho, Step.of_at hg hat⟩


theorem own_slice {w : World} {B n : Nat} {v : Value} {xs : List Value} (h : w.ownsRow B 5 1 v n xs) : ∃ ao cap, v = .slice ao n cap := by
  rcases h.2 with ⟨rfl, rfl⟩ | ⟨g, cap, cur, rfl, _⟩
  · exact ⟨_, _, rfl⟩
  · exact ⟨_, _, rfl⟩

theorem AllBytes.append {a b : List Int} (ha : AllBytes a) (hb : AllBytes b) : AllBytes (a ++ b) := fun x hx => by
  rcases List.mem_append.1 hx with h | h
  · exact ha x h
  · exact hb x h
theorem AllBytes.nil : AllBytes [] := fun x hx => by simp at hx

end Go.Proofs.Ytccbgdbipihoaaa.Q
namespace Go.Proofs.Ytccbgdbipihoaaa.Q
open Go.RowKit

structure CD.Ok (c : CD) : Prop extends c.Fits where
  nlo : -2147483648 ≤ c.n
  nhi : c.n ≤ 2147483647

structure CAt (w : World) (g o : Nat) (c : CD) : Prop where
  c0 : w.cell? ⟨g, o, none⟩ = some (.int .i64 c.kind)
  c1 : w.cell? ⟨g, o + 1, none⟩ = some (.int .i32 c.n)
  c2 : w.cell? ⟨g, o + 2, none⟩ = some (.string c.cls)
  c3 : w.cell? ⟨g, o + 3, none⟩ = some (.string c.nm)
  c4 : w.cell? ⟨g, o + 4, none⟩ = some (.string c.dsc)
theorem CAt.below {w wr : World} {g o : Nat} {c : CD} (h : CAt w g o c) (hb : Below w.heap.size w wr) : CAt wr g o c :=
  ⟨cell_later hb h.c0, cell_later hb h.c1, cell_later hb h.c2, cell_later hb h.c3, cell_later hb h.c4⟩
theorem CAt.block {w wr : World} {g o : Nat} {c : CD} (h : CAt w g o c) (hb : wr.heap[g]? = w.heap[g]?) : CAt wr g o c := by
  have k : ∀ o, wr.cell? ⟨g, o, none⟩ = w.cell? ⟨g, o, none⟩ := fun o => World.cell?_of_block (a := ⟨g, o, none⟩) hb
  exact ⟨(k _).trans h.c0, (k _).trans h.c1, (k _).trans h.c2, (k _).trans h.c3, (k _).trans h.c4⟩
def CLies (w : World) (g off : Nat) (l : List CD) : Prop := ∀ (i : Nat) c, l[i]? = some c → CAt w g (off + i * 5) c
def CView (w : World) (v : Value) (l : List CD) : Prop :=
  ∃ ao cap, v = .slice ao l.length cap ∧ l.length ≤ cap ∧ cap ≤ maxLen ∧ (∀ c ∈ l, c.Ok) ∧ (l = [] ∨ ∃ g off, ao = some ⟨g, off, none⟩ ∧ CLies w g off l)
theorem CView.below {w wr : World} {v : Value} {l : List CD} (h : CView w v l) (hb : Below w.heap.size w wr) : CView wr v l := by
  obtain ⟨ao, cap, rfl, hc, hm, hk, hl⟩ := h
  refine ⟨ao, cap, rfl, hc, hm, hk, ?_⟩
  rcases hl with h | ⟨g, off, e, hl⟩
  · exact .inl h
  · exact .inr ⟨g, off, e, fun i c hi => (hl i c hi).below hb⟩
theorem CView.drewN {w : World} {v : Value} {l : List CD} (h : CView w v l) (q : Nat) : CView (w.drewN q) v l := by
  obtain ⟨ao, cap, rfl, hc, hm, hk, hl⟩ := h
  refine ⟨ao, cap, rfl, hc, hm, hk, ?_⟩
  rcases hl with h | ⟨g, off, e, hl⟩
  · exact .inl h
  · exact .inr ⟨g, off, e, fun i c hi => (hl i c hi).block rfl⟩
theorem CView.ok {w : World} {v : Value} {l : List CD} (h : CView w v l) : ∀ c ∈ l, c.Ok := by obtain ⟨_, _, _, _, _, h, _⟩ := h; exact h
theorem CView.nil (w : World) : CView w (.slice none 0 0) [] := ⟨none, 0, rfl, Nat.le_refl _, by unfold maxLen; omega, by simp, .inl rfl⟩

def ccells (l : List CD) : List Value := l.flatMap CD.cells
theorem ccells_cons (c : CD) (l : List CD) : ccells (c :: l) = c.cells ++ ccells l := rfl
theorem ccells_len (l : List CD) : (ccells l).length = l.length * 5 := by
  induction l with
  | nil => rfl
  | cons c l ih => rw [ccells_cons, List.length_append, ih]; simp [CD.cells]; omega
theorem ccells_get : ∀ (l : List CD) (i : Nat) (c : CD), l[i]? = some c → ∀ j, j < 5 → (ccells l)[i * 5 + j]? = c.cells[j]? := by
  intro l
  induction l with
  | nil => intro i c h; simp at h
  | cons d l ih =>
    intro i c h j hj
    rw [ccells_cons]
    cases i with
    | zero =>
      simp at h; subst h
      rw [Nat.zero_mul, Nat.zero_add]
      exact List.getElem?_append_left (by simp [CD.cells]; omega)
    | succ i =>
      have hi : l[i]? = some c := by simpa using h
      rw [List.getElem?_append_right (by simp [CD.cells]; omega)]
      have e : (i + 1) * 5 + j - d.cells.length = i * 5 + j := by simp [CD.cells]; omega
      rw [e]
      exact ih i c hi j hj
theorem addr_add (g off j : Nat) : (⟨g, off, none⟩ : Addr).add j = ⟨g, off + j, none⟩ := by unfold Addr.add; split <;> simp_all
theorem CLies.cells {w : World} {g off : Nat} {l : List CD} (h : CLies w g off l) (j : Nat) (u : Value) (hj : (ccells l)[j]? = some u) : w.cell? ((⟨g, off, none⟩ : Addr).add j) = some u := by
  rw [addr_add]
  have hlt : j < l.length * 5 := by rw [← ccells_len]; exact (List.getElem?_eq_some_iff.1 hj).1
  have hi : j / 5 < l.length := by omega
  obtain ⟨c, hc⟩ : ∃ c, l[j / 5]? = some c := ⟨_, List.getElem?_eq_getElem hi⟩
  have e := ccells_get l (j / 5) c hc (j % 5) (by omega)
  rw [show j / 5 * 5 + j % 5 = j by omega, hj] at e
  have hA := h (j / 5) c hc
  have h5 : j % 5 < 5 := by omega
  have ej : off + j = off + j / 5 * 5 + j % 5 := by omega
  rw [ej]
  generalize j % 5 = r at *
  generalize off + j / 5 * 5 = o at *
  match r, h5, e with
  | 0, _, e => simp [CD.cells] at e; subst e; exact hA.c0
  | 1, _, e => simp [CD.cells] at e; subst e; exact hA.c1
  | 2, _, e => simp [CD.cells] at e; subst e; exact hA.c2
  | 3, _, e => simp [CD.cells] at e; subst e; exact hA.c3
  | 4, _, e => simp [CD.cells] at e; subst e; exact hA.c4
theorem CLies.of_cells {w : World} {g off : Nat} {l : List CD} (h : ∀ j u, (ccells l)[j]? = some u → w.cell? ((⟨g, off, none⟩ : Addr).add j) = some u) : CLies w g off l := by
  intro i c hi
  have k := fun j (hj : j < 5) u (hu : c.cells[j]? = some u) => by
    have := h (i * 5 + j) u ((ccells_get l i c hi j hj).trans hu)
    rw [addr_add, ← Nat.add_assoc] at this
    exact this
  exact ⟨k 0 (by omega) _ rfl, k 1 (by omega) _ rfl, k 2 (by omega) _ rfl, k 3 (by omega) _ rfl, k 4 (by omega) _ rfl⟩
theorem CView.of_own {w : World} {B : Nat} {v : Value} {l : List CD} (h : w.ownsRow B 110 5 v l.length (ccells l)) (hk : ∀ c ∈ l, c.Ok) : CView w v l := by
  rcases h.2 with ⟨rfl, h0⟩ | ⟨g, cap, cur, rfl, _, hg, h1, h2, h3, h4⟩
  · have : l = [] := List.length_eq_zero_iff.1 h0
    subst this
    exact CView.nil w
  · exact ⟨some ⟨g, 0, none⟩, cap, rfl, h1, h2, hk, .inr ⟨g, 0, rfl, CLies.of_cells (h.cells (g := g) rfl)⟩⟩










end Go.Proofs.Ytccbgdbipihoaaa.Q
namespace Go.Proofs.Ytccbgdbipihoaaa.Q
open Go.RowKit
theorem balloc (w : World) (o : Obj) : Below w.heap.size w (w.alloc o) := (Below.refl _ _).alloc (Nat.le_refl _) o
theorem next {w w1 w2 : World} (h : Below w.heap.size w w1) (k : Below w1.heap.size w1 w2) : Below w.heap.size w w2 := h.trans (k.mono h.size)
def RowsAt (k : Nat) (w : World) (ao : Option Addr) (n : Nat) (rows : Nat → List Value) : Prop :=
  0 < n → ∃ b off, ao = some ⟨b, off, none⟩ ∧ b < w.heap.size ∧ ∀ j, j < n → ∀ i v, (rows j)[i]? = some v → w.cell? ⟨b, off + j * k + i, none⟩ = some v
theorem RowsAt.below {k n : Nat} {w w' : World} {ao : Option Addr} {rows : Nat → List Value} (h : RowsAt k w ao n rows) (hb : Below w.heap.size w w') : RowsAt k w' ao n rows := by
  intro hn
  obtain ⟨b, off, e, hlt, hc⟩ := h hn
  exact ⟨b, off, e, Nat.lt_of_lt_of_le hlt hb.size, fun j hj i v hv => by rw [hb.cell (p := ⟨b, off + j * k + i, none⟩) hlt]; exact hc j hj i v hv⟩
theorem RowsAt.take {k n m : Nat} {w : World} {ao : Option Addr} {rows : Nat → List Value} (h : RowsAt k w ao n rows) (hm : m ≤ n) : RowsAt k w ao m rows := by
  intro hn
  obtain ⟨b, off, e, hlt, hc⟩ := h (by omega)
  exact ⟨b, off, e, hlt, fun j hj => hc j (by omega)⟩

def Asks (g : Nat) (v : Value) (b : Bool) (w : World) : Prop :=
  ∀ W : World, Below w.heap.size w W → Calls Try.prog g #[v] W fun e w' => e = .returned (.bool b) ∧ Below W.heap.size W w'
theorem Asks.below {g : Nat} {v : Value} {b : Bool} {w w' : World} (h : Asks g v b w) (hb : Below w.heap.size w w') : Asks g v b w' :=
  fun W hW => h W (next hb hW)




end Go.Proofs.Ytccbgdbipihoaaa.Q
