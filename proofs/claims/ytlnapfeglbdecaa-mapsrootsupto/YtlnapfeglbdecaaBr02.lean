/- Texts FD FF FG HNa FH FK FE. -/
import Derived.Test.YtlnapfeglbdecaaBr01
import Derived.Deep.RegionHeld3
import Derived.Test.YtlnapfeglbdecaaProg
import Derived.Laws.OwnMore
import Derived.Deep.OwnRows
namespace Go.Proofs.Ytlnapfeglbdecaa
open Go.RowKit

def nextL (l : List IN) (k : Nat) (x : IN) : List Int :=
  if !endsB x.op && decide (k + 1 < l.length) then
    (if tgtZ l x < 0 then [(k : Int) + 1] else if tgtZ l x < (k : Int) + 1 then [tgtZ l x, (k : Int) + 1] else if tgtZ l x = (k : Int) + 1 then [(k : Int) + 1] else [(k : Int) + 1, tgtZ l x])
  else (if tgtZ l x < 0 then [] else [tgtZ l x])
def nextZ (l : List IN) (n : Int) : List Int := if n < 0 then [] else match l[n.toNat]? with
  | some x => nextL l n.toNat x
  | none => []
theorem nextZ_at {l : List IN} {k : Nat} {x : IN} (h : l[k]? = some x) : nextZ l (k : Int) = nextL l k x := by
  unfold nextZ
  rw [if_neg (by omega)]
  simp only [Int.toNat_natCast]
  rw [h]
theorem nextZ_out {l : List IN} {n : Int} (h : n < 0 ∨ (l.length : Int) ≤ n) : nextZ l n = [] := by
  unfold nextZ
  by_cases h0 : n < 0
  · rw [if_pos h0]
  · rw [if_neg h0, List.getElem?_eq_none (by omega)]
theorem tgtZ_lt (l : List IN) (x : IN) : -1 ≤ tgtZ l x ∧ tgtZ l x < l.length := by
  unfold tgtZ
  split
  · exact findZ_lt l x.a
  · omega
def NOwn (w : World) (B : Nat) (v : Value) (l : List Int) : Prop := w.ownsRow B 3 1 v l.length (ncells l)
theorem Try.infoN : (Try.prog.info? 3).map (fun i => (i.zero, i.size, i.bytes)) = some (some (.int .i64 0), 1, 8) := by kernel_rfl
theorem ncells_one (l : List Int) : ∀ u ∈ ncells l, u.oneCell' = true := by
  intro u hu
  simp only [ncells, List.mem_map] at hu
  obtain ⟨x, _, rfl⟩ := hu
  rfl
theorem wpList_nappend {w : World} {ops : Array Oper} {rest : List Oper} {o : Oper} {a : Act} {Q : Exit → Act → World → Prop} (hgd : o.guard = none) (s x : Operand)
    (ho : o.op = .call { callee := .builtin .append, args := #[s, x], argTypes := #[25, 25] })
    (B : Nat) (v : Value) (l : List Int) (y : Int) (hown : NOwn w B v l) (hs : a.eval s = v) (hx : a.eval x = .slice (some ⟨w.heap.size, 0, none⟩) 1 1)
    (hlen : l.length ≤ 10000000000000) (hB : B ≤ w.heap.size)
    (h : ∀ ao' cap' w', NOwn w' B (.slice ao' (l.length + 1) cap') (l ++ [y]) → Step v (w.alloc (.cells #[.int .i64 y] 3)) (.slice ao' (l.length + 1) cap') w' → wpList Try.prog ops Q rest (a.put o.dst (.slice ao' (l.length + 1) cap')) w') :
    wpList Try.prog ops Q (o :: rest) a (w.alloc (.cells #[.int .i64 y] 3)) := by
  obtain ⟨i0, hi, hz0, hz1, hz2⟩ := info_parts Try.infoN
  refine wpList_plain hgd fun K hK => ?_
  have hown' : (w.alloc (.cells #[.int .i64 y] 3)).ownsRow B 3 1 v l.length (ncells l) := own_below hown (below_alloc w _)
  obtain ⟨v', w', hr, h2, h3, _, h4⟩ := run_append_own_at (P := Try.prog) (w.alloc (.cells #[.int .i64 y] 3)) B 25 o.type 3 i0 (.int .i64 0) 1 8 Try.underlying25 hi hz0 hz1 hz2 rfl (by decide) v l.length (ncells l) hown' ⟨w.heap.size, 0, none⟩ 1 1 [.int .i64 y] rfl
    (fun j u hj => by
      have e : (⟨w.heap.size, 0, none⟩ : Addr).add j = ⟨w.heap.size, j, none⟩ := by unfold Addr.add; split <;> simp_all
      rw [e]
      exact cell_row (heap_alloc_new w _) j (by simpa using hj)) (ncells_one [y]) (by unfold maxLen; omega) (by omega) (by simp; omega)
  unfold Oper.wp execOp
  simp only [ho, resolve, invoke, builtin, Sem.run_bind, Sem.run_pure, Result.andThen_ok, List.map_toArray, List.map_cons, List.map_nil, hs, hx, hr]
  obtain ⟨ao', cap', rfl⟩ := own_slice h2
  refine hK _ _ (h ao' cap' w' ?_ (Step.of_at h3 h4))
  show w'.ownsRow B 3 1 _ (l ++ [y]).length (ncells (l ++ [y]))
  rw [ncells_append, List.length_append]
  exact h2
theorem NOwn.nil (w : World) (B : Nat) : NOwn w B (.slice none 0 0) [] := World.ownsRow_nil _ _ _ _
theorem NOwn.block {w : World} {B : Nat} {v : Value} {l : List Int} (h : NOwn w B v l) (hl : l ≠ []) : ∃ g cap cs, v = .slice (some ⟨g, 0, none⟩) l.length cap ∧ B ≤ g ∧ w.heap[g]? = some (.cells cs 3 (0, 0)) ∧ l.length ≤ cap ∧ cap ≤ maxLen ∧ cap ≤ cs.size ∧ ∀ (j : Nat) (x : Int), l[j]? = some x → cs[j]? = some (.int .i64 x) := by
  rcases h.2 with ⟨_, h0⟩ | ⟨g, cap, cur, rfl, hB, hg, h1, h2, h3, h4⟩
  · exact absurd (List.length_eq_zero_iff.1 h0) hl
  · refine ⟨g, cap, cur, rfl, hB, hg, h1, h2, by omega, fun j x hj => ?_⟩
    have hlt := (List.getElem?_eq_some_iff.1 hj).1
    have e : (ncells l)[j]? = some (.int .i64 x) := by simp [ncells, hj]
    rw [← h4, List.getElem?_take, if_pos (by omega), Array.getElem?_toList] at e
    exact e
def sortL : List Int → List Int
  | [x, y] => if y < x then [y, x] else [x, y]
  | l => l
def compL : List Int → List Int
  | [x, y] => if x = y then [x] else [x, y]
  | l => l
theorem NOwn.of_block {w : World} {B g cap n : Nat} {cs : Array Value} {l : List Int} (hB : B ≤ g) (hg : w.heap[g]? = some (.cells cs 3 (0, 0))) (hn : l.length = n) (h1 : n ≤ cap) (h2 : cap ≤ maxLen) (h3 : cs.size = cap) (h4 : ∀ (j : Nat) (x : Int), l[j]? = some x → cs[j]? = some (.int .i64 x)) : NOwn w B (.slice (some ⟨g, 0, none⟩) n cap) l := by
  subst hn
  refine ⟨by rw [ncells_len]; omega, .inr ⟨g, cap, cs, rfl, hB, hg, h1, h2, by omega, ?_⟩⟩
  apply List.ext_getElem?
  intro j
  rw [List.getElem?_take, Array.getElem?_toList]
  by_cases hj : j < l.length * 1
  · rw [if_pos hj]
    have e : l[j]? = some l[j] := List.getElem?_eq_getElem (by omega)
    rw [h4 j _ e]
    simp [ncells, e]
  · rw [if_neg hj, List.getElem?_eq_none (by rw [ncells_len]; omega)]
theorem sortN (B : Nat) (v : Value) (l : List Int) (w : World) (h : NOwn w B v l) (hl : l.length ≤ 2) :
    Calls Try.prog 50 #[v] w fun e w' => e = .returned (.tuple #[]) ∧ (NOwn w' B v (sortL l) ∧ Below B w w') := by
  match l, hl, h with
  | [], _, h =>
    obtain ⟨ao, cap, rfl⟩ := own_slice h
    exact sort_any ao 0 cap (by omega) w _ ((isort_few ao 0 cap (by omega) w).mono fun e w' ⟨he, hw⟩ => ⟨he, by cases hw; exact ⟨h, Below.refl _ _⟩⟩)
  | [x], _, h =>
    obtain ⟨ao, cap, rfl⟩ := own_slice h
    exact sort_any ao 1 cap (by omega) w _ ((isort_few ao 1 cap (by omega) w).mono fun e w' ⟨he, hw⟩ => ⟨he, by cases hw; exact ⟨h, Below.refl _ _⟩⟩)
  | [x, y], _, h =>
    obtain ⟨g, cap, cs, rfl, hB, hg, h1, h2, h3, h4⟩ := h.block (by simp)
    have e3 : cs.size = cap := by
      rcases h.2 with ⟨e, _⟩ | ⟨g', cap', cur, e, _, hg', _, _, h5, _⟩
      · cases e
      · cases e
        rw [hg] at hg'
        cases hg'
        omega
    have hh := isort_two g cap x y cs w hg (h4 0 x rfl) (h4 1 y rfl)
    refine sort_any (some ⟨g, 0, none⟩) 2 cap (by omega) w _ (hh.mono fun e w' ⟨he, ho, hc⟩ => ⟨he, ?_, ho.below hB⟩)
    show NOwn w' B (.slice (some ⟨g, 0, none⟩) 2 cap) (sortL [x, y])
    have h1' : 2 ≤ cap := h1
    rw [show sortL [x, y] = if y < x then [y, x] else [x, y] from rfl]
    unfold sort2 at hc
    by_cases hyx : y < x
    · rw [if_pos hyx] at hc ⊢
      refine NOwn.of_block hB hc rfl h1' h2 (by simpa using e3) fun j z hj => ?_
      match j, hj with
      | 0, hj => simp at hj; subst hj; rw [Array.getElem?_setIfInBounds_self_of_lt (by simp; omega)]
      | 1, hj => simp at hj; subst hj; rw [Array.getElem?_setIfInBounds_ne (by decide), Array.getElem?_setIfInBounds_self_of_lt (by omega)]
      | j + 2, hj => simp at hj
    · rw [if_neg hyx] at hc ⊢
      exact NOwn.of_block hB hc rfl h1' h2 e3 h4
  | _ :: _ :: _ :: _, hl, _ => simp at hl
theorem compactN (B : Nat) (v : Value) (l : List Int) (w : World) (h : NOwn w B v l) (hl : l.length ≤ 2) :
    Calls Try.prog 51 #[v] w fun e w' => ∃ v', e = .returned v' ∧ NOwn w' B v' (compL l) ∧ Below B w w' := by
  match l, hl, h with
  | [], _, h =>
    obtain ⟨ao, cap, rfl⟩ := own_slice h
    exact (compact_few ao 0 cap (by omega) w).mono fun e w' ⟨he, hw⟩ => ⟨_, he, by cases hw; exact ⟨h, Below.refl _ _⟩⟩
  | [x], _, h =>
    obtain ⟨ao, cap, rfl⟩ := own_slice h
    exact (compact_few ao 1 cap (by omega) w).mono fun e w' ⟨he, hw⟩ => ⟨_, he, by cases hw; exact ⟨h, Below.refl _ _⟩⟩
  | [x, y], _, h =>
    obtain ⟨g, cap, cs, rfl, hB, hg, h1, h2, h3, h4⟩ := h.block (by simp)
    have e3 : cs.size = cap := by
      rcases h.2 with ⟨e, _⟩ | ⟨g', cap', cur, e, _, hg', _, _, h5, _⟩
      · cases e
      · cases e
        rw [hg] at hg'
        cases hg'
        omega
    have h1' : 2 ≤ cap := h1
    rw [show compL [x, y] = if x = y then [x] else [x, y] from rfl]
    by_cases hxy : x = y
    · subst hxy
      rw [if_pos rfl]
      refine (compact_same g cap x cs h1' h2 w hg (h4 0 x rfl) (h4 1 x rfl)).mono fun e w' ⟨he, ho, u, hc⟩ => ⟨_, he, ?_, ho.below hB⟩
      refine NOwn.of_block hB hc rfl (by omega) h2 (by simpa using e3) fun j z hj => ?_
      match j, hj with
      | 0, hj => simp at hj; subst hj; simpa using h4 0 x rfl
      | j + 1, hj => simp at hj
    · rw [if_neg hxy]
      refine (compact_two g cap x y hxy w (cell_row hg 0 (h4 0 x rfl)) (cell_row hg 1 (h4 1 y rfl))).mono fun e w' ⟨he, q, hw⟩ => ⟨_, he, ?_⟩
      subst hw
      exact ⟨h, below_drewN (Below.refl _ _) q⟩
  | _ :: _ :: _ :: _, hl, _ => simp at hl
theorem nextL_sorted (l : List IN) (k : Nat) (x : IN) : nextL l k x = compL (sortL ((if !endsB x.op && decide (k + 1 < l.length) then [(k : Int) + 1] else []) ++ (if tgtZ l x < 0 then [] else [tgtZ l x]))) := by
  unfold nextL
  by_cases h1 : (!endsB x.op && decide (k + 1 < l.length)) = true
  · rw [if_pos h1, if_pos h1]
    by_cases h2 : tgtZ l x < 0
    · simp only [if_pos h2]; rfl
    · simp only [if_neg h2]
      simp only [List.cons_append, List.nil_append]
      rw [show sortL [(k : Int) + 1, tgtZ l x] = if tgtZ l x < (k : Int) + 1 then [tgtZ l x, (k : Int) + 1] else [(k : Int) + 1, tgtZ l x] from rfl]
      by_cases h3 : tgtZ l x < (k : Int) + 1
      · rw [if_pos h3, if_pos h3, show compL [tgtZ l x, (k : Int) + 1] = if tgtZ l x = (k : Int) + 1 then [tgtZ l x] else [tgtZ l x, (k : Int) + 1] from rfl, if_neg (by omega)]
      · rw [if_neg h3, if_neg h3, show compL [(k : Int) + 1, tgtZ l x] = if (k : Int) + 1 = tgtZ l x then [(k : Int) + 1] else [(k : Int) + 1, tgtZ l x] from rfl]
        by_cases h4 : tgtZ l x = (k : Int) + 1
        · rw [if_pos h4, if_pos h4.symm]
        · rw [if_neg h4, if_neg (fun h => h4 h.symm)]
  · rw [if_neg h1, if_neg h1]
    by_cases h2 : tgtZ l x < 0
    · simp only [if_pos h2]; rfl
    · simp only [if_neg h2]; rfl
theorem NOwn.step {w w' : World} {B : Nat} {v : Value} {l : List Int} (h : NOwn w B v l) (hb : Below w.heap.size w w') : NOwn w' B v l := own_below h hb
theorem NOwn.drewN {w : World} {B : Nat} {v : Value} {l : List Int} (h : NOwn w B v l) (q : Nat) : NOwn (w.drewN q) B v l := h
theorem sortL_len (l : List Int) : (sortL l).length = l.length := by
  unfold sortL
  split
  · split <;> rfl
  · rfl
end Go.Proofs.Ytlnapfeglbdecaa
namespace Go.Proofs.Ytlnapfeglbdecaa
open Go.RowKit

def NView (w : World) (v : Value) (l : List Int) : Prop :=
  ∃ ao cap, v = .slice ao l.length cap ∧ l.length ≤ cap ∧ cap ≤ maxLen ∧ (l = [] ∨ ∃ g off, ao = some ⟨g, off, none⟩ ∧ ∀ (j : Nat) (x : Int), l[j]? = some x → w.cell? ⟨g, off + j, none⟩ = some (.int .i64 x))
theorem NView.below {w w' : World} {v : Value} {l : List Int} (h : NView w v l) (hb : Below w.heap.size w w') : NView w' v l := by
  obtain ⟨ao, cap, e, hc, hm, hl⟩ := h
  refine ⟨ao, cap, e, hc, hm, ?_⟩
  rcases hl with h | ⟨g, off, e, hl⟩
  · exact .inl h
  · exact .inr ⟨g, off, e, fun j x hj => cell_later hb (hl j x hj)⟩
theorem NView.row {w : World} {ao : Option Addr} {n cap : Nat} {l : List Int} (h : NView w (.slice ao n cap) l) {j : Nat} {x : Int} (hj : l[j]? = some x) : ∃ g off, ao = some ⟨g, off, none⟩ ∧ w.cell? ⟨g, off + j, none⟩ = some (.int .i64 x) := by
  obtain ⟨ao', cap', e, hc, hm, hl⟩ := h
  cases e
  rcases hl with rfl | ⟨g, off, rfl, hl⟩
  · simp at hj
  · exact ⟨g, off, rfl, hl j x hj⟩
theorem NOwn.view {w : World} {B : Nat} {v : Value} {l : List Int} (h : NOwn w B v l) : NView w v l := by
  by_cases hl : l = []
  · subst hl
    rcases h.2 with ⟨rfl, _⟩ | ⟨g, cap, cur, rfl, _, _, h1, h2, _⟩
    · exact ⟨none, 0, rfl, Nat.le_refl _, by unfold maxLen; omega, .inl rfl⟩
    · exact ⟨_, cap, rfl, h1, h2, .inl rfl⟩
  · obtain ⟨g, cap, cs, rfl, hB, hg, h1, h2, h3, h4⟩ := h.block hl
    exact ⟨_, cap, rfl, h1, h2, .inr ⟨g, 0, rfl, fun j x hj => cell_row hg _ (by rw [Nat.zero_add]; exact h4 j x hj)⟩⟩
theorem NOwn.wk {w : World} {B B' : Nat} {v : Value} {l : List Int} (h : NOwn w B v l) (hB : B' ≤ B) : NOwn w B' v l := own_wk h hB
end Go.Proofs.Ytlnapfeglbdecaa
namespace Go.Proofs.Ytlnapfeglbdecaa
open Go.RowKit

set_option maxRecDepth 8000 in
set_option maxHeartbeats 2000000 in
theorem nsame_any (v u : Value) (l : List Int) (w : World) (hv : NView w v l) (hu : NView w u l) :
    Calls Try.prog 6 #[v, u] w fun e w' => e = .returned (.bool true) ∧ ∃ q, w' = w.drewN q := by
  have HV := hidIt hv
  have HU := hidIt hu
  obtain ⟨ao, cap, rfl, hc, hm, _⟩ := hv
  obtain ⟨ao2, cap2, rfl, hc2, hm2, _⟩ := hu
  unfold maxLen at hm hm2
  go_enter Try.func6, Try.ntmps6
  go_wp2
  go_loopw [5] (fun i wr => ∃ k q : Nat, i = .int .i64 (k : Int) ∧ k ≤ l.length ∧ wr = w.drewN q) (fun i _ => l.length - (intOf i).toNat)
  case atStart => exact ⟨0, 0, rfl, Nat.zero_le _, rfl⟩
  case round =>
    obtain ⟨k, q, rfl, hk, rfl⟩ := hrel
    by_cases hlt : k < l.length
    · have hlt' : (k : Int) < (l.length : Int) := by omega
      obtain ⟨x, hx⟩ : ∃ x, l[k]? = some x := ⟨l[k], List.getElem?_eq_getElem hlt⟩
      obtain ⟨g, off, rfl, c0⟩ := HV.out.row hx
      obtain ⟨g', off', rfl, d0⟩ := HU.out.row hx
      clear hx
      go_wp2
      go_quiet (fail)
      go_wp2
      exact ⟨⟨k + 1, _, by go_num, by omega, rfl⟩, by simp [intOf]; omega⟩
    · have hlt' : ¬ (k : Int) < (l.length : Int) := by omega
      go_wp2
      go_ret
      exact ⟨rfl, _, rfl⟩
def BView (w : World) (v : Value) (l : List Bool) : Prop :=
  ∃ ao cap, v = .slice ao l.length cap ∧ l.length ≤ cap ∧ cap ≤ maxLen ∧ (l = [] ∨ ∃ g off, ao = some ⟨g, off, none⟩ ∧ ∀ (j : Nat) (x : Bool), l[j]? = some x → w.cell? ⟨g, off + j, none⟩ = some (.bool x))
theorem BView.below {w w' : World} {v : Value} {l : List Bool} (h : BView w v l) (hb : Below w.heap.size w w') : BView w' v l := by
  obtain ⟨ao, cap, e, hc, hm, hl⟩ := h
  refine ⟨ao, cap, e, hc, hm, ?_⟩
  rcases hl with h | ⟨g, off, e, hl⟩
  · exact .inl h
  · exact .inr ⟨g, off, e, fun j x hj => cell_later hb (hl j x hj)⟩
theorem BView.row {w : World} {ao : Option Addr} {n cap : Nat} {l : List Bool} (h : BView w (.slice ao n cap) l) {j : Nat} {x : Bool} (hj : l[j]? = some x) : ∃ g off, ao = some ⟨g, off, none⟩ ∧ w.cell? ⟨g, off + j, none⟩ = some (.bool x) := by
  obtain ⟨ao', cap', e, hc, hm, hl⟩ := h
  cases e
  rcases hl with rfl | ⟨g, off, rfl, hl⟩
  · simp at hj
  · exact ⟨g, off, rfl, hl j x hj⟩
set_option maxRecDepth 8000 in
set_option maxHeartbeats 2000000 in
theorem bsame_any (v u : Value) (l : List Bool) (w : World) (hv : BView w v l) (hu : BView w u l) :
    Calls Try.prog 26 #[v, u] w fun e w' => e = .returned (.bool true) ∧ ∃ q, w' = w.drewN q := by
  have HV := hidIt hv
  have HU := hidIt hu
  obtain ⟨ao, cap, rfl, hc, hm, _⟩ := hv
  obtain ⟨ao2, cap2, rfl, hc2, hm2, _⟩ := hu
  unfold maxLen at hm hm2
  go_enter Try.func26, Try.ntmps26
  go_wp2
  go_loopw [5] (fun i wr => ∃ k q : Nat, i = .int .i64 (k : Int) ∧ k ≤ l.length ∧ wr = w.drewN q) (fun i _ => l.length - (intOf i).toNat)
  case atStart => exact ⟨0, 0, rfl, Nat.zero_le _, rfl⟩
  case round =>
    obtain ⟨k, q, rfl, hk, rfl⟩ := hrel
    by_cases hlt : k < l.length
    · have hlt' : (k : Int) < (l.length : Int) := by omega
      obtain ⟨x, hx⟩ : ∃ x, l[k]? = some x := ⟨l[k], List.getElem?_eq_getElem hlt⟩
      obtain ⟨g, off, rfl, c0⟩ := HV.out.row hx
      obtain ⟨g', off', rfl, d0⟩ := HU.out.row hx
      clear hx
      go_wp2
      go_quiet (fail)
      go_wp2
      exact ⟨⟨k + 1, _, by go_num, by omega, rfl⟩, by simp [intOf]; omega⟩
    · have hlt' : ¬ (k : Int) < (l.length : Int) := by omega
      go_wp2
      go_ret
      exact ⟨rfl, _, rfl⟩
end Go.Proofs.Ytlnapfeglbdecaa
namespace Go.Proofs.Ytlnapfeglbdecaa

structure HN where
  f : Int
  t : Int
  a : Int
  ty : ByteArray
def HN.val (x : HN) : Value := .agg #[.int .i64 x.f, .int .i64 x.t, .int .i64 x.a, .string x.ty]
def hrow (x : HN) : List Value := [.int .i64 x.f, .int .i64 x.t, .int .i64 x.a, .string x.ty]
end Go.Proofs.Ytlnapfeglbdecaa
namespace Go.Proofs.Ytlnapfeglbdecaa
open Go.RowKit

def HAt (w : World) (g o : Nat) (x : HN) : Prop :=
  w.cell? ⟨g, o, none⟩ = some (.int .i64 x.f) ∧ w.cell? ⟨g, o + 1, none⟩ = some (.int .i64 x.t) ∧ w.cell? ⟨g, o + 2, none⟩ = some (.int .i64 x.a) ∧ w.cell? ⟨g, o + 3, none⟩ = some (.string x.ty)
theorem HAt.below {w w' : World} {g o : Nat} {x : HN} (h : HAt w g o x) (hb : Below w.heap.size w w') : HAt w' g o x :=
  ⟨cell_later hb h.1, cell_later hb h.2.1, cell_later hb h.2.2.1, cell_later hb h.2.2.2⟩
def HView (w : World) (v : Value) (l : List HN) : Prop :=
  ∃ ao cap, v = .slice ao l.length cap ∧ l.length ≤ cap ∧ cap ≤ maxLen ∧ (l = [] ∨ ∃ g off, ao = some ⟨g, off, none⟩ ∧ ∀ (j : Nat) (x : HN), l[j]? = some x → HAt w g (off + j * 4) x)
theorem HView.below {w wr : World} {v : Value} {l : List HN} (h : HView w v l) (hb : Below w.heap.size w wr) : HView wr v l := by
  obtain ⟨ao, cap, rfl, hc, hm, hl⟩ := h
  refine ⟨ao, cap, rfl, hc, hm, ?_⟩
  rcases hl with h | ⟨g, off, e, hl⟩
  · exact .inl h
  · exact .inr ⟨g, off, e, fun j x hj => (hl j x hj).below hb⟩
theorem HView.row {w : World} {ao : Option Addr} {n cap : Nat} {l : List HN} (h : HView w (.slice ao n cap) l) {j : Nat} {x : HN} (hj : l[j]? = some x) : ∃ g off, ao = some ⟨g, off, none⟩ ∧ HAt w g (off + j * 4) x := by
  obtain ⟨ao', cap', e, hc, hm, hl⟩ := h
  cases e
  rcases hl with rfl | ⟨g, off, rfl, hl⟩
  · simp at hj
  · exact ⟨g, off, rfl, hl j x hj⟩
theorem HView.nil (w : World) : HView w (.slice none 0 0) [] := ⟨none, 0, rfl, Nat.le_refl _, by unfold maxLen; omega, .inl rfl⟩
theorem hbox_at (w : World) (x : HN) : HAt (w.alloc (.cells #[.int .i64 x.f, .int .i64 x.t, .int .i64 x.a, .string x.ty] 55)) w.heap.size 0 x := by
  have h := heap_alloc_new w (.cells #[.int .i64 x.f, .int .i64 x.t, .int .i64 x.a, .string x.ty] 55)
  exact ⟨cell_row h 0 rfl, cell_row h 1 rfl, cell_row h 2 rfl, cell_row h 3 rfl⟩
structure FN where
  p : Int
  a1 : Option Addr
  n1 : Nat
  c1 : Nat
  a2 : Option Addr
  n2 : Nat
  c2 : Nat
def FN.val (x : FN) : Value := .agg #[.int .i64 x.p, .slice x.a1 x.n1 x.c1, .slice x.a2 x.n2 x.c2]
def frow (x : FN) : List Value := [.int .i64 x.p, .slice x.a1 x.n1 x.c1, .slice x.a2 x.n2 x.c2]
def FAt (w : World) (g o : Nat) (x : FN) : Prop :=
  w.cell? ⟨g, o, none⟩ = some (.int .i64 x.p) ∧ w.cell? ⟨g, o + 1, none⟩ = some (.slice x.a1 x.n1 x.c1) ∧ w.cell? ⟨g, o + 2, none⟩ = some (.slice x.a2 x.n2 x.c2)
theorem FAt.below {w w' : World} {g o : Nat} {x : FN} (h : FAt w g o x) (hb : Below w.heap.size w w') : FAt w' g o x :=
  ⟨cell_later hb h.1, cell_later hb h.2.1, cell_later hb h.2.2⟩
def FView (w : World) (v : Value) (l : List FN) : Prop :=
  ∃ ao cap, v = .slice ao l.length cap ∧ l.length ≤ cap ∧ cap ≤ maxLen ∧ (l = [] ∨ ∃ g off, ao = some ⟨g, off, none⟩ ∧ ∀ (j : Nat) (x : FN), l[j]? = some x → FAt w g (off + j * 3) x)
theorem FView.below {w wr : World} {v : Value} {l : List FN} (h : FView w v l) (hb : Below w.heap.size w wr) : FView wr v l := by
  obtain ⟨ao, cap, rfl, hc, hm, hl⟩ := h
  refine ⟨ao, cap, rfl, hc, hm, ?_⟩
  rcases hl with h | ⟨g, off, e, hl⟩
  · exact .inl h
  · exact .inr ⟨g, off, e, fun j x hj => (hl j x hj).below hb⟩
theorem FView.row {w : World} {ao : Option Addr} {n cap : Nat} {l : List FN} (h : FView w (.slice ao n cap) l) {j : Nat} {x : FN} (hj : l[j]? = some x) : ∃ g off, ao = some ⟨g, off, none⟩ ∧ FAt w g (off + j * 3) x := by
  obtain ⟨ao', cap', e, hc, hm, hl⟩ := h
  cases e
  rcases hl with rfl | ⟨g, off, rfl, hl⟩
  · simp at hj
  · exact ⟨g, off, rfl, hl j x hj⟩
theorem FView.nil (w : World) : FView w (.slice none 0 0) [] := ⟨none, 0, rfl, Nat.le_refl _, by unfold maxLen; omega, .inl rfl⟩
end Go.Proofs.Ytlnapfeglbdecaa
namespace Go.Proofs.Ytlnapfeglbdecaa
open Go.RowKit

def bcellsB (d : List Bool) : Array Value := (d.map Value.bool).toArray
structure LdP (bl bb gl : Nat) (v : Value) (l : List IN) (d : List Bool) (w : World) : Prop where
  box : w.heap[bl]? = some (.cells #[v] 44 (0, 0))
  bit : w.heap[bb]? = some (.cells #[.slice (some ⟨gl, 0, none⟩) l.length l.length] 22 (0, 0))
  row : w.heap[gl]? = some (.cells (bcellsB d) 4 (0, 0))
  len : d.length = l.length
theorem LdP.below {bl bb gl : Nat} {v : Value} {l : List IN} {d : List Bool} {w w' : World} (h : LdP bl bb gl v l d w) (hb : Below w.heap.size w w') : LdP bl bb gl v l d w' :=
  ⟨(hb.block _ (Array.getElem?_eq_some_iff.1 h.box).1).trans h.box, (hb.block _ (Array.getElem?_eq_some_iff.1 h.bit).1).trans h.bit, (hb.block _ (Array.getElem?_eq_some_iff.1 h.row).1).trans h.row, h.len⟩
theorem LdP.drewN {bl bb gl : Nat} {v : Value} {l : List IN} {d : List Bool} {w : World} (h : LdP bl bb gl v l d w) (q : Nat) : LdP bl bb gl v l d (w.drewN q) := ⟨h.box, h.bit, h.row, h.len⟩
theorem made_bools (n : Nat) : madeCells #[Value.bool false] n = bcellsB (List.replicate n false) := by
  apply Array.toList_inj.1
  rw [toList_madeCells_one]
  simp [bcellsB]
theorem Try.infoB : (Try.prog.info? 4).map (fun i => (i.zero, i.size, i.bytes)) = some (some (.bool false), 1, 1) := by kernel_rfl
end Go.Proofs.Ytlnapfeglbdecaa
namespace Go.Proofs.Ytlnapfeglbdecaa
open Go.RowKit

set_option maxRecDepth 8000 in
set_option maxHeartbeats 4000000 in
theorem next_any (v : Value) (l : List IN) (n : Int) (w : World) (hv : IView w v l) :
    Calls Try.prog 33 #[v, .int .i64 n] w fun e w' => ∃ v', e = .returned v' ∧ NOwn w' w.heap.size v' (nextZ l n) ∧ Below w.heap.size w w' := by
  have HV := hidIt hv
  obtain ⟨ao, cap, rfl, hc, hm, _⟩ := hv
  unfold maxLen at hm
  by_cases h0 : n < 0
  · rw [nextZ_out (.inl h0)]
    go_enter Try.func33, Try.ntmps33
    go_wp2
    go_ret
    exact ⟨_, rfl, NOwn.nil _ _, Below.refl _ _⟩
  by_cases h1 : (l.length : Int) ≤ n
  · rw [nextZ_out (.inr h1)]
    go_enter Try.func33, Try.ntmps33
    go_wp2
    go_ret
    exact ⟨_, rfl, NOwn.nil _ _, Below.refl _ _⟩
  obtain ⟨k, rfl⟩ := Int.eq_ofNat_of_zero_le (Int.not_lt.1 h0)
  have hk : k < l.length := by omega
  have hk' : (k : Int) < (l.length : Int) := by omega
  obtain ⟨x, hx⟩ : ∃ x, l[k]? = some x := ⟨l[k], List.getElem?_eq_getElem hk⟩
  rw [nextZ_at hx, nextL_sorted]
  obtain ⟨g, off, rfl, c0, c1, c2, c3⟩ := HV.out.row hx
  have GE := hidIt (fun W => ends_any x.op W)
  have GT := hidIt (fun W (h : Below w.heap.size w W) => target_any _ l x W (HV.out.below h))
  have GS := hidIt (fun B v l w => sortN B v l w)
  have GC := hidIt (fun B v l w => compactN B v l w)
  have ht := tgtZ_lt l x
  unfold IN.val at GT
  clear hx HV
  generalize tgtZ l x = t at *
  obtain ⟨ht0, ht1⟩ := ht
  have C0 := hidIt c0
  have C1 := hidIt c1
  have C2 := hidIt c2
  have C3 := hidIt c3
  have HB := hidIt (Below.refl w.heap.size w)
  have HO := hidIt (NOwn.nil w w.heap.size)
  have hz : w.heap.size ≤ w.heap.size := Nat.le_refl _
  have hlast := Nat.lt_or_ge (k + 1) l.length
  rcases hlast with hlast | hlast
  · have hlast' : (k : Int) + 1 < (l.length : Int) := by omega
    rw [decide_eq_true (show k + 1 < l.length by omega)]
    rcases Int.lt_or_le t 0 with htn | htn
    · have htn' : ¬ 0 ≤ t := by omega
      rw [if_pos (show t < 0 by omega)]
      cases he : endsB x.op with
      | true =>
        rw [he] at GE
        rw [if_neg (by decide)]
        go_enter Try.func33, Try.ntmps33
        go_upto_region 4 with (fail)
        generalize hv0 : Value.slice none 0 0 = v0 at *
        clear hv0
        obtain ⟨ao0, cap0, rfl⟩ := own_slice HO.out
        go_wp2_with (first | (go_at_call 48; refine (GE.out _).mono ?_; rintro e w' ⟨rfl, hww⟩; cases hww) | (go_at_call 49; refine (GT.out _ HB.out).mono ?_; clear c0 c1 c2 c3; clear hz; rintro e w1 ⟨rfl, hb1⟩; have HB2 := hidIt (HB.out.trans (hb1.mono HB.out.size)); have HO2 := hidIt (HO.out.step hb1); clear HB HO hb1; have HB := HB2; have HO := HO2; clear HB2 HO2; have c0 := cell_later HB.out C0.out; have c1 := cell_later HB.out C1.out; have c2 := cell_later HB.out C2.out; have c3 := cell_later HB.out C3.out; have hz := HB.out.size) | (at_builtin; refine wpList_nappend rfl _ _ rfl w.heap.size _ _ _ HO.out rfl rfl (by simp) HB.out.size ?_; clear c0 c1 c2 c3; intro ao2 cap2 w2 ho2 st2; have HB2 := hidIt ((HB.out.trans ((below_alloc _ _).mono HB.out.size)).trans (st2.below (Nat.le_trans HB.out.size (below_alloc _ _).size) (fun k hk => (HO.out.lt k hk).1))); have HO2 := hidIt ho2; clear HB HO ho2 st2 hz; have HB := HB2; have HO := HO2; clear HB2 HO2; have c0 := cell_later HB.out C0.out; have c1 := cell_later HB.out C1.out; have c2 := cell_later HB.out C2.out; have c3 := cell_later HB.out C3.out; have hz := HB.out.size) | (go_at_call 50; refine (GS.out w.heap.size _ _ _ HO.out (by simp)).mono ?_; clear c0 c1 c2 c3; clear hz; rintro e w3 ⟨rfl, ho3, hb3⟩; have HB2 := hidIt (HB.out.trans hb3); have HO2 := hidIt ho3; clear HB HO ho3 hb3; have HB := HB2; have HO := HO2; clear HB2 HO2; have c0 := cell_later HB.out C0.out; have c1 := cell_later HB.out C1.out; have c2 := cell_later HB.out C2.out; have c3 := cell_later HB.out C3.out; have hz := HB.out.size) | (go_at_call 51; refine (GC.out w.heap.size _ _ _ HO.out (by rw [sortL_len]; simp)).mono ?_; clear c0 c1 c2 c3; clear hz; rintro e w4 ⟨v4, rfl, ho4, hb4⟩; have HB2 := hidIt (HB.out.trans hb4); have HO2 := hidIt ho4; clear HB HO ho4 hb4; have HB := HB2; have HO := HO2; clear HB2 HO2; have c0 := cell_later HB.out C0.out; have c1 := cell_later HB.out C1.out; have c2 := cell_later HB.out C2.out; have c3 := cell_later HB.out C3.out; have hz := HB.out.size))
        go_ret
        exact ⟨_, rfl, HO.out, HB.out⟩
      | false =>
        rw [he] at GE
        rw [if_pos (by decide)]
        go_enter Try.func33, Try.ntmps33
        go_upto_region 4 with (fail)
        generalize hv0 : Value.slice none 0 0 = v0 at *
        clear hv0
        obtain ⟨ao0, cap0, rfl⟩ := own_slice HO.out
        go_wp2_with (first | (go_at_call 48; refine (GE.out _).mono ?_; rintro e w' ⟨rfl, hww⟩; cases hww) | (go_at_call 49; refine (GT.out _ HB.out).mono ?_; clear c0 c1 c2 c3; clear hz; rintro e w1 ⟨rfl, hb1⟩; have HB2 := hidIt (HB.out.trans (hb1.mono HB.out.size)); have HO2 := hidIt (HO.out.step hb1); clear HB HO hb1; have HB := HB2; have HO := HO2; clear HB2 HO2; have c0 := cell_later HB.out C0.out; have c1 := cell_later HB.out C1.out; have c2 := cell_later HB.out C2.out; have c3 := cell_later HB.out C3.out; have hz := HB.out.size) | (at_builtin; refine wpList_nappend rfl _ _ rfl w.heap.size _ _ _ HO.out rfl rfl (by simp) HB.out.size ?_; clear c0 c1 c2 c3; intro ao2 cap2 w2 ho2 st2; have HB2 := hidIt ((HB.out.trans ((below_alloc _ _).mono HB.out.size)).trans (st2.below (Nat.le_trans HB.out.size (below_alloc _ _).size) (fun k hk => (HO.out.lt k hk).1))); have HO2 := hidIt ho2; clear HB HO ho2 st2 hz; have HB := HB2; have HO := HO2; clear HB2 HO2; have c0 := cell_later HB.out C0.out; have c1 := cell_later HB.out C1.out; have c2 := cell_later HB.out C2.out; have c3 := cell_later HB.out C3.out; have hz := HB.out.size) | (go_at_call 50; refine (GS.out w.heap.size _ _ _ HO.out (by simp)).mono ?_; clear c0 c1 c2 c3; clear hz; rintro e w3 ⟨rfl, ho3, hb3⟩; have HB2 := hidIt (HB.out.trans hb3); have HO2 := hidIt ho3; clear HB HO ho3 hb3; have HB := HB2; have HO := HO2; clear HB2 HO2; have c0 := cell_later HB.out C0.out; have c1 := cell_later HB.out C1.out; have c2 := cell_later HB.out C2.out; have c3 := cell_later HB.out C3.out; have hz := HB.out.size) | (go_at_call 51; refine (GC.out w.heap.size _ _ _ HO.out (by rw [sortL_len]; simp)).mono ?_; clear c0 c1 c2 c3; clear hz; rintro e w4 ⟨v4, rfl, ho4, hb4⟩; have HB2 := hidIt (HB.out.trans hb4); have HO2 := hidIt ho4; clear HB HO ho4 hb4; have HB := HB2; have HO := HO2; clear HB2 HO2; have c0 := cell_later HB.out C0.out; have c1 := cell_later HB.out C1.out; have c2 := cell_later HB.out C2.out; have c3 := cell_later HB.out C3.out; have hz := HB.out.size))
        go_ret
        exact ⟨_, rfl, HO.out, HB.out⟩
    · have htn' : 0 ≤ t := by omega
      rw [if_neg (show ¬ t < 0 by omega)]
      cases he : endsB x.op with
      | true =>
        rw [he] at GE
        rw [if_neg (by decide)]
        go_enter Try.func33, Try.ntmps33
        go_upto_region 4 with (fail)
        generalize hv0 : Value.slice none 0 0 = v0 at *
        clear hv0
        obtain ⟨ao0, cap0, rfl⟩ := own_slice HO.out
        go_wp2_with (first | (go_at_call 48; refine (GE.out _).mono ?_; rintro e w' ⟨rfl, hww⟩; cases hww) | (go_at_call 49; refine (GT.out _ HB.out).mono ?_; clear c0 c1 c2 c3; clear hz; rintro e w1 ⟨rfl, hb1⟩; have HB2 := hidIt (HB.out.trans (hb1.mono HB.out.size)); have HO2 := hidIt (HO.out.step hb1); clear HB HO hb1; have HB := HB2; have HO := HO2; clear HB2 HO2; have c0 := cell_later HB.out C0.out; have c1 := cell_later HB.out C1.out; have c2 := cell_later HB.out C2.out; have c3 := cell_later HB.out C3.out; have hz := HB.out.size) | (at_builtin; refine wpList_nappend rfl _ _ rfl w.heap.size _ _ _ HO.out rfl rfl (by simp) HB.out.size ?_; clear c0 c1 c2 c3; intro ao2 cap2 w2 ho2 st2; have HB2 := hidIt ((HB.out.trans ((below_alloc _ _).mono HB.out.size)).trans (st2.below (Nat.le_trans HB.out.size (below_alloc _ _).size) (fun k hk => (HO.out.lt k hk).1))); have HO2 := hidIt ho2; clear HB HO ho2 st2 hz; have HB := HB2; have HO := HO2; clear HB2 HO2; have c0 := cell_later HB.out C0.out; have c1 := cell_later HB.out C1.out; have c2 := cell_later HB.out C2.out; have c3 := cell_later HB.out C3.out; have hz := HB.out.size) | (go_at_call 50; refine (GS.out w.heap.size _ _ _ HO.out (by simp)).mono ?_; clear c0 c1 c2 c3; clear hz; rintro e w3 ⟨rfl, ho3, hb3⟩; have HB2 := hidIt (HB.out.trans hb3); have HO2 := hidIt ho3; clear HB HO ho3 hb3; have HB := HB2; have HO := HO2; clear HB2 HO2; have c0 := cell_later HB.out C0.out; have c1 := cell_later HB.out C1.out; have c2 := cell_later HB.out C2.out; have c3 := cell_later HB.out C3.out; have hz := HB.out.size) | (go_at_call 51; refine (GC.out w.heap.size _ _ _ HO.out (by rw [sortL_len]; simp)).mono ?_; clear c0 c1 c2 c3; clear hz; rintro e w4 ⟨v4, rfl, ho4, hb4⟩; have HB2 := hidIt (HB.out.trans hb4); have HO2 := hidIt ho4; clear HB HO ho4 hb4; have HB := HB2; have HO := HO2; clear HB2 HO2; have c0 := cell_later HB.out C0.out; have c1 := cell_later HB.out C1.out; have c2 := cell_later HB.out C2.out; have c3 := cell_later HB.out C3.out; have hz := HB.out.size))
        go_ret
        exact ⟨_, rfl, HO.out, HB.out⟩
      | false =>
        rw [he] at GE
        rw [if_pos (by decide)]
        go_enter Try.func33, Try.ntmps33
        go_upto_region 4 with (fail)
        generalize hv0 : Value.slice none 0 0 = v0 at *
        clear hv0
        obtain ⟨ao0, cap0, rfl⟩ := own_slice HO.out
        go_wp2_with (first | (go_at_call 48; refine (GE.out _).mono ?_; rintro e w' ⟨rfl, hww⟩; cases hww) | (go_at_call 49; refine (GT.out _ HB.out).mono ?_; clear c0 c1 c2 c3; clear hz; rintro e w1 ⟨rfl, hb1⟩; have HB2 := hidIt (HB.out.trans (hb1.mono HB.out.size)); have HO2 := hidIt (HO.out.step hb1); clear HB HO hb1; have HB := HB2; have HO := HO2; clear HB2 HO2; have c0 := cell_later HB.out C0.out; have c1 := cell_later HB.out C1.out; have c2 := cell_later HB.out C2.out; have c3 := cell_later HB.out C3.out; have hz := HB.out.size) | (at_builtin; refine wpList_nappend rfl _ _ rfl w.heap.size _ _ _ HO.out rfl rfl (by simp) HB.out.size ?_; clear c0 c1 c2 c3; intro ao2 cap2 w2 ho2 st2; have HB2 := hidIt ((HB.out.trans ((below_alloc _ _).mono HB.out.size)).trans (st2.below (Nat.le_trans HB.out.size (below_alloc _ _).size) (fun k hk => (HO.out.lt k hk).1))); have HO2 := hidIt ho2; clear HB HO ho2 st2 hz; have HB := HB2; have HO := HO2; clear HB2 HO2; have c0 := cell_later HB.out C0.out; have c1 := cell_later HB.out C1.out; have c2 := cell_later HB.out C2.out; have c3 := cell_later HB.out C3.out; have hz := HB.out.size) | (go_at_call 50; refine (GS.out w.heap.size _ _ _ HO.out (by simp)).mono ?_; clear c0 c1 c2 c3; clear hz; rintro e w3 ⟨rfl, ho3, hb3⟩; have HB2 := hidIt (HB.out.trans hb3); have HO2 := hidIt ho3; clear HB HO ho3 hb3; have HB := HB2; have HO := HO2; clear HB2 HO2; have c0 := cell_later HB.out C0.out; have c1 := cell_later HB.out C1.out; have c2 := cell_later HB.out C2.out; have c3 := cell_later HB.out C3.out; have hz := HB.out.size) | (go_at_call 51; refine (GC.out w.heap.size _ _ _ HO.out (by rw [sortL_len]; simp)).mono ?_; clear c0 c1 c2 c3; clear hz; rintro e w4 ⟨v4, rfl, ho4, hb4⟩; have HB2 := hidIt (HB.out.trans hb4); have HO2 := hidIt ho4; clear HB HO ho4 hb4; have HB := HB2; have HO := HO2; clear HB2 HO2; have c0 := cell_later HB.out C0.out; have c1 := cell_later HB.out C1.out; have c2 := cell_later HB.out C2.out; have c3 := cell_later HB.out C3.out; have hz := HB.out.size))
        go_ret
        exact ⟨_, rfl, HO.out, HB.out⟩
  · have hlast' : ¬ (k : Int) + 1 < (l.length : Int) := by omega
    rw [decide_eq_false (show ¬ k + 1 < l.length by omega)]
    rcases Int.lt_or_le t 0 with htn | htn
    · have htn' : ¬ 0 ≤ t := by omega
      rw [if_pos (show t < 0 by omega)]
      cases he : endsB x.op with
      | true =>
        rw [he] at GE
        rw [if_neg (by decide)]
        go_enter Try.func33, Try.ntmps33
        go_upto_region 4 with (fail)
        generalize hv0 : Value.slice none 0 0 = v0 at *
        clear hv0
        obtain ⟨ao0, cap0, rfl⟩ := own_slice HO.out
        go_wp2_with (first | (go_at_call 48; refine (GE.out _).mono ?_; rintro e w' ⟨rfl, hww⟩; cases hww) | (go_at_call 49; refine (GT.out _ HB.out).mono ?_; clear c0 c1 c2 c3; clear hz; rintro e w1 ⟨rfl, hb1⟩; have HB2 := hidIt (HB.out.trans (hb1.mono HB.out.size)); have HO2 := hidIt (HO.out.step hb1); clear HB HO hb1; have HB := HB2; have HO := HO2; clear HB2 HO2; have c0 := cell_later HB.out C0.out; have c1 := cell_later HB.out C1.out; have c2 := cell_later HB.out C2.out; have c3 := cell_later HB.out C3.out; have hz := HB.out.size) | (at_builtin; refine wpList_nappend rfl _ _ rfl w.heap.size _ _ _ HO.out rfl rfl (by simp) HB.out.size ?_; clear c0 c1 c2 c3; intro ao2 cap2 w2 ho2 st2; have HB2 := hidIt ((HB.out.trans ((below_alloc _ _).mono HB.out.size)).trans (st2.below (Nat.le_trans HB.out.size (below_alloc _ _).size) (fun k hk => (HO.out.lt k hk).1))); have HO2 := hidIt ho2; clear HB HO ho2 st2 hz; have HB := HB2; have HO := HO2; clear HB2 HO2; have c0 := cell_later HB.out C0.out; have c1 := cell_later HB.out C1.out; have c2 := cell_later HB.out C2.out; have c3 := cell_later HB.out C3.out; have hz := HB.out.size) | (go_at_call 50; refine (GS.out w.heap.size _ _ _ HO.out (by simp)).mono ?_; clear c0 c1 c2 c3; clear hz; rintro e w3 ⟨rfl, ho3, hb3⟩; have HB2 := hidIt (HB.out.trans hb3); have HO2 := hidIt ho3; clear HB HO ho3 hb3; have HB := HB2; have HO := HO2; clear HB2 HO2; have c0 := cell_later HB.out C0.out; have c1 := cell_later HB.out C1.out; have c2 := cell_later HB.out C2.out; have c3 := cell_later HB.out C3.out; have hz := HB.out.size) | (go_at_call 51; refine (GC.out w.heap.size _ _ _ HO.out (by rw [sortL_len]; simp)).mono ?_; clear c0 c1 c2 c3; clear hz; rintro e w4 ⟨v4, rfl, ho4, hb4⟩; have HB2 := hidIt (HB.out.trans hb4); have HO2 := hidIt ho4; clear HB HO ho4 hb4; have HB := HB2; have HO := HO2; clear HB2 HO2; have c0 := cell_later HB.out C0.out; have c1 := cell_later HB.out C1.out; have c2 := cell_later HB.out C2.out; have c3 := cell_later HB.out C3.out; have hz := HB.out.size))
        go_ret
        exact ⟨_, rfl, HO.out, HB.out⟩
      | false =>
        rw [he] at GE
        rw [if_neg (by decide)]
        go_enter Try.func33, Try.ntmps33
        go_upto_region 4 with (fail)
        generalize hv0 : Value.slice none 0 0 = v0 at *
        clear hv0
        obtain ⟨ao0, cap0, rfl⟩ := own_slice HO.out
        go_wp2_with (first | (go_at_call 48; refine (GE.out _).mono ?_; rintro e w' ⟨rfl, hww⟩; cases hww) | (go_at_call 49; refine (GT.out _ HB.out).mono ?_; clear c0 c1 c2 c3; clear hz; rintro e w1 ⟨rfl, hb1⟩; have HB2 := hidIt (HB.out.trans (hb1.mono HB.out.size)); have HO2 := hidIt (HO.out.step hb1); clear HB HO hb1; have HB := HB2; have HO := HO2; clear HB2 HO2; have c0 := cell_later HB.out C0.out; have c1 := cell_later HB.out C1.out; have c2 := cell_later HB.out C2.out; have c3 := cell_later HB.out C3.out; have hz := HB.out.size) | (at_builtin; refine wpList_nappend rfl _ _ rfl w.heap.size _ _ _ HO.out rfl rfl (by simp) HB.out.size ?_; clear c0 c1 c2 c3; intro ao2 cap2 w2 ho2 st2; have HB2 := hidIt ((HB.out.trans ((below_alloc _ _).mono HB.out.size)).trans (st2.below (Nat.le_trans HB.out.size (below_alloc _ _).size) (fun k hk => (HO.out.lt k hk).1))); have HO2 := hidIt ho2; clear HB HO ho2 st2 hz; have HB := HB2; have HO := HO2; clear HB2 HO2; have c0 := cell_later HB.out C0.out; have c1 := cell_later HB.out C1.out; have c2 := cell_later HB.out C2.out; have c3 := cell_later HB.out C3.out; have hz := HB.out.size) | (go_at_call 50; refine (GS.out w.heap.size _ _ _ HO.out (by simp)).mono ?_; clear c0 c1 c2 c3; clear hz; rintro e w3 ⟨rfl, ho3, hb3⟩; have HB2 := hidIt (HB.out.trans hb3); have HO2 := hidIt ho3; clear HB HO ho3 hb3; have HB := HB2; have HO := HO2; clear HB2 HO2; have c0 := cell_later HB.out C0.out; have c1 := cell_later HB.out C1.out; have c2 := cell_later HB.out C2.out; have c3 := cell_later HB.out C3.out; have hz := HB.out.size) | (go_at_call 51; refine (GC.out w.heap.size _ _ _ HO.out (by rw [sortL_len]; simp)).mono ?_; clear c0 c1 c2 c3; clear hz; rintro e w4 ⟨v4, rfl, ho4, hb4⟩; have HB2 := hidIt (HB.out.trans hb4); have HO2 := hidIt ho4; clear HB HO ho4 hb4; have HB := HB2; have HO := HO2; clear HB2 HO2; have c0 := cell_later HB.out C0.out; have c1 := cell_later HB.out C1.out; have c2 := cell_later HB.out C2.out; have c3 := cell_later HB.out C3.out; have hz := HB.out.size))
        go_ret
        exact ⟨_, rfl, HO.out, HB.out⟩
    · have htn' : 0 ≤ t := by omega
      rw [if_neg (show ¬ t < 0 by omega)]
      cases he : endsB x.op with
      | true =>
        rw [he] at GE
        rw [if_neg (by decide)]
        go_enter Try.func33, Try.ntmps33
        go_upto_region 4 with (fail)
        generalize hv0 : Value.slice none 0 0 = v0 at *
        clear hv0
        obtain ⟨ao0, cap0, rfl⟩ := own_slice HO.out
        go_wp2_with (first | (go_at_call 48; refine (GE.out _).mono ?_; rintro e w' ⟨rfl, hww⟩; cases hww) | (go_at_call 49; refine (GT.out _ HB.out).mono ?_; clear c0 c1 c2 c3; clear hz; rintro e w1 ⟨rfl, hb1⟩; have HB2 := hidIt (HB.out.trans (hb1.mono HB.out.size)); have HO2 := hidIt (HO.out.step hb1); clear HB HO hb1; have HB := HB2; have HO := HO2; clear HB2 HO2; have c0 := cell_later HB.out C0.out; have c1 := cell_later HB.out C1.out; have c2 := cell_later HB.out C2.out; have c3 := cell_later HB.out C3.out; have hz := HB.out.size) | (at_builtin; refine wpList_nappend rfl _ _ rfl w.heap.size _ _ _ HO.out rfl rfl (by simp) HB.out.size ?_; clear c0 c1 c2 c3; intro ao2 cap2 w2 ho2 st2; have HB2 := hidIt ((HB.out.trans ((below_alloc _ _).mono HB.out.size)).trans (st2.below (Nat.le_trans HB.out.size (below_alloc _ _).size) (fun k hk => (HO.out.lt k hk).1))); have HO2 := hidIt ho2; clear HB HO ho2 st2 hz; have HB := HB2; have HO := HO2; clear HB2 HO2; have c0 := cell_later HB.out C0.out; have c1 := cell_later HB.out C1.out; have c2 := cell_later HB.out C2.out; have c3 := cell_later HB.out C3.out; have hz := HB.out.size) | (go_at_call 50; refine (GS.out w.heap.size _ _ _ HO.out (by simp)).mono ?_; clear c0 c1 c2 c3; clear hz; rintro e w3 ⟨rfl, ho3, hb3⟩; have HB2 := hidIt (HB.out.trans hb3); have HO2 := hidIt ho3; clear HB HO ho3 hb3; have HB := HB2; have HO := HO2; clear HB2 HO2; have c0 := cell_later HB.out C0.out; have c1 := cell_later HB.out C1.out; have c2 := cell_later HB.out C2.out; have c3 := cell_later HB.out C3.out; have hz := HB.out.size) | (go_at_call 51; refine (GC.out w.heap.size _ _ _ HO.out (by rw [sortL_len]; simp)).mono ?_; clear c0 c1 c2 c3; clear hz; rintro e w4 ⟨v4, rfl, ho4, hb4⟩; have HB2 := hidIt (HB.out.trans hb4); have HO2 := hidIt ho4; clear HB HO ho4 hb4; have HB := HB2; have HO := HO2; clear HB2 HO2; have c0 := cell_later HB.out C0.out; have c1 := cell_later HB.out C1.out; have c2 := cell_later HB.out C2.out; have c3 := cell_later HB.out C3.out; have hz := HB.out.size))
        go_ret
        exact ⟨_, rfl, HO.out, HB.out⟩
      | false =>
        rw [he] at GE
        rw [if_neg (by decide)]
        go_enter Try.func33, Try.ntmps33
        go_upto_region 4 with (fail)
        generalize hv0 : Value.slice none 0 0 = v0 at *
        clear hv0
        obtain ⟨ao0, cap0, rfl⟩ := own_slice HO.out
        go_wp2_with (first | (go_at_call 48; refine (GE.out _).mono ?_; rintro e w' ⟨rfl, hww⟩; cases hww) | (go_at_call 49; refine (GT.out _ HB.out).mono ?_; clear c0 c1 c2 c3; clear hz; rintro e w1 ⟨rfl, hb1⟩; have HB2 := hidIt (HB.out.trans (hb1.mono HB.out.size)); have HO2 := hidIt (HO.out.step hb1); clear HB HO hb1; have HB := HB2; have HO := HO2; clear HB2 HO2; have c0 := cell_later HB.out C0.out; have c1 := cell_later HB.out C1.out; have c2 := cell_later HB.out C2.out; have c3 := cell_later HB.out C3.out; have hz := HB.out.size) | (at_builtin; refine wpList_nappend rfl _ _ rfl w.heap.size _ _ _ HO.out rfl rfl (by simp) HB.out.size ?_; clear c0 c1 c2 c3; intro ao2 cap2 w2 ho2 st2; have HB2 := hidIt ((HB.out.trans ((below_alloc _ _).mono HB.out.size)).trans (st2.below (Nat.le_trans HB.out.size (below_alloc _ _).size) (fun k hk => (HO.out.lt k hk).1))); have HO2 := hidIt ho2; clear HB HO ho2 st2 hz; have HB := HB2; have HO := HO2; clear HB2 HO2; have c0 := cell_later HB.out C0.out; have c1 := cell_later HB.out C1.out; have c2 := cell_later HB.out C2.out; have c3 := cell_later HB.out C3.out; have hz := HB.out.size) | (go_at_call 50; refine (GS.out w.heap.size _ _ _ HO.out (by simp)).mono ?_; clear c0 c1 c2 c3; clear hz; rintro e w3 ⟨rfl, ho3, hb3⟩; have HB2 := hidIt (HB.out.trans hb3); have HO2 := hidIt ho3; clear HB HO ho3 hb3; have HB := HB2; have HO := HO2; clear HB2 HO2; have c0 := cell_later HB.out C0.out; have c1 := cell_later HB.out C1.out; have c2 := cell_later HB.out C2.out; have c3 := cell_later HB.out C3.out; have hz := HB.out.size) | (go_at_call 51; refine (GC.out w.heap.size _ _ _ HO.out (by rw [sortL_len]; simp)).mono ?_; clear c0 c1 c2 c3; clear hz; rintro e w4 ⟨v4, rfl, ho4, hb4⟩; have HB2 := hidIt (HB.out.trans hb4); have HO2 := hidIt ho4; clear HB HO ho4 hb4; have HB := HB2; have HO := HO2; clear HB2 HO2; have c0 := cell_later HB.out C0.out; have c1 := cell_later HB.out C1.out; have c2 := cell_later HB.out C2.out; have c3 := cell_later HB.out C3.out; have hz := HB.out.size))
        go_ret
        exact ⟨_, rfl, HO.out, HB.out⟩
end Go.Proofs.Ytlnapfeglbdecaa
