/- Texts FM FI LVr FN LVa FL FO LVb. -/
import Derived.Test.YtlnapfeglbdecaaBr02
import Derived.Deep.CutRange
namespace Go.Proofs.Ytlnapfeglbdecaa
open Go.RowKit

structure RcP (B bl bb gl bs : Nat) (v : Value) (l : List IN) (r : List Bool) (vs : Value) (st : List Int) (w : World) : Prop where
  box : w.heap[bl]? = some (.cells #[v] 44 (0, 0))
  bit : w.heap[bb]? = some (.cells #[.slice (some ⟨gl, 0, none⟩) l.length l.length] 22 (0, 0))
  row : w.heap[gl]? = some (.cells (bcellsB r) 4 (0, 0))
  stk : w.heap[bs]? = some (.cells #[vs] 25 (0, 0))
  own : NOwn w B vs st
  len : r.length = l.length
  hgl : B ≤ gl
  hbs : B ≤ bs
structure Rk (gl bs : Nat) (vs : Value) (w : World) (vs' : Value) (w' : World) : Prop where
  os : w'.os = w.os
  tape : w'.tape = w.tape
  output : w'.output = w.output
  size : w.heap.size ≤ w'.heap.size
  block : ∀ k, k < w.heap.size → k ≠ gl → k ≠ bs → some k ≠ vs.ownBlock → w'.heap[k]? = w.heap[k]?
  moved : Moved w.heap.size vs vs'
theorem Rk.refl (gl bs : Nat) (vs : Value) (w : World) : Rk gl bs vs w vs w := ⟨rfl, rfl, rfl, Nat.le_refl _, fun _ _ _ _ _ => rfl, .inl rfl⟩
theorem Rk.trans {gl bs : Nat} {v1 v2 v3 : Value} {w1 w2 w3 : World} (h : Rk gl bs v1 w1 v2 w2) (k : Rk gl bs v2 w2 v3 w3) : Rk gl bs v1 w1 v3 w3 := by
  refine ⟨k.os.trans h.os, k.tape.trans h.tape, k.output.trans h.output, Nat.le_trans h.size k.size, fun i hi h1 h2 h3 => ?_, ?_⟩
  · rw [k.block i (Nat.lt_of_lt_of_le hi h.size) h1 h2 ?_, h.block i hi h1 h2 h3]
    rcases h.moved with e | ⟨g, e, hg⟩
    · rw [e]; exact h3
    · rw [e]; intro e2; cases e2; omega
  · rcases k.moved with e | ⟨g, e, hg⟩
    · rcases h.moved with e1 | ⟨g1, e1, hg1⟩
      · exact .inl (e.trans e1)
      · exact .inr ⟨g1, e.trans e1, hg1⟩
    · exact .inr ⟨g, e, Nat.le_trans h.size hg⟩
theorem Rk.below {gl bs B : Nat} {v1 v2 : Value} {w1 w2 : World} (h : Rk gl bs v1 w1 v2 w2) (hB : B ≤ w1.heap.size) (h1 : B ≤ gl) (h2 : B ≤ bs) (h3 : ∀ k, v1.ownBlock = some k → B ≤ k) : Below B w1 w2 :=
  ⟨h.os, h.tape, h.output, h.size, fun k hk => h.block k (by omega) (by omega) (by omega) (fun e => by have := h3 k e.symm; omega)⟩
theorem RcP.below {B bl bb gl bs : Nat} {v : Value} {l : List IN} {r : List Bool} {vs : Value} {st : List Int} {w w' : World} (h : RcP B bl bb gl bs v l r vs st w) (hb : Below w.heap.size w w') : RcP B bl bb gl bs v l r vs st w' :=
  ⟨(hb.block _ (Array.getElem?_eq_some_iff.1 h.box).1).trans h.box, (hb.block _ (Array.getElem?_eq_some_iff.1 h.bit).1).trans h.bit, (hb.block _ (Array.getElem?_eq_some_iff.1 h.row).1).trans h.row, (hb.block _ (Array.getElem?_eq_some_iff.1 h.stk).1).trans h.stk, h.own.step hb, h.len, h.hgl, h.hbs⟩
theorem RcP.drewN {B bl bb gl bs : Nat} {v : Value} {l : List IN} {r : List Bool} {vs : Value} {st : List Int} {w : World} (h : RcP B bl bb gl bs v l r vs st w) (q : Nat) : RcP B bl bb gl bs v l r vs st (w.drewN q) := ⟨h.box, h.bit, h.row, h.stk, h.own, h.len, h.hgl, h.hbs⟩
def rchZ (p : List Bool × List Int) (n : Int) : List Bool × List Int := if 0 ≤ n ∧ p.1[n.toNat]? = some false then (p.1.set n.toNat true, p.2 ++ [n]) else p
theorem own_set {w : World} {B g o T U s n : Nat} {cs : Array Value} {u v : Value} {xs : List Value} (h : w.ownsRow B T s v n xs) (hg : w.heap[g]? = some (.cells cs U (0, 0))) (hT : T ≠ U) : (w.setCell ⟨g, o, none⟩ u).ownsRow B T s v n xs := by
  refine ⟨h.1, ?_⟩
  rcases h.2 with x | ⟨g', cap, cur, rfl, hB, hg', r⟩
  · exact .inl x
  · refine .inr ⟨g', cap, cur, rfl, hB, ?_, r⟩
    rw [Below.heap_setCell _ _ _ _ (other_block hg' hg hT)]
    exact hg'
theorem own_ne {w : World} {B g T U s n : Nat} {cs : Array Value} {v : Value} {xs : List Value} (h : w.ownsRow B T s v n xs) (hg : w.heap[g]? = some (.cells cs U (0, 0))) (hT : T ≠ U) : some g ≠ v.ownBlock := by
  intro e
  rcases h.2 with ⟨rfl, _⟩ | ⟨g', cap, cur, rfl, hB, hg', r⟩
  · cases e
  · cases e
    exact other_block hg' hg hT rfl
theorem step_keeps {w w' : World} {o : Obj} {B : Nat} {v v' : Value} {l : List Int} (st : Step v (w.alloc o) v' w') (h : NOwn w B v l) (k : Nat) (cs : Array Value) (U : TypeId) (hU : 3 ≠ U) (hk : w.heap[k]? = some (.cells cs U (0, 0))) : w'.heap[k]? = some (.cells cs U (0, 0)) := by
  have hlt := (Array.getElem?_eq_some_iff.1 hk).1
  rw [st.grown.block k (Nat.lt_of_lt_of_le hlt (below_alloc w o).size) (own_ne h hk hU), (below_alloc w o).block k hlt]
  exact hk
end Go.Proofs.Ytlnapfeglbdecaa
namespace Go.Proofs.Ytlnapfeglbdecaa
open Go.RowKit

theorem drop_at {α : Type} {l : List α} {k : Nat} {x : α} (h : l[k]? = some x) : l.drop k = x :: l.drop (k + 1) := by
  obtain ⟨hk, e⟩ := List.getElem?_eq_some_iff.1 h
  subst e
  exact List.drop_eq_getElem_cons hk
end Go.Proofs.Ytlnapfeglbdecaa
namespace Go.Proofs.Ytlnapfeglbdecaa
open Go.RowKit

def rtL (live : List Bool) : List Bool → Nat → List Int
  | [], _ => []
  | b :: r, j => (if (b && (live[j]?).getD false) = true then [(j : Int)] else []) ++ rtL live r (j + 1)
def rtS : List Bool → Int → List Int
  | [], _ => []
  | b :: r, j => (if b = true then [j] else []) ++ rtS r (j + 1)
def rootsZ (loc live stk : List Bool) : List Int := rtL live loc 0 ++ rtS stk (loc.length : Int)
set_option maxRecDepth 8000 in
set_option maxHeartbeats 4000000 in
theorem roots_any (at_ : Int) (vl vs vv : Value) (loc stk live : List Bool) (w : World) (hl : BView w vl loc) (hs : BView w vs stk) (hv : BView w vv live) (hn : loc.length + stk.length ≤ 10000000000) :
    Calls Try.prog 5 #[.agg #[.int .i64 at_, vl, vs, vv]] w fun e w' => ∃ v', e = .returned v' ∧ NOwn w' w.heap.size v' (rootsZ loc live stk) ∧ Below w.heap.size w w' := by
  have HL := hidIt hl
  have HS := hidIt hs
  have HV := hidIt hv
  obtain ⟨a1, p1, rfl, q1, t1, -⟩ := hl
  obtain ⟨a2, p2, rfl, q2, t2, -⟩ := hs
  obtain ⟨a3, p3, rfl, q3, t3, -⟩ := hv
  unfold maxLen at t1 t2 t3
  have HA := hidIt (below_alloc w (.cells #[.int .i64 at_, .slice a1 loc.length p1, .slice a2 stk.length p2, .slice a3 live.length p3] 24))
  have HX := hidIt (heap_alloc_new w (.cells #[.int .i64 at_, .slice a1 loc.length p1, .slice a2 stk.length p2, .slice a3 live.length p3] 24))
  have HZ : Hid (rootsZ loc live stk = rtL live loc 0 ++ rtS stk (loc.length : Int)) := rfl
  generalize rootsZ loc live stk = Z at *
  go_enter Try.func5, Try.ntmps5
  go_upto_region 2 with (fail)
  generalize w.alloc (.cells #[.int .i64 at_, .slice a1 loc.length p1, .slice a2 stk.length p2, .slice a3 live.length p3] 24) = w1 at *
  have x1 := cell_row HX.out 1 rfl
  go_wp2_with fail
  clear x1
  go_loopw [3, 4, 5, 11] (fun o _ _ i wr => ∃ (k : Nat) (acc : List Int), k ≤ loc.length ∧ acc.length ≤ k ∧ i = .int .i64 (k : Int) ∧ NOwn wr w.heap.size o acc ∧ acc ++ rtL live (loc.drop k) k = rtL live loc 0 ∧ Below w.heap.size w wr ∧ wr.heap[w.heap.size]? = some (.cells #[.int .i64 at_, .slice a1 loc.length p1, .slice a2 stk.length p2, .slice a3 live.length p3] 24 (0, 0))) (fun _ _ _ i _ => loc.length - (intOf i).toNat)
  case atStart => exact ⟨0, [], Nat.zero_le _, Nat.le_refl _, rfl, NOwn.nil _ _, rfl, HA.out, HX.out⟩
  case round =>
    clear HA HX
    obtain ⟨k, acc, hk, ha, rfl, ho, he, hb, hx⟩ := hrel
    have HO := hidIt ho
    have HE := hidIt he
    have HB := hidIt hb
    have HX := hidIt hx
    obtain ⟨ao, cap, rfl⟩ := own_slice ho
    clear ho he hb hx
    have hz : w.heap.size ≤ wr.heap.size := Nat.le_of_lt (Array.getElem?_eq_some_iff.1 HX.out).1
    have BW : Hid (Below w.heap.size w wr) := HB.out
    have x1 := cell_row HX.out 1 rfl
    have x2 := cell_row HX.out 2 rfl
    have x3 := cell_row HX.out 3 rfl
    by_cases hlt : k < loc.length
    · have hlt' : (k : Int) < (loc.length : Int) := by omega
      obtain ⟨b, hbk⟩ : ∃ b, loc[k]? = some b := ⟨loc[k], List.getElem?_eq_getElem hlt⟩
      obtain ⟨g1, o1, rfl, c1⟩ := (HL.out.below BW.out).row hbk
      rw [drop_at hbk, rtL] at HE
      clear hbk
      cases b with
      | false =>
        go_wp2_with fail
        exact ⟨⟨k + 1, acc, by omega, by omega, by go_num, HO.out, by have := HE.out; simpa using this, HB.out, HX.out⟩, by simp [intOf]; omega⟩
      | true =>
        by_cases hlv : k < live.length
        · have hlv' : (k : Int) < (live.length : Int) := by omega
          obtain ⟨c, hck⟩ : ∃ c, live[k]? = some c := ⟨live[k], List.getElem?_eq_getElem hlv⟩
          obtain ⟨g3, o3, rfl, c3⟩ := (HV.out.below BW.out).row hck
          rw [hck] at HE
          clear hck
          cases c with
          | false =>
            go_wp2_with fail
            exact ⟨⟨k + 1, acc, by omega, by omega, by go_num, HO.out, by have := HE.out; simpa using this, HB.out, HX.out⟩, by simp [intOf]; omega⟩
          | true =>
            go_wp2_with (at_builtin; refine wpList_nappend rfl _ _ rfl w.heap.size _ _ _ HO.out rfl rfl (by omega) hz ?_; intro ao3 cap3 w2 ho2 st2; have HB2 := hidIt ((HB.out.trans ((below_alloc _ _).mono hz)).trans (st2.below (Nat.le_trans hz (below_alloc _ _).size) (fun k hk => (HO.out.lt k hk).1))); have HX2 := hidIt (step_keeps st2 HO.out w.heap.size _ _ (by decide) HX.out); have HO2 := hidIt ho2; clear ho2 st2)
            exact ⟨⟨k + 1, _, by omega, by simp; omega, by go_num, HO2.out, by have := HE.out; simpa using this, HB2.out, HX2.out⟩, by simp [intOf]; omega⟩
        · have hlv' : ¬ (k : Int) < (live.length : Int) := by omega
          rw [List.getElem?_eq_none (by omega : live.length ≤ k)] at HE
          go_wp2_with fail
          exact ⟨⟨k + 1, acc, by omega, by omega, by go_num, HO.out, by have := HE.out; simpa using this, HB.out, HX.out⟩, by simp [intOf]; omega⟩
    · have hlt' : ¬ (k : Int) < (loc.length : Int) := by omega
      obtain rfl : k = loc.length := by omega
      rw [List.drop_length] at HE
      have HE0 : Hid (acc ++ rtS (stk.drop 0) ((loc.length : Int) + (0 : Nat)) = Z) := by
        have := HE.out
        simp only [rtL, List.append_nil] at this
        show _ = _
        rw [HZ.out, ← this]
        simp
      clear HE HZ
      go_wp2_with fail
      clear x1 x2 x3
      obtain ⟨W, hW⟩ : ∃ W, W = wr := ⟨wr, rfl⟩
      subst hW
      go_loopw [3, 6, 7, 39] (fun o _ _ i wr => ∃ (k : Nat) (acc : List Int), k ≤ stk.length ∧ acc.length ≤ loc.length + k ∧ i = .int .i64 (k : Int) ∧ NOwn wr w.heap.size o acc ∧ acc ++ rtS (stk.drop k) ((loc.length : Int) + (k : Nat)) = Z ∧ Below w.heap.size w wr ∧ wr.heap[w.heap.size]? = some (.cells #[.int .i64 at_, .slice a1 loc.length p1, .slice a2 stk.length p2, .slice a3 live.length p3] 24 (0, 0))) (fun _ _ _ i _ => stk.length - (intOf i).toNat)
      case atStart => exact ⟨0, acc, Nat.zero_le _, by omega, rfl, HO.out, HE0.out, HB.out, HX.out⟩
      case round =>
        clear HB HX HO HE0 hz BW
        obtain ⟨k, acc, hk, ha, rfl, ho, he, hb, hx⟩ := hrel
        have HO := hidIt ho
        have HE := hidIt he
        have HB := hidIt hb
        have HX := hidIt hx
        obtain ⟨ao, cap, rfl⟩ := own_slice ho
        clear ho he hb hx
        have hz : w.heap.size ≤ wr.heap.size := Nat.le_of_lt (Array.getElem?_eq_some_iff.1 HX.out).1
        have BW : Hid (Below w.heap.size w wr) := HB.out
        have x1 := cell_row HX.out 1 rfl
        have x2 := cell_row HX.out 2 rfl
        by_cases hlt : k < stk.length
        · have hlt' : (k : Int) < (stk.length : Int) := by omega
          obtain ⟨b, hbk⟩ : ∃ b, stk[k]? = some b := ⟨stk[k], List.getElem?_eq_getElem hlt⟩
          obtain ⟨g1, o1, rfl, c1⟩ := (HS.out.below BW.out).row hbk
          rw [drop_at hbk, rtS] at HE
          clear hbk
          cases b with
          | false =>
            go_wp2_with fail
            exact ⟨⟨k + 1, acc, by omega, by omega, by go_num, HO.out, by have := HE.out; simpa [Int.add_assoc] using this, HB.out, HX.out⟩, by simp [intOf]; omega⟩
          | true =>
            go_wp2_with (at_builtin; refine wpList_nappend rfl _ _ rfl w.heap.size _ _ _ HO.out rfl rfl (by omega) hz ?_; intro ao3 cap3 w2 ho2 st2; have HB2 := hidIt ((HB.out.trans ((below_alloc _ _).mono hz)).trans (st2.below (Nat.le_trans hz (below_alloc _ _).size) (fun k hk => (HO.out.lt k hk).1))); have HX2 := hidIt (step_keeps st2 HO.out w.heap.size _ _ (by decide) HX.out); have HO2 := hidIt ho2; clear ho2 st2)
            exact ⟨⟨k + 1, _, by omega, by simp; omega, by go_num, HO2.out, by have := HE.out; simpa [Int.add_assoc] using this, HB2.out, HX2.out⟩, by simp [intOf]; omega⟩
        · have hlt' : ¬ (k : Int) < (stk.length : Int) := by omega
          obtain rfl : k = stk.length := by omega
          rw [List.drop_length] at HE
          have HE0 : Hid (acc = Z) := by
            show acc = Z
            have := HE.out
            simpa [rtS] using this
          have HR : Hid (NOwn wr w.heap.size (.slice ao acc.length cap) Z) := by
            have := HO.out
            rw [HE0.out] at this
            rw [HE0.out]
            exact this
          go_wp2_with fail
          go_ret
          exact ⟨_, rfl, HR.out, BW.out⟩
set_option maxRecDepth 8000 in
set_option maxHeartbeats 4000000 in
theorem rroots_any (at_ : Int) (vl vs vv : Value) (loc stk live : List Bool) (w : World) (hl : BView w vl loc) (hs : BView w vs stk) (hv : BView w vv live) (hn : loc.length + stk.length ≤ 10000000000) :
    Calls Try.prog 7 #[.agg #[.int .i64 at_, vl, vs, vv]] w fun e w' => ∃ v', e = .returned v' ∧ NOwn w' w.heap.size v' (rootsZ loc live stk) ∧ Below w.heap.size w w' := by
  have HL := hidIt hl
  have HS := hidIt hs
  have HV := hidIt hv
  obtain ⟨a1, p1, rfl, q1, t1, -⟩ := hl
  obtain ⟨a2, p2, rfl, q2, t2, -⟩ := hs
  obtain ⟨a3, p3, rfl, q3, t3, -⟩ := hv
  unfold maxLen at t1 t2 t3
  have HA := hidIt (below_alloc w (.cells #[.int .i64 at_, .slice a1 loc.length p1, .slice a2 stk.length p2, .slice a3 live.length p3] 29))
  have HX := hidIt (heap_alloc_new w (.cells #[.int .i64 at_, .slice a1 loc.length p1, .slice a2 stk.length p2, .slice a3 live.length p3] 29))
  have HZ : Hid (rootsZ loc live stk = rtL live loc 0 ++ rtS stk (loc.length : Int)) := rfl
  generalize rootsZ loc live stk = Z at *
  go_enter Try.func7, Try.ntmps7
  go_upto_region 2 with (fail)
  generalize w.alloc (.cells #[.int .i64 at_, .slice a1 loc.length p1, .slice a2 stk.length p2, .slice a3 live.length p3] 29) = w1 at *
  have x1 := cell_row HX.out 1 rfl
  go_wp2_with fail
  clear x1
  go_loopw [3, 4] (fun o i wr => ∃ (k : Nat) (acc : List Int), k ≤ loc.length ∧ acc.length ≤ k ∧ i = .int .i64 (k : Int) ∧ NOwn wr w.heap.size o acc ∧ acc ++ rtL live (loc.drop k) k = rtL live loc 0 ∧ Below w.heap.size w wr ∧ wr.heap[w.heap.size]? = some (.cells #[.int .i64 at_, .slice a1 loc.length p1, .slice a2 stk.length p2, .slice a3 live.length p3] 29 (0, 0))) (fun _ i _ => loc.length - (intOf i).toNat)
  case atStart => exact ⟨0, [], Nat.zero_le _, Nat.le_refl _, rfl, NOwn.nil _ _, rfl, HA.out, HX.out⟩
  case round =>
    clear HA HX
    obtain ⟨k, acc, hk, ha, rfl, ho, he, hb, hx⟩ := hrel
    have HO := hidIt ho
    have HE := hidIt he
    have HB := hidIt hb
    have HX := hidIt hx
    obtain ⟨ao, cap, rfl⟩ := own_slice ho
    clear ho he hb hx
    have hz : w.heap.size ≤ wr.heap.size := Nat.le_of_lt (Array.getElem?_eq_some_iff.1 HX.out).1
    have BW : Hid (Below w.heap.size w wr) := HB.out
    have x1 := cell_row HX.out 1 rfl
    have x2 := cell_row HX.out 2 rfl
    have x3 := cell_row HX.out 3 rfl
    by_cases hlt : k < loc.length
    · have hlt' : (k : Int) < (loc.length : Int) := by omega
      obtain ⟨b, hbk⟩ : ∃ b, loc[k]? = some b := ⟨loc[k], List.getElem?_eq_getElem hlt⟩
      obtain ⟨g1, o1, rfl, c1⟩ := (HL.out.below BW.out).row hbk
      rw [drop_at hbk, rtL] at HE
      clear hbk
      cases b with
      | false =>
        go_wp2_with fail
        exact ⟨⟨k + 1, acc, by omega, by omega, by go_num, HO.out, by have := HE.out; simpa using this, HB.out, HX.out⟩, by simp [intOf]; omega⟩
      | true =>
        by_cases hlv : k < live.length
        · have hlv' : (k : Int) < (live.length : Int) := by omega
          obtain ⟨c, hck⟩ : ∃ c, live[k]? = some c := ⟨live[k], List.getElem?_eq_getElem hlv⟩
          obtain ⟨g3, o3, rfl, c3⟩ := (HV.out.below BW.out).row hck
          rw [hck] at HE
          clear hck
          cases c with
          | false =>
            go_wp2_with fail
            exact ⟨⟨k + 1, acc, by omega, by omega, by go_num, HO.out, by have := HE.out; simpa using this, HB.out, HX.out⟩, by simp [intOf]; omega⟩
          | true =>
            go_wp2_with (at_builtin; refine wpList_nappend rfl _ _ rfl w.heap.size _ _ _ HO.out rfl rfl (by omega) hz ?_; intro ao3 cap3 w2 ho2 st2; have HB2 := hidIt ((HB.out.trans ((below_alloc _ _).mono hz)).trans (st2.below (Nat.le_trans hz (below_alloc _ _).size) (fun k hk => (HO.out.lt k hk).1))); have HX2 := hidIt (step_keeps st2 HO.out w.heap.size _ _ (by decide) HX.out); have HO2 := hidIt ho2; clear ho2 st2)
            exact ⟨⟨k + 1, _, by omega, by simp; omega, by go_num, HO2.out, by have := HE.out; simpa using this, HB2.out, HX2.out⟩, by simp [intOf]; omega⟩
        · have hlv' : ¬ (k : Int) < (live.length : Int) := by omega
          rw [List.getElem?_eq_none (by omega : live.length ≤ k)] at HE
          go_wp2_with fail
          exact ⟨⟨k + 1, acc, by omega, by omega, by go_num, HO.out, by have := HE.out; simpa using this, HB.out, HX.out⟩, by simp [intOf]; omega⟩
    · have hlt' : ¬ (k : Int) < (loc.length : Int) := by omega
      obtain rfl : k = loc.length := by omega
      rw [List.drop_length] at HE
      have HE0 : Hid (acc ++ rtS (stk.drop 0) ((loc.length : Int) + (0 : Nat)) = Z) := by
        have := HE.out
        simp only [rtL, List.append_nil] at this
        show _ = _
        rw [HZ.out, ← this]
        simp
      clear HE HZ
      go_wp2_with fail
      clear x1 x2 x3
      obtain ⟨W, hW⟩ : ∃ W, W = wr := ⟨wr, rfl⟩
      subst hW
      go_loopw [3, 5] (fun o i wr => ∃ (k : Nat) (acc : List Int), k ≤ stk.length ∧ acc.length ≤ loc.length + k ∧ i = .int .i64 (k : Int) ∧ NOwn wr w.heap.size o acc ∧ acc ++ rtS (stk.drop k) ((loc.length : Int) + (k : Nat)) = Z ∧ Below w.heap.size w wr ∧ wr.heap[w.heap.size]? = some (.cells #[.int .i64 at_, .slice a1 loc.length p1, .slice a2 stk.length p2, .slice a3 live.length p3] 29 (0, 0))) (fun _ i _ => stk.length - (intOf i).toNat)
      case atStart => exact ⟨0, acc, Nat.zero_le _, by omega, rfl, HO.out, HE0.out, HB.out, HX.out⟩
      case round =>
        clear HB HX HO HE0 hz BW
        obtain ⟨k, acc, hk, ha, rfl, ho, he, hb, hx⟩ := hrel
        have HO := hidIt ho
        have HE := hidIt he
        have HB := hidIt hb
        have HX := hidIt hx
        obtain ⟨ao, cap, rfl⟩ := own_slice ho
        clear ho he hb hx
        have hz : w.heap.size ≤ wr.heap.size := Nat.le_of_lt (Array.getElem?_eq_some_iff.1 HX.out).1
        have BW : Hid (Below w.heap.size w wr) := HB.out
        have x1 := cell_row HX.out 1 rfl
        have x2 := cell_row HX.out 2 rfl
        by_cases hlt : k < stk.length
        · have hlt' : (k : Int) < (stk.length : Int) := by omega
          obtain ⟨b, hbk⟩ : ∃ b, stk[k]? = some b := ⟨stk[k], List.getElem?_eq_getElem hlt⟩
          obtain ⟨g1, o1, rfl, c1⟩ := (HS.out.below BW.out).row hbk
          rw [drop_at hbk, rtS] at HE
          clear hbk
          cases b with
          | false =>
            go_wp2_with fail
            exact ⟨⟨k + 1, acc, by omega, by omega, by go_num, HO.out, by have := HE.out; simpa [Int.add_assoc] using this, HB.out, HX.out⟩, by simp [intOf]; omega⟩
          | true =>
            go_wp2_with (at_builtin; refine wpList_nappend rfl _ _ rfl w.heap.size _ _ _ HO.out rfl rfl (by omega) hz ?_; intro ao3 cap3 w2 ho2 st2; have HB2 := hidIt ((HB.out.trans ((below_alloc _ _).mono hz)).trans (st2.below (Nat.le_trans hz (below_alloc _ _).size) (fun k hk => (HO.out.lt k hk).1))); have HX2 := hidIt (step_keeps st2 HO.out w.heap.size _ _ (by decide) HX.out); have HO2 := hidIt ho2; clear ho2 st2)
            exact ⟨⟨k + 1, _, by omega, by simp; omega, by go_num, HO2.out, by have := HE.out; simpa [Int.add_assoc] using this, HB2.out, HX2.out⟩, by simp [intOf]; omega⟩
        · have hlt' : ¬ (k : Int) < (stk.length : Int) := by omega
          obtain rfl : k = stk.length := by omega
          rw [List.drop_length] at HE
          have HE0 : Hid (acc = Z) := by
            show acc = Z
            have := HE.out
            simpa [rtS] using this
          have HR : Hid (NOwn wr w.heap.size (.slice ao acc.length cap) Z) := by
            have := HO.out
            rw [HE0.out] at this
            rw [HE0.out]
            exact this
          go_wp2_with fail
          go_ret
          exact ⟨_, rfl, HR.out, BW.out⟩
end Go.Proofs.Ytlnapfeglbdecaa
namespace Go.Proofs.Ytlnapfeglbdecaa
open Go.RowKit

def Succ (l : List IN) (h : List HN) (k m : Nat) : Prop := (m : Int) ∈ nextZ l (k : Int) ∨ ∃ i x, l[k]? = some i ∧ x ∈ h ∧ x.f ≤ i.pl ∧ i.pl < x.t ∧ findZ l x.a = (m : Int)
inductive Rch (l : List IN) (h : List HN) : Nat → Prop
  | zero : 0 < l.length → Rch l h 0
  | step {k m : Nat} : Rch l h k → Succ l h k m → Rch l h m
def ReachIs (l : List IN) (h : List HN) (r : List Bool) : Prop := r.length = l.length ∧ ∀ k : Nat, k < l.length → (r[k]? = some true ↔ Rch l h k)
theorem nextZ_range {l : List IN} {n m : Int} (h : m ∈ nextZ l n) : 0 ≤ m ∧ m < l.length := by
  unfold nextZ at h
  split at h
  · simp at h
  · split at h
    · rename_i x hx
      have hk := (List.getElem?_eq_some_iff.1 hx).1
      have ht := tgtZ_lt l x
      unfold nextL at h
      split at h
      · rename_i hc
        simp only [Bool.and_eq_true, decide_eq_true_eq] at hc
        split at h
        · simp at h; omega
        · split at h
          · simp at h; omega
          · split at h
            · simp at h; omega
            · simp at h; omega
      · split at h
        · simp at h
        · simp at h; omega
    · simp at h
theorem Succ.lt {l : List IN} {h : List HN} {k m : Nat} (hs : Succ l h k m) : m < l.length := by
  rcases hs with h1 | ⟨i, x, _, _, _, _, he⟩
  · have := nextZ_range h1; omega
  · have := findZ_lt l x.a; omega
theorem Rch.lt {l : List IN} {h : List HN} {k : Nat} (hr : Rch l h k) : k < l.length := by
  cases hr with
  | zero h => exact h
  | step _ hs => exact hs.lt
structure Iv (l : List IN) (h : List HN) (r : List Bool) (st : List Int) (ex : Int) : Prop where
  len : r.length = l.length
  snd : ∀ k : Nat, r[k]? = some true → Rch l h k
  stk : ∀ s ∈ st, 0 ≤ s ∧ r[s.toNat]? = some true
  fst : 0 < l.length → r[0]? = some true
  cls : ∀ k : Nat, r[k]? = some true → (k : Int) ∉ st → (k : Int) ≠ ex → ∀ m : Nat, Succ l h k m → r[m]? = some true
def cntF (r : List Bool) : Nat := (r.filter (fun b => !b)).length
theorem cntF_set {r : List Bool} {k : Nat} (h : r[k]? = some false) : cntF (r.set k true) + 1 = cntF r := by
  induction r generalizing k with
  | nil => simp at h
  | cons b r ih =>
    cases k with
    | zero => simp at h; subst h; simp [cntF]
    | succ k =>
      simp at h
      have := ih h
      unfold cntF at *
      cases b <;> simp <;> omega
theorem set_mono {r : List Bool} {j k : Nat} (h : r[k]? = some true) : (r.set j true)[k]? = some true := by
  rw [List.getElem?_set]
  split
  · have := (List.getElem?_eq_some_iff.1 h).1
    rename_i e
    subst e
    rw [if_pos this]
  · exact h
theorem set_self {r : List Bool} {k : Nat} {b : Bool} (h : r[k]? = some b) : (r.set k true)[k]? = some true := by
  rw [List.getElem?_set_self (List.getElem?_eq_some_iff.1 h).1]
theorem Iv.step {l : List IN} {h : List HN} {r : List Bool} {st : List Int} {ex : Int} (iv : Iv l h r st ex) (m : Int) (hm : ∀ k : Nat, m = (k : Int) → k < l.length → Rch l h k) :
    Iv l h (rchZ (r, st) m).1 (rchZ (r, st) m).2 ex ∧ (∀ k : Nat, r[k]? = some true → (rchZ (r, st) m).1[k]? = some true) ∧ (∀ k : Nat, m = (k : Int) → k < l.length → (rchZ (r, st) m).1[k]? = some true) ∧ 2 * cntF (rchZ (r, st) m).1 + (rchZ (r, st) m).2.length ≤ 2 * cntF r + st.length ∧ (rchZ (r, st) m).1.length = r.length := by
  unfold rchZ
  simp only
  split
  · rename_i hc
    obtain ⟨h0, hf⟩ := hc
    obtain ⟨k, rfl⟩ := Int.eq_ofNat_of_zero_le h0
    rw [Int.toNat_natCast] at hf ⊢
    have hk : k < l.length := by rw [← iv.len]; exact (List.getElem?_eq_some_iff.1 hf).1
    have hcnt := cntF_set hf
    refine ⟨⟨by rw [List.length_set]; exact iv.len, fun j hj => ?_, fun s hs => ?_, fun h => set_mono (iv.fst h), fun j hj hjs hje q hq => ?_⟩, fun j hj => set_mono hj, fun j e hj => ?_, ?_, by rw [List.length_set]⟩
    · by_cases e : j = k
      · subst e; exact hm j rfl hk
      · rw [List.getElem?_set_ne (fun h => e h.symm)] at hj
        exact iv.snd j hj
    · rcases List.mem_append.1 hs with hs | hs
      · exact ⟨(iv.stk s hs).1, set_mono (iv.stk s hs).2⟩
      · simp at hs
        subst hs
        exact ⟨h0, by rw [Int.toNat_natCast]; exact set_self hf⟩
    · have e : j ≠ k := fun e => hjs (by subst e; simp)
      rw [List.getElem?_set_ne (fun h => e h.symm)] at hj
      exact set_mono (iv.cls j hj (fun hs => hjs (List.mem_append.2 (.inl hs))) hje q hq)
    · have : k = j := by omega
      subst this
      exact set_self hf
    · show 2 * cntF (r.set k true) + (st ++ [(k : Int)]).length ≤ _
      rw [List.length_append, List.length_singleton]
      omega
  · rename_i hc
    refine ⟨iv, fun j hj => hj, fun j e hj => ?_, Nat.le_refl _, rfl⟩
    subst e
    rw [Int.toNat_natCast] at hc
    have hj' : j < r.length := by rw [iv.len]; exact hj
    rw [List.getElem?_eq_getElem hj'] at hc ⊢
    cases e : r[j]
    · exact absurd ⟨by omega, by rw [e]⟩ hc
    · rfl
theorem Iv.begin (l : List IN) (h : List HN) : Iv l h (rchZ (List.replicate l.length false, []) 0).1 (rchZ (List.replicate l.length false, []) 0).2 (-1) := by
  by_cases h0 : 0 < l.length
  · have hf : (List.replicate l.length false)[0]? = some false := by simp [h0]
    have e : rchZ (List.replicate l.length false, []) 0 = ((List.replicate l.length false).set 0 true, [0]) := by
      unfold rchZ
      rw [if_pos ⟨Int.le_refl 0, hf⟩]
      rfl
    rw [e]
    have ht : ∀ k : Nat, ((List.replicate l.length false).set 0 true)[k]? = some true → k = 0 := by
      intro k hk
      rcases Nat.eq_zero_or_pos k with h | h
      · exact h
      · rw [List.getElem?_set_ne (by omega), List.getElem?_replicate] at hk
        split at hk <;> simp at hk
    refine ⟨by simp, fun k hk => ?_, fun s hs => ?_, fun _ => set_self hf, fun k hk hks => ?_⟩
    · rw [ht k hk]; exact .zero h0
    · simp at hs; subst hs; exact ⟨by omega, set_self hf⟩
    · rw [ht k hk] at hks; simp at hks
  · have hl : l.length = 0 := by omega
    have e : rchZ (List.replicate l.length false, []) 0 = ([], []) := by unfold rchZ; rw [hl]; simp
    rw [e]
    exact ⟨by simp [hl], fun k hk => by simp at hk, fun s hs => by simp at hs, fun h => absurd h h0, fun k hk => by simp at hk⟩
theorem Iv.done {l : List IN} {h : List HN} {r : List Bool} {ex : Int} (iv : Iv l h r [] ex) (he : ex < 0) : ReachIs l h r := by
  refine ⟨iv.len, fun k hk => ⟨iv.snd k, fun hr => ?_⟩⟩
  clear hk
  induction hr with
  | zero h0 => exact iv.fst h0
  | step hr hs ih => exact iv.cls _ ih (by simp) (by omega) _ hs
end Go.Proofs.Ytlnapfeglbdecaa
namespace Go.Proofs.Ytlnapfeglbdecaa
open Go.RowKit

def su (s : BitVec 16) : Int := (s.toNat : Int)
def onlyS (n : Int) : BitVec 16 := if n < 0 ∨ 16 ≤ n then 0#16 else BitVec.twoPow 16 n.toNat
def rdS (x : IN) : BitVec 16 := if x.op = 21 ∨ x.op = 25 ∨ x.op = 132 then onlyS x.a else 0#16
def stS (x : IN) : BitVec 16 := if x.op = 54 ∨ x.op = 58 then onlyS x.a else 0#16
def getS (s : List (BitVec 16)) (m : Int) : BitVec 16 := (s[m.toNat]?).getD 0#16
def orL (s : List (BitVec 16)) : List Int → BitVec 16 → BitVec 16
  | [], a => a
  | m :: r, a => orL s r (a ||| getS s m)
def ovT (l : List IN) (p : Int) (y : HN) : Bool := decide (0 ≤ findZ l y.a) && decide (y.f ≤ p) && decide (p < y.t)
def orH (l : List IN) (s : List (BitVec 16)) (p : Int) : List HN → BitVec 16 → BitVec 16
  | [], a => a
  | y :: r, a => orH l s p r (if ovT l p y = true then a ||| getS s (findZ l y.a) else a)
def ahZ (l : List IN) (h : List HN) (s : List (BitVec 16)) (n : Nat) (x : IN) : BitVec 16 := orH l s x.pl h (rdS x ||| (orL s (nextZ l (n : Int)) 0#16 &&& ~~~ stS x))
theorem orL_bit (s : List (BitVec 16)) (b : Nat) : ∀ (T : List Int) (a : BitVec 16), (orL s T a).getLsbD b = (a.getLsbD b || T.any (fun m => (getS s m).getLsbD b))
  | [], a => by simp [orL]
  | m :: r, a => by rw [orL, orL_bit s b r]; simp [Bool.or_assoc]
theorem orH_bit (l : List IN) (s : List (BitVec 16)) (p : Int) (b : Nat) : ∀ (h : List HN) (a : BitVec 16), (orH l s p h a).getLsbD b = (a.getLsbD b || h.any (fun y => ovT l p y && (getS s (findZ l y.a)).getLsbD b))
  | [], a => by simp [orH]
  | y :: r, a => by
    rw [orH, orH_bit l s p b r, List.any_cons]
    cases h : ovT l p y <;> simp [Bool.or_assoc]
theorem ahZ_bit (l : List IN) (h : List HN) (s : List (BitVec 16)) (n : Nat) (x : IN) (b : Nat) (hb : b < 16) : (ahZ l h s n x).getLsbD b = (((rdS x).getLsbD b || ((nextZ l (n : Int)).any (fun m => (getS s m).getLsbD b) && !(stS x).getLsbD b)) || h.any (fun y => ovT l x.pl y && (getS s (findZ l y.a)).getLsbD b)) := by
  unfold ahZ
  rw [orH_bit, BitVec.getLsbD_or, BitVec.getLsbD_and, orL_bit, BitVec.getLsbD_not]
  simp [hb]
def Sb (a b : BitVec 16) : Prop := ∀ k, k < 16 → a.getLsbD k = true → b.getLsbD k = true
def SbL (s t : List (BitVec 16)) : Prop := ∀ m, Sb (getS s m) (getS t m)
theorem Sb.refl (a : BitVec 16) : Sb a a := fun _ _ h => h
theorem Sb.trans {a b c : BitVec 16} (h : Sb a b) (k : Sb b c) : Sb a c := fun i hi x => k i hi (h i hi x)
theorem ahZ_mono {l : List IN} {h : List HN} {s t : List (BitVec 16)} (n : Nat) (x : IN) (hs : SbL s t) : Sb (ahZ l h s n x) (ahZ l h t n x) := fun b hb hx => by
  rw [ahZ_bit _ _ _ _ _ _ hb] at hx ⊢
  simp only [Bool.or_eq_true, Bool.and_eq_true, List.any_eq_true] at hx ⊢
  rcases hx with (hx | ⟨⟨m, h1, h2⟩, h3⟩) | ⟨y, h1, h2, h3⟩
  · exact .inl (.inl hx)
  · exact .inl (.inr ⟨⟨m, h1, hs m b hb h2⟩, h3⟩)
  · exact .inr ⟨y, h1, h2, hs _ b hb h3⟩
theorem Sb.le {a b : BitVec 16} (h : Sb a b) : a.toNat ≤ b.toNat := by
  have e : a ||| b = b := by
    apply BitVec.eq_of_getLsbD_eq
    intro i hi
    rw [BitVec.getLsbD_or]
    cases h1 : a.getLsbD i
    · simp
    · rw [h i hi h1]; rfl
  rw [← e, BitVec.toNat_or]
  exact Nat.left_le_or
theorem Sb.lt {a b : BitVec 16} (h : Sb a b) (hne : b ≠ a) : a.toNat < b.toNat := by
  have := h.le
  rcases Nat.lt_or_eq_of_le this with h1 | h1
  · exact h1
  · exact absurd (BitVec.eq_of_toNat_eq h1).symm hne
def meas (s : List (BitVec 16)) : Nat := (s.map (fun a => 65535 - a.toNat)).sum
theorem meas_set : ∀ (s : List (BitVec 16)) (n : Nat) (a b : BitVec 16), s[n]? = some a → a.toNat < b.toNat → meas (s.set n b) < meas s
  | [], n, a, b, h, _ => by simp at h
  | c :: r, 0, a, b, h, hl => by
    simp at h
    subst h
    have := b.isLt
    simp only [meas, List.set_cons_zero, List.map_cons, List.sum_cons]
    omega
  | c :: r, n + 1, a, b, h, hl => by
    have := meas_set r n a b (by simpa using h) hl
    simp only [meas, List.set_cons_succ, List.map_cons, List.sum_cons] at this ⊢
    omega
theorem getS_at {s : List (BitVec 16)} {n : Nat} {a : BitVec 16} (h : s[n]? = some a) : getS s (n : Int) = a := by unfold getS; rw [Int.toNat_natCast, h]; rfl
theorem getS_set_self {s : List (BitVec 16)} {n : Nat} {a : BitVec 16} (h : n < s.length) : getS (s.set n a) (n : Int) = a := getS_at (by rw [List.getElem?_set_self h])
theorem getS_set_ne {s : List (BitVec 16)} {n : Nat} {m : Int} {a : BitVec 16} (h : m.toNat ≠ n) : getS (s.set n a) m = getS s m := by unfold getS; rw [List.getElem?_set_ne (Ne.symm h)]
structure Inc (l : List IN) (h : List HN) (s : List (BitVec 16)) : Prop where
  len : s.length = l.length
  up : ∀ (i : Nat) (x : IN), l[i]? = some x → Sb (getS s (i : Int)) (ahZ l h s i x)
  least : ∀ t : List (BitVec 16), (∀ (i : Nat) (x : IN), l[i]? = some x → Sb (ahZ l h t i x) (getS t (i : Int))) → SbL s t
theorem Inc.begin (l : List IN) (h : List HN) : Inc l h (List.replicate l.length 0#16) := by
  have H : ∀ m, getS (List.replicate l.length 0#16) m = 0#16 := fun m => by
    unfold getS
    rw [List.getElem?_replicate]
    split <;> rfl
  exact ⟨by simp, fun i x _ b _ hb => by rw [H] at hb; simp at hb, fun t _ m b _ hb => by rw [H] at hb; simp at hb⟩
theorem Inc.sub {l : List IN} {h : List HN} {s : List (BitVec 16)} {n : Nat} {x : IN} (p : Inc l h s) (hx : l[n]? = some x) : SbL s (s.set n (ahZ l h s n x)) := fun m => by
  by_cases e : m.toNat = n
  · have h1 : getS s m = getS s (n : Int) := by unfold getS; rw [e, Int.toNat_natCast]
    have h2 : getS (s.set n (ahZ l h s n x)) m = ahZ l h s n x := by
      unfold getS
      rw [e, List.getElem?_set_self (by rw [p.len]; exact (List.getElem?_eq_some_iff.1 hx).1)]
      rfl
    rw [h1, h2]
    exact p.up n x hx
  · rw [getS_set_ne e]; exact Sb.refl _
theorem Inc.step {l : List IN} {h : List HN} {s : List (BitVec 16)} {n : Nat} {x : IN} (p : Inc l h s) (hx : l[n]? = some x) : Inc l h (s.set n (ahZ l h s n x)) := by
  have hn : n < s.length := by rw [p.len]; exact (List.getElem?_eq_some_iff.1 hx).1
  have hs := p.sub hx
  refine ⟨by rw [List.length_set]; exact p.len, fun i y hy => ?_, fun t ht m => ?_⟩
  · by_cases e : i = n
    · subst e
      rw [hx] at hy
      cases hy
      rw [getS_set_self hn]
      exact ahZ_mono _ _ hs
    · rw [getS_set_ne (by simpa using e)]
      exact (p.up i y hy).trans (ahZ_mono _ _ hs)
  · by_cases e : m.toNat = n
    · have h2 : getS (s.set n (ahZ l h s n x)) m = ahZ l h s n x := by
        unfold getS
        rw [e, List.getElem?_set_self hn]
        rfl
      have h3 : getS t m = getS t (n : Int) := by unfold getS; rw [e, Int.toNat_natCast]
      rw [h2, h3]
      exact (ahZ_mono _ _ (p.least t ht)).trans (ht n x hx)
    · rw [getS_set_ne e]; exact p.least t ht m
def Fx (l : List IN) (h : List HN) (s : List (BitVec 16)) (j : Nat) : Prop := ∀ x, l[j]? = some x → ahZ l h s j x = getS s (j : Int)
def Still (l : List IN) (h : List HN) (s : List (BitVec 16)) (n t : Nat) : Prop := ∀ k, k < t → Fx l h s ((n + k) % l.length)
theorem Still.zero (l : List IN) (h : List HN) (s : List (BitVec 16)) (n : Nat) : Still l h s n 0 := fun _ hk => absurd hk (Nat.not_lt_zero _)
theorem Still.more {l : List IN} {h : List HN} {s : List (BitVec 16)} {n t : Nat} (p : Still l h s (n + 1) t) (hf : Fx l h s n) (hn : n < l.length) : Still l h s n (t + 1) := fun k hk => by
  cases k with
  | zero => rw [Nat.add_zero, Nat.mod_eq_of_lt hn]; exact hf
  | succ k => have := p k (by omega); rwa [show n + 1 + k = n + (k + 1) by omega] at this
theorem Still.round {l : List IN} {h : List HN} {s : List (BitVec 16)} {t : Nat} (p : Still l h s 0 t) : Still l h s l.length t := fun k hk => by
  have := p k hk
  rw [Nat.zero_add] at this
  rw [Nat.add_mod_left]
  exact this
theorem Still.all {l : List IN} {h : List HN} {s : List (BitVec 16)} {n : Nat} (p : Still l h s n l.length) (hn : n < l.length) : ∀ j, Fx l h s j := fun j x hx => by
  have hj := (List.getElem?_eq_some_iff.1 hx).1
  by_cases e : n ≤ j
  · have := p (j - n) (by omega)
    rw [show n + (j - n) = j by omega, Nat.mod_eq_of_lt hj] at this
    exact this x hx
  · have := p (j + l.length - n) (by omega)
    rw [show n + (j + l.length - n) = j + l.length by omega, Nat.add_mod_right, Nat.mod_eq_of_lt hj] at this
    exact this x hx
structure LiveIs (l : List IN) (h : List HN) (s : List (BitVec 16)) : Prop where
  inc : Inc l h s
  fx : ∀ j, Fx l h s j
theorem only_bit (v : Nat) (hv : v < 16) (k : Nat) : (onlyS (v : Int)).getLsbD k = decide (v = k) := by
  unfold onlyS
  rw [if_neg (by omega), Int.toNat_natCast, BitVec.getLsbD_twoPow]
  simp [hv]
theorem and_only (s : BitVec 16) (v : Nat) (hv : v < 16) : (decide ((s &&& onlyS (v : Int)) ≠ 0#16)) = s.getLsbD v := by
  cases h : s.getLsbD v
  · rw [decide_eq_false_iff_not, Classical.not_not]
    apply BitVec.eq_of_getLsbD_eq
    intro i hi
    rw [BitVec.getLsbD_and, only_bit v hv i]
    by_cases e : v = i
    · subst e; simp [h]
    · simp [e]
  · rw [decide_eq_true_iff]
    intro e
    have := congrArg (fun x => x.getLsbD v) e
    simp only [BitVec.getLsbD_and, only_bit v hv v, h] at this
    simp at this
end Go.Proofs.Ytlnapfeglbdecaa
namespace Go.Proofs.Ytlnapfeglbdecaa
open Go.RowKit

theorem heap_alloc_new' {w : World} {o : Obj} {k : Nat} (h : k = w.heap.size) : (w.alloc o).heap[k]? = some o := by subst h; exact heap_alloc_new w o
end Go.Proofs.Ytlnapfeglbdecaa
namespace Go.Proofs.Ytlnapfeglbdecaa
open Go.RowKit

theorem NOwn.take {w : World} {B : Nat} {ao : Option Addr} {m cap : Nat} {l : List Int} {x : Int} (h : NOwn w B (.slice ao (m + 1) cap) (l ++ [x])) (hm : l.length = m) : NOwn w B (.slice ao m cap) l := by
  subst hm
  obtain ⟨g, cap', cs, e, hB, hg, h1, h2, h3, h4⟩ := h.block (by simp)
  simp only [List.length_append, List.length_singleton] at e
  cases e
  have e3 : cs.size = cap := by
    rcases h.2 with ⟨e, _⟩ | ⟨g', cap', cur, e, _, hg', _, _, h5, _⟩
    · cases e
    · simp only [List.length_append, List.length_singleton] at e
      cases e
      rw [hg] at hg'
      cases hg'
      omega
  exact NOwn.of_block hB hg rfl (by simp at h1; omega) h2 e3 fun j y hj => h4 j y (by rw [List.getElem?_append_left (List.getElem?_eq_some_iff.1 hj).1]; exact hj)
theorem NOwn.last {w : World} {B : Nat} {ao : Option Addr} {m cap : Nat} {l : List Int} {x : Int} (h : NOwn w B (.slice ao (m + 1) cap) (l ++ [x])) (hm : l.length = m) : ∃ g, ao = some ⟨g, 0, none⟩ ∧ w.cell? ⟨g, m, none⟩ = some (.int .i64 x) ∧ m + 1 ≤ cap ∧ cap ≤ 9223372036854775807 := by
  subst hm
  obtain ⟨g, cap', cs, e, hB, hg, h1, h2, h3, h4⟩ := h.block (by simp)
  simp only [List.length_append, List.length_singleton] at e
  cases e
  refine ⟨g, rfl, cell_row hg _ (h4 l.length x (by simp)), by simpa using h1, h2⟩
structure Apart (vs vn : Value) (w : World) (l : List Int) (gl bs : Nat) : Prop where
  view : NView w vn l
  blk : ∀ (g off n c : Nat), vn = .slice (some ⟨g, off, none⟩) n c → l ≠ [] → g < w.heap.size ∧ some g ≠ vs.ownBlock ∧ g ≠ gl ∧ g ≠ bs
theorem Apart.begin {vs vn : Value} {w w' : World} {l st : List Int} {gl bs B bl bb : Nat} {v : Value} {li : List IN} {r : List Bool} (hp : RcP B bl bb gl bs v li r vs st w) (hn : NOwn w' w.heap.size vn l) : Apart vs vn w' l gl bs := by
  refine ⟨hn.view, fun g off n c e hne => ?_⟩
  obtain ⟨g', cap, cs, e', hB, hg, _⟩ := hn.block hne
  rw [e'] at e
  cases e
  refine ⟨(Array.getElem?_eq_some_iff.1 hg).1, fun e => ?_, ?_, ?_⟩
  · have := (hp.own.lt _ e.symm).2
    omega
  · have := (Array.getElem?_eq_some_iff.1 hp.row).1; omega
  · have := (Array.getElem?_eq_some_iff.1 hp.stk).1; omega
theorem nextZ_len (l : List IN) (n : Int) : (nextZ l n).length ≤ 2 := by
  unfold nextZ
  split
  · simp
  · split
    · unfold nextL
      split
      · split
        · simp
        · split
          · simp
          · split <;> simp
      · split <;> simp
    · simp
end Go.Proofs.Ytlnapfeglbdecaa
namespace Go.Proofs.Ytlnapfeglbdecaa
open Go.RowKit

theorem only_wrap : ∀ v : Fin 16, IntKind.u16.wrap (2 ^ v.val) = su (onlyS (v.val : Int)) := by decide +kernel
theorem only_any (n : Int) (w : World) : Calls Try.prog 36 #[.int .i64 n] w fun e w' => e = .returned (.int .u16 (su (onlyS n))) ∧ Below w.heap.size w w' := by
  go_enter Try.func36, Try.ntmps36
  by_cases h1 : n < 0
  · have e : onlyS n = 0#16 := if_pos (.inl h1)
    rw [e]
    go_wp2
    go_ret
    exact ⟨rfl, Below.refl _ w⟩
  · by_cases h2 : n ≥ 16
    · have e : onlyS n = 0#16 := if_pos (.inr h2)
      rw [e]
      go_wp2
      go_ret
      exact ⟨rfl, Below.refl _ w⟩
    · have E : IntKind.u16.wrap (2 ^ n.toNat) = su (onlyS n) := by
        obtain ⟨v, rfl⟩ := Int.eq_ofNat_of_zero_le (show 0 ≤ n by omega)
        exact only_wrap ⟨v, by omega⟩
      have EH := hidIt E
      clear E
      generalize su (onlyS n) = r at *
      go_wp2
      go_ret
      rw [EH.out]
      exact ⟨rfl, Below.refl _ w⟩
theorem reads_any (x : IN) (w : World) : Calls Try.prog 54 #[x.val] w fun e w' => e = .returned (.int .u16 (su (rdS x))) ∧ Below w.heap.size w w' := by
  have G := hidIt (fun W => only_any x.a W)
  have HR : Hid (rdS x = if x.op = 21 ∨ x.op = 25 ∨ x.op = 132 then onlyS x.a else 0#16) := rfl
  generalize rdS x = R at *
  have HA := hidIt (below_alloc w (.cells #[.int .i64 x.pl, .int .i64 x.op, .int .i64 x.a, .int .i64 x.b] 52))
  obtain ⟨d0, d1, d2, d3⟩ := box_at w x
  unfold IN.val
  go_enter Try.func54, Try.ntmps54
  by_cases h1 : x.op = 21 ∨ x.op = 25 ∨ x.op = 132
  · rw [if_pos h1] at HR
    have HR2 := hidIt (congrArg su HR.out)
    clear HR
    rcases h1 with h1 | h1 | h1
    all_goals
      rw [h1] at d1 HA ⊢
      rw [h1] at d2
      go_wp2_with (go_at_call 36; refine (G.out _).mono ?_; rintro e w2 ⟨rfl, b2⟩; rw [← HR2.out])
      go_ret
      exact ⟨rfl, HA.out.trans (b2.mono HA.out.size)⟩
  · rw [if_neg h1] at HR
    have HR2 := HR.out
    subst HR2
    have e1 : (x.op == 21) = false := by rw [beq_eq_false_iff_ne]; omega
    have e2 : (x.op == 25) = false := by rw [beq_eq_false_iff_ne]; omega
    have e3 : (x.op == 132) = false := by rw [beq_eq_false_iff_ne]; omega
    go_wp2
    go_ret
    exact ⟨rfl, HA.out⟩
theorem stores_any (x : IN) (w : World) : Calls Try.prog 55 #[x.val] w fun e w' => e = .returned (.int .u16 (su (stS x))) ∧ Below w.heap.size w w' := by
  have G := hidIt (fun W => only_any x.a W)
  have HR : Hid (stS x = if x.op = 54 ∨ x.op = 58 then onlyS x.a else 0#16) := rfl
  generalize stS x = R at *
  have HA := hidIt (below_alloc w (.cells #[.int .i64 x.pl, .int .i64 x.op, .int .i64 x.a, .int .i64 x.b] 52))
  obtain ⟨d0, d1, d2, d3⟩ := box_at w x
  unfold IN.val
  go_enter Try.func55, Try.ntmps55
  by_cases h1 : x.op = 54 ∨ x.op = 58
  · rw [if_pos h1] at HR
    have HR2 := hidIt (congrArg su HR.out)
    clear HR
    rcases h1 with h1 | h1
    all_goals
      rw [h1] at d1 HA ⊢
      rw [h1] at d2
      go_wp2_with (go_at_call 36; refine (G.out _).mono ?_; rintro e w2 ⟨rfl, b2⟩; rw [← HR2.out])
      go_ret
      exact ⟨rfl, HA.out.trans (b2.mono HA.out.size)⟩
  · rw [if_neg h1] at HR
    have HR2 := HR.out
    subst HR2
    have e1 : (x.op == 54) = false := by rw [beq_eq_false_iff_ne]; omega
    have e2 : (x.op == 58) = false := by rw [beq_eq_false_iff_ne]; omega
    go_wp2
    go_ret
    exact ⟨rfl, HA.out⟩
end Go.Proofs.Ytlnapfeglbdecaa
