/- cut: walked. -/
import Derived.Test.YtbdeflpjplhafaaJW
namespace Go.Proofs.Ytbdeflpjplhafaa.J
open Go.RowKit Go.MapKept Go.ChangeMaps
set_option linter.unusedVariables false

variable {n0 : Nat} {w : World} {H : HB} {most : Nat} {ws : List Int} {bs : List Bool} {ss : List (List Bool)}
theorem own_trim {w : World} {B e n k cap : Nat} {ao : Option Addr} {xs : List Value} (h : w.ownsRow B e 1 (.slice ao n cap) n xs) (hk : k ≤ n) : w.ownsRow B e 1 (.slice ao k cap) k (xs.take k) := by
  have hx := h.1
  refine ⟨by rw [List.length_take]; omega, ?_⟩
  rcases h.2 with ⟨h1, h0⟩ | ⟨g, cap', cur, e1, hB, hg, h1, h2, h3, h4⟩
  · cases h1
    have : k = 0 := by omega
    subst this
    exact .inl ⟨rfl, rfl⟩
  · cases e1
    refine .inr ⟨g, _, cur, rfl, hB, hg, by omega, h2, h3, ?_⟩
    rw [← h4, List.take_take]
    simp only [Nat.mul_one]
    rw [Nat.min_eq_left hk]
theorem HeapR.trimW (h : HeapR n0 w H most ws bs ss) {ao : Option Addr} {cap k : Nat} (ew : H.wv = .slice ao ws.length cap) (hk : k ≤ ws.length) :
    HeapR n0 (w.setCell ⟨H.hb, 1, none⟩ (.slice ao k cap)) { H with wv := .slice ao k cap } most (ws.take k) bs ss ∧ HStep H { H with wv := .slice ao k cap } w (w.setCell ⟨H.hb, 1, none⟩ (.slice ao k cap)) := by
  have ho := h.wo
  rw [ew] at ho
  have ht := own_trim ho hk
  have hob : (Value.slice ao k cap).ownBlock = H.wv.ownBlock := by rw [ew]; cases ao <;> rfl
  refine h.growW (v' := .slice ao k cap) (w1 := w) (ws' := ws.take k) ?_ ⟨rfl, rfl, rfl, Nat.le_refl _, fun _ _ _ => rfl⟩ (.inl hob)
  rw [show icells (ws.take k) = (icells ws).take k by simp [icells, List.map_take], List.length_take, Nat.min_eq_left hk]
  exact ht
theorem HeapR.trimB (h : HeapR n0 w H most ws bs ss) {ao : Option Addr} {cap k : Nat} (ew : H.bv = .slice ao bs.length cap) (hk : k ≤ bs.length) :
    HeapR n0 (w.setCell ⟨H.hb, 2, none⟩ (.slice ao k cap)) { H with bv := .slice ao k cap } most ws (bs.take k) ss ∧ HStep H { H with bv := .slice ao k cap } w (w.setCell ⟨H.hb, 2, none⟩ (.slice ao k cap)) := by
  have ho := h.bo
  rw [ew] at ho
  have ht := own_trim ho hk
  have hob : (Value.slice ao k cap).ownBlock = H.bv.ownBlock := by rw [ew]; cases ao <;> rfl
  refine h.growB (v' := .slice ao k cap) (w1 := w) (bs' := bs.take k) ?_ ⟨rfl, rfl, rfl, Nat.le_refl _, fun _ _ _ => rfl⟩ (.inl hob)
  rw [show tcells (bs.take k) = (tcells bs).take k by simp [tcells, List.map_take], List.length_take, Nat.min_eq_left hk]
  exact ht
/-- clear of a row of one's own. -/
theorem run_clear_own {w : World} {B n : Nat} {v : Value} {xs : List Value} (h : w.ownsRow B 4 1 v n xs) :
    ∃ w', (∀ ty, (Builtin.clear_ #[52] ty #[v]).run Try.prog w = .ok (.tuple #[]) w') ∧ w'.ownsRow B 4 1 v n (List.replicate n (.bool false)) ∧ (w'.os = w.os ∧ w'.tape = w.tape ∧ w'.output = w.output ∧ w'.heap.size = w.heap.size) ∧ ∀ b, v.ownBlock ≠ some b → w'.heap[b]? = w.heap[b]? := by
  obtain ⟨i0, hi, hz0, hz1, hz2⟩ := info_parts Try.infoB
  have hv : (zeroValue 4).run Try.prog w = .ok (.bool false) w := by simp [zeroValue, typeInfo, hi, hz0]
  rcases h.2 with ⟨rfl, rfl⟩ | ⟨g, cap, cur, rfl, hB, hg, h1, h2, h3, h4⟩
  · exact ⟨w, fun ty => by simp [Builtin.clear_, run_underlying Try.underlying52], World.ownsRow_nil _ _ _ _, ⟨rfl, rfl, rfl, rfl⟩, fun _ _ => rfl⟩
  · by_cases h0 : n = 0
    · subst h0
      refine ⟨w, fun ty => by simp [Builtin.clear_, run_underlying Try.underlying52], ?_, ⟨rfl, rfl, rfl, rfl⟩, fun _ _ => rfl⟩
      exact ⟨rfl, .inr ⟨g, cap, cur, rfl, hB, hg, h1, h2, h3, by simp⟩⟩
    · have hl : (List.replicate n (Value.bool false)).length = n := List.length_replicate
      have hst := run_storeCells_at Try.prog g 0 4 (List.replicate n (Value.bool false)) 0 cur w hg (by rw [hl]; omega) (fun u hu => by rw [List.eq_of_mem_replicate hu]; rfl)
      simp only [Nat.zero_add, List.take_zero, List.nil_append, hl] at hst
      obtain ⟨m, rfl⟩ : ∃ m, n = m + 1 := ⟨n - 1, by omega⟩
      refine ⟨w.setRow g (List.replicate (m + 1) (Value.bool false) ++ cur.toList.drop (m + 1)).toArray, fun ty => ?_, ?_, setRow_facts w g _, fun b hb => setRow_other w g b _ (fun e => hb (by subst e; rfl))⟩
      rotate_left
      · refine ⟨by rw [Nat.mul_one]; exact hl, .inr ⟨g, cap, _, rfl, hB, setRow_heap w g cur _ 4 (0, 0) hg, h1, h2, ?_, ?_⟩⟩
        · simp only [List.size_toArray, List.length_append, List.length_drop, Array.length_toList, hl]
          omega
        · simp only [Nat.mul_one]
          exact List.take_left' hl
      · have hzc : (Builtin.zeroCells (Value.bool false).cells (m + 1)).toList = List.replicate (m + 1) (Value.bool false) := by
          rw [show (Value.bool false).cells = #[.bool false] from rfl, zeroCells_one, Array.toList_replicate]
        simp [Builtin.clear_, run_underlying Try.underlying52, hv, hzc, hst]
theorem HeapR.clearB (h : HeapR n0 w H most ws bs ss) : ∃ w', (∀ ty, (Builtin.clear_ #[52] ty #[H.bv]).run Try.prog w = .ok (.tuple #[]) w') ∧ HeapR n0 w' H most ws (List.replicate bs.length false) ss ∧ HStep H H w w' := by
  obtain ⟨w', h1, h2, h3, h4⟩ := run_clear_own h.bo
  refine ⟨w', h1, ?_⟩
  cases hg : H.bv.ownBlock with
  | none =>
    have hk : ∀ b, w'.heap[b]? = w.heap[b]? := fun b => h4 b (by rw [hg]; simp)
    have hr := h.kept (w' := w') (fun b _ => hk b)
    refine ⟨⟨hr.lo, hr.lom, hr.box, hr.wo, ?_, hr.so, hr.map⟩, ⟨h3.1, h3.2.1, h3.2.2.1, by omega, fun b _ _ => hk b, rfl, fun _ e => .inl e⟩⟩
    rw [List.length_replicate, show tcells (List.replicate bs.length false) = List.replicate bs.length (.bool false) by simp [tcells]]
    exact h2
  | some g =>
    refine h.turnB (g := g) hg h3 (fun b hb => h4 b (by rw [hg]; simpa using Ne.symm hb)) ?_
    rw [List.length_replicate, show tcells (List.replicate bs.length false) = List.replicate bs.length (.bool false) by simp [tcells]]
    exact h2
set_option maxRecDepth 8000 in
set_option maxHeartbeats 4000000 in
theorem cut_any (h : HeapR n0 w H most ws bs ss) (hl : ws.length = bs.length) (hwl : ws.length ≤ 16384) (ob : List Ob) (hu : usedN ob ≤ ws.length) (vn : Value) (hv : KV w H vn (begs 0 ob)) :
    Calls Try.prog 59 #[H.ptr, .int .i64 (usedN ob : Int), vn] w fun e w' => (∃ u, e = .returned u) ∧ ∃ H', HeapR n0 w' H' most (ws.take (usedN ob)) (bsL ob) ss ∧ HStep H H' w w' := by
  obtain ⟨aw, cw, ew⟩ := own_slice h.wo
  obtain ⟨ab, cb, eb⟩ := own_slice h.bo
  have hcw := h.wo
  have hcb := h.bo
  rw [ew] at hcw
  rw [eb] at hcb
  have g1 := (own_cap hcw).1
  have g2 := (own_cap hcb).1
  have c1 : w.cell? ⟨H.hb, 1, none⟩ = some H.wv := h.box.cell 1
  have c2 : w.cell? ⟨H.hb, 2, none⟩ = some H.bv := h.box.cell 2
  have f1 : w.frozen? ⟨H.hb, 1, none⟩ = false := h.box.frozen 1
  have f2 : w.frozen? ⟨H.hb, 2, none⟩ = false := h.box.frozen 2
  rw [ew] at c1
  rw [eb] at c2
  obtain ⟨ao, cap, rfl, hc, hm, _⟩ := hv _ _ (HStep.refl H w)
  unfold maxLen at hm
  have HVk := hidIt hv
  have A1 := h.trimW ew hu
  have A2 := A1.1.trimB eb (by omega : usedN ob ≤ bs.length)
  have R1 := hidIt (And.intro A2.1 (A1.2.trans A2.2))
  have b1 : (usedN ob : Int) ≤ (cw : Int) := by omega
  have b2 : (usedN ob : Int) ≤ (cb : Int) := by omega
  have hbl := begs_len ob 0
  have hbt : (bs.take (usedN ob)).length = usedN ob := by rw [List.length_take]; omega
  have HBT := hidIt hbt
  have HV2 : Hid (∀ (k : Nat) x, (begs 0 ob)[k]? = some x → ∃ h : k < ob.length, x = (usedN (ob.take k) : Int) + 1 ∧ usedN (ob.take k) < usedN ob) := hidIt (fun k x hx => by
    have hk : k < ob.length := by rw [← begs_len ob 0]; exact (List.getElem?_eq_some_iff.1 hx).1
    rw [begs_at ob 0 k hk] at hx
    cases hx
    have := usedN_take ob k ob[k] (List.getElem?_eq_getElem hk)
    exact ⟨hk, by rw [Nat.zero_add], by omega⟩)
  clear A1 A2 h hv hcw hcb hbt
  unfold HB.ptr
  generalize hUe : usedN ob = U at *
  go_enter Try.func59, Try.ntmps59
  go_wp2_with fail
  go_region
  have R3 : Hid (HeapR n0 ((w.setCell ⟨H.hb, 1, none⟩ (.slice aw U cw)).setCell ⟨H.hb, 2, none⟩ (.slice ab U cb)).drew { { H with wv := .slice aw U cw } with bv := .slice ab U cb } most (ws.take U) (bs.take U) ss ∧ HStep H { { H with wv := .slice aw U cw } with bv := .slice ab U cb } w ((w.setCell ⟨H.hb, 1, none⟩ (.slice aw U cw)).setCell ⟨H.hb, 2, none⟩ (.slice ab U cb)).drew) := hidIt (by
    obtain ⟨a, b⟩ := R1.out
    exact ⟨a.kept (fun _ _ => rfl), ⟨b.os, b.tape, b.output, b.size, b.block, b.hb, b.moved⟩⟩)
  generalize ((w.setCell ⟨H.hb, 1, none⟩ (.slice aw U cw)).setCell ⟨H.hb, 2, none⟩ (.slice ab U cb)).drew = X at *
  clear R1 c1 c2 f1 f2
  obtain ⟨W2, hcl, hr2, hs2⟩ := R3.out.1.clearB
  simp only at hcl
  rw [HBT.out] at hr2
  have S2 := hidIt (R3.out.2.trans hs2)
  have HR2 := hidIt hr2
  have x2 : X.cell? ⟨H.hb, 2, none⟩ = some (.slice ab U cb) := R3.out.1.box.cell 2
  obtain ⟨H2, hH2⟩ : ∃ H2 : HB, H2 = { { H with wv := .slice aw U cw } with bv := .slice ab U cb } := ⟨_, rfl⟩
  have eb2 : H2.bv = .slice ab U cb := by rw [hH2]
  have eh2 : H2.hb = H.hb := by rw [hH2]
  rw [← hH2] at S2 HR2
  have HE2 := hidIt eb2
  have HH2 := hidIt eh2
  clear hr2 hs2 R3 eb2 eh2 hH2
  go_wp2_with fail
  clear hcl x2
  go_loopw [32] (fun iv wr => ∃ (k : Nat) (bk : List Bool), k ≤ ob.length ∧ iv = .int .i64 (k : Int) ∧ Mkd ob bk k ∧ HeapR n0 wr H2 most (ws.take U) bk ss ∧ HStep H H2 w wr) (fun iv _ => ob.length - (intOf iv).toNat)
  case atStart => exact ⟨0, _, Nat.zero_le _, rfl, by rw [← hUe]; exact Mkd.start ob, HR2.out, S2.out⟩
  case round =>
    clear HR2 S2
    obtain ⟨k, bk, hk, rfl, hmk, hr, hst⟩ := hrel
    have HM := hidIt hmk
    have HR := hidIt hr
    have HS := hidIt hst
    clear hmk hr hst
    by_cases hlt : k < ob.length
    · have hlt' : (k : Int) < (ob.length : Int) := by omega
      obtain ⟨v, hx⟩ : ∃ v, (begs 0 ob)[k]? = some v := ⟨(begs 0 ob)[k]'(by rw [hbl]; exact hlt), List.getElem?_eq_getElem _⟩
      obtain ⟨g, off, rfl, c0⟩ := (HVk.out _ _ HS.out).row hx
      obtain ⟨-, rfl, hq⟩ := HV2.out k _ hx
      have hbk := HM.out.len
      rw [hUe] at hbk
      have y2 : wr.cell? ⟨H.hb, 2, none⟩ = some (.slice ab U cb) := by rw [← HH2.out, ← HE2.out]; exact HR.out.box.cell 2
      have hbo := HR.out.bo
      rw [HE2.out] at hbo
      obtain ⟨z, hz⟩ : ∃ z, bk[usedN (ob.take k)]? = some z := ⟨bk[usedN (ob.take k)]'(by omega), List.getElem?_eq_getElem _⟩
      rw [hbk] at hbo
      obtain ⟨g5, rfl, -, -, c5, f5⟩ := own_cell hbo (tcells_at hz)
      have NX := hidIt (And.intro (HM.out.step hlt) (HR.out.setB (j := usedN (ob.take k)) HE2.out true))
      clear hbo hx hz hbk HM
      generalize usedN (ob.take k) = q at *
      have hq' : (q : Int) < (U : Int) := by omega
      have hq2 : (q : Int) + 1 ≤ 16384 := by omega
      go_wp2_with fail
      exact ⟨⟨k + 1, _, by omega, by go_num, NX.out.1, NX.out.2.1, HS.out.trans NX.out.2.2⟩, by simp [intOf]; omega⟩
    · have hlt' : ¬ (k : Int) < (ob.length : Int) := by omega
      obtain rfl : k = ob.length := by omega
      have e := hidIt HM.out.end_
      go_wp2_with fail
      go_end0
      exact ⟨⟨_, rfl⟩, H2, by rw [← e.out]; exact HR.out, HS.out⟩
end Go.Proofs.Ytbdeflpjplhafaa.J

