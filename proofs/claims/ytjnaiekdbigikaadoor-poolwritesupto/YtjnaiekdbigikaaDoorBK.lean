/- Roomy and Intact over constants: walked. -/
import Derived.Test.YtjnaiekdbigikaaDoorPH
import Derived.Laws.CopyRow
import Derived.Laws.CopyOwn
import Derived.Deep.MidRow
import Derived.Deep.QuietTactic
import Derived.BigQuiet
namespace Go.Proofs.YtjnaiekdbigikaaDoor
open Go.RowKit

theorem crun_copy (w : World) (ty : TypeId) (g dLen dCap : Nat) (a : Addr) (sLen sCap : Nat) (cur : Array Value) (cs : List Value)
    (hg : w.heap[g]? = some (.cells cur 30 (0, 0))) (hn : cs.length = sLen * 5) (hsd : sLen ≤ dLen)
    (hsrc : ∀ j v, cs[j]? = some v → w.cell? (a.add j) = some v) (hfit : cs.length ≤ cur.size) (h1 : ∀ v ∈ cs, v.oneCell' = true) :
    (Builtin.copy_ #[26, 26] ty #[.slice (some ⟨g, 0, none⟩) dLen dCap, .slice (some a) sLen sCap]).run Tryd.prog w =
      .ok (goInt sLen) (w.setRow g (cs ++ cur.toList.drop cs.length).toArray) := by
  obtain ⟨i0, hi, hz0, hz1, hz2⟩ := info_parts Tryd.info30
  have hl := run_loadCells_list (P := Tryd.prog) w a cs hsrc
  have hst := run_storeCells_at Tryd.prog g 0 30 cs 0 cur w hg (by simpa using hfit) h1
  have hmin : min sLen dLen = sLen := by omega
  simp only [Nat.zero_add, List.take_zero, List.nil_append] at hst
  simp [Builtin.copy_, run_underlying Tryd.underlying26, Builtin.lenOf, Builtin.firstCells, sizeOf, typeInfo, hi, hz1, hmin, ← hn, hl, hst]

theorem put_row {w : World} {B g n cap : Nat} {l : List CD} {c : CD} (h : w.ownsRow B 30 5 (.slice (some ⟨g, 0, none⟩) n cap) n (ccells l)) (hn : n < cap) :
    (((((w.setCell ⟨g, n * 5, none⟩ (.int .i64 c.kind)).setCell ⟨g, n * 5 + 1, none⟩ (.int .i32 c.n)).setCell ⟨g, n * 5 + 2, none⟩ (.string c.cls)).setCell ⟨g, n * 5 + 3, none⟩ (.string c.nm)).setCell ⟨g, n * 5 + 4, none⟩ (.string c.dsc)).ownsRow B 30 5 (.slice (some ⟨g, 0, none⟩) (n + 1) cap) (n + 1) (ccells (l ++ [c])) := by
  obtain ⟨hl, h⟩ := h
  rcases h with ⟨h, _⟩ | ⟨g', cap', cur, e, hB, hg, hnc, hcm, hcs, ht⟩
  · cases h
  · cases e
    refine ⟨by rw [ccells_append, List.length_append, hl]; simp [ccells, CD.cells]; omega, .inr ⟨g, cap, _, rfl, hB, gset_row (gset_row (gset_row (gset_row (gset_row hg)))), by omega, hcm, by simpa using hcs, ?_⟩⟩
    rw [ccells_append]
    apply List.ext_getElem?
    intro i
    rw [List.getElem?_take]
    have hsz : (n + 1) * 5 ≤ cur.size := by rw [hcs]; exact Nat.mul_le_mul_right 5 (by omega)
    by_cases h1 : i < n * 5
    · rw [if_pos (by omega), List.getElem?_append_left (by omega), ← ht, List.getElem?_take, if_pos h1]
      simp only [Array.getElem?_toList, Array.getElem?_setIfInBounds]
      rw [if_neg (by omega), if_neg (by omega), if_neg (by omega), if_neg (by omega), if_neg (by omega)]
    · rw [List.getElem?_append_right (by omega), hl]
      by_cases h2 : i < (n + 1) * 5
      · rw [if_pos h2]
        obtain ⟨r, rfl⟩ : ∃ r, i = n * 5 + r := ⟨i - n * 5, by omega⟩
        have hr : r < 5 := by omega
        rw [Nat.add_sub_cancel_left]
        simp only [Array.getElem?_toList, Array.getElem?_setIfInBounds, Array.size_setIfInBounds]
        match r, hr with
        | 0, _ => simp [ccells, CD.cells]; omega
        | 1, _ => simp [ccells, CD.cells]; omega
        | 2, _ => simp [ccells, CD.cells]; omega
        | 3, _ => simp [ccells, CD.cells]; omega
        | 4, _ => simp [ccells, CD.cells]; omega
        | r + 5, h => omega
      · rw [if_neg h2]
        symm
        apply List.getElem?_eq_none
        simp [ccells, CD.cells]; omega
theorem put_below {w : World} {B g o : Nat} {a b c d e : Value} (hB : B ≤ g) : Below B w (((((w.setCell ⟨g, o, none⟩ a).setCell ⟨g, o + 1, none⟩ b).setCell ⟨g, o + 2, none⟩ c).setCell ⟨g, o + 3, none⟩ d).setCell ⟨g, o + 4, none⟩ e) := by
  have s : ∀ (w : World) (o : Nat) (u : Value), Below B w (w.setCell ⟨g, o, none⟩ u) := fun w o u => ⟨rfl, rfl, rfl, by simp [World.setCell], fun k hk => Below.heap_setCell _ _ _ _ (fun e => by simp only at e; omega)⟩
  exact ((((s _ _ _).trans (s _ _ _)).trans (s _ _ _)).trans (s _ _ _)).trans (s _ _ _)

theorem cmake (n : Nat) (hn : n * 64 ≤ 281474976710656) : ∃ cs : Array Value, cs.size = n * 5 ∧ ∀ wx : World, (Instr.makeSlice 26 (.int .i64 (n : Int)) (.int .i64 (n : Int))).run Tryd.prog wx = .ok (.slice (some ⟨wx.heap.size, 0, none⟩) n n) (wx.alloc (.cells cs 30)) := by
  obtain ⟨i0, hi, hz0, hz1, hz2⟩ := info_parts Tryd.info30
  refine ⟨_, size_madeCells zeroC.val.cells (n * 5), fun wx => ?_⟩
  have := run_make (P := Tryd.prog) wx 26 30 i0 zeroC.val Tryd.underlying26 hi hz0 .i64 .i64 n n (by omega) (Int.le_refl _) (by rw [hz2]; omega) (by omega)
  rw [hz1] at this
  simpa only [Int.toNat_natCast] using this

/-- The copy of a list into new room: what lies there then. -/
theorem copy_into (w : World) (v : Value) (l : List CD) (hv : CView w v l) (B g cap : Nat) (cur : Array Value) (hg : w.heap[g]? = some (.cells cur 30 (0, 0))) (hB : B ≤ g) (hcap : l.length ≤ cap) (hm : cap ≤ maxLen) (hs : cur.size = cap * 5) (ty : TypeId) :
    ∃ n w', (Builtin.copy_ #[26, 26] ty #[.slice (some ⟨g, 0, none⟩) cap cap, v]).run Tryd.prog w = .ok n w' ∧ w'.ownsRow B 30 5 (.slice (some ⟨g, 0, none⟩) l.length cap) l.length (ccells l) ∧ Below g w w' := by
  obtain ⟨i0, hi, hz0, hz1, hz2⟩ := info_parts Tryd.info30
  obtain ⟨ao, vcap, rfl, hc, _, _, hl⟩ := hv
  rcases hl with rfl | ⟨g', off, rfl, hl⟩
  · refine ⟨goInt 0, w, ?_, ⟨rfl, .inr ⟨g, cap, cur, rfl, hB, hg, Nat.zero_le _, hm, hs, by simp [ccells]⟩⟩, Below.refl _ _⟩
    cases ao <;> simp [Builtin.copy_, run_underlying Tryd.underlying26, Builtin.lenOf, Builtin.firstCells, sizeOf, typeInfo, hi, storeCells, loadCells, loadCellsFrom]
  · have hcl := ccells_len l
    have hr := crun_copy w ty g cap cap ⟨g', off, none⟩ l.length vcap cur (ccells l) hg hcl hcap hl.cells (by rw [hcl, hs]; exact Nat.mul_le_mul_right 5 hcap) (ccells_one l)
    refine ⟨_, _, hr, ⟨hcl, .inr ⟨g, cap, _, rfl, hB, setRow_heap w g cur _ 30 _ hg, hcap, hm, ?_, ?_⟩⟩, ⟨rfl, rfl, rfl, by simp [World.setRow], fun k hk => setRow_other w g k _ (by omega)⟩⟩
    · have := Nat.mul_le_mul_right 5 hcap
      simp [hcl, hs]; omega
    · show (ccells l ++ List.drop (ccells l).length cur.toList).take (l.length * 5) = ccells l
      rw [← hcl]; exact List.take_left

theorem wpList_copy_into {w : World} {ops : Array Oper} {rest : List Oper} {o : Oper} {a : Act} {Q : Exit → Act → World → Prop} (hgd : o.guard = none) (d s : Operand)
    (ho : o.op = .call { callee := .builtin .copy, args := #[d, s], argTypes := #[26, 26] }) (v : Value) (l : List CD) (hv : CView w v l) (B g cap : Nat) (cur : Array Value) (hd : a.eval d = .slice (some ⟨g, 0, none⟩) cap cap) (hs : a.eval s = v)
    (hg : w.heap[g]? = some (.cells cur 30 (0, 0))) (hB : B ≤ g) (hcap : l.length ≤ cap) (hm : cap ≤ maxLen) (hz : cur.size = cap * 5)
    (h : ∀ n w', w'.ownsRow B 30 5 (.slice (some ⟨g, 0, none⟩) l.length cap) l.length (ccells l) → Below g w w' → wpList Tryd.prog ops Q rest (a.put o.dst n) w') : wpList Tryd.prog ops Q (o :: rest) a w := by
  refine wpList_plain hgd fun K hK => ?_
  obtain ⟨n, w', hr, h2, h3⟩ := copy_into w v l hv B g cap cur hg hB hcap hm hz o.type
  unfold Oper.wp execOp
  simp only [ho, resolve, invoke, builtin, Sem.run_bind, Sem.run_pure, Result.andThen_ok, List.map_toArray, List.map_cons, List.map_nil, hd, hs, hr]
  exact hK _ _ (h n w' h2 h3)

/-- What Roomy makes. -/
def roomyC (l : List CD) (m : CD) : List CD := l ++ List.replicate 80 m
theorem roomyC_len (l : List CD) (m : CD) : (roomyC l m).length = l.length + 80 := by simp [roomyC]

set_option maxRecDepth 8000 in
set_option maxHeartbeats 4000000 in
theorem croomy_any (v : Value) (l : List CD) (m : CD) (w : World) (hv : CView w v l) (hlen : l.length * 64 ≤ 70368744177664) :
    Calls Tryd.prog 17 #[v, m.val] w fun e w' => Below w.heap.size w w' ∧ e = .returned (.slice (some ⟨w.heap.size + 1, 0, none⟩) (l.length + 80) (l.length + 80)) ∧ w'.ownsRow w.heap.size 30 5 (.slice (some ⟨w.heap.size + 1, 0, none⟩) (l.length + 80) (l.length + 80)) (l.length + 80) (ccells (roomyC l m)) := by
  have hbx := box_at w m
  have b1 : Below w.heap.size w (w.alloc (.cells #[.int .i64 m.kind, .int .i32 m.n, .string m.cls, .string m.nm, .string m.dsc] 30)) := (Below.refl _ _).alloc (Nat.le_refl _) _
  have hv1 := hv.below b1
  have hz1' : (w.alloc (.cells #[.int .i64 m.kind, .int .i32 m.n, .string m.cls, .string m.nm, .string m.dsc] 30)).heap.size = w.heap.size + 1 := by simp
  obtain ⟨cs, hcs, hmk⟩ := cmake (l.length + 80) (by omega)
  rw [show ((l.length + 80 : Nat) : Int) = (l.length : Int) + 80 by omega] at hmk
  obtain ⟨ao, cap, rfl, hc, hm, _, _⟩ := id hv1
  unfold maxLen at hm
  unfold CD.val
  have b2 : Below (w.heap.size + 1) (w.alloc (.cells #[.int .i64 m.kind, .int .i32 m.n, .string m.cls, .string m.nm, .string m.dsc] 30)) ((w.alloc (.cells #[.int .i64 m.kind, .int .i32 m.n, .string m.cls, .string m.nm, .string m.dsc] 30)).alloc (.cells cs 30)) := (Below.refl _ _).alloc (by omega) _
  have hg2 := heap_alloc_new (w.alloc (.cells #[.int .i64 m.kind, .int .i32 m.n, .string m.cls, .string m.nm, .string m.dsc] 30)) (.cells cs 30)
  have hv2 := hv1.below (by rw [hz1']; exact b2)
  rw [hz1'] at hg2
  obtain ⟨nn, w3, hcp, o3, b3⟩ := copy_into _ _ l hv2 w.heap.size (w.heap.size + 1) (l.length + 80) cs hg2 (by omega) (by omega) (by unfold maxLen; omega) hcs 3
  have C3 : CAt w3 w.heap.size 0 m := (hbx.block (b2.block w.heap.size (by omega))).block (b3.block w.heap.size (by omega))
  have B3 : Below w.heap.size w w3 := b1.trans ((b2.mono (by omega)).trans (b3.mono (by omega)))
  clear hv2 hg2 b2 b3 hv1 b1 hbx
  go_enter Tryd.func17, Tryd.ntmps17
  go_wp2
  go_loopw [6] (fun i wr => ∃ (k j : Nat), i = .int .i64 (j : Int) ∧ (l.length + k ≤ j ∧ j ≤ l.length + k) ∧ k ≤ 80 ∧ Below w.heap.size w wr ∧ CAt wr w.heap.size 0 m ∧ wr.ownsRow w.heap.size 30 5 (.slice (some ⟨w.heap.size + 1, 0, none⟩) j (l.length + 80)) j (ccells (l ++ List.replicate k m))) (fun i _ => l.length + 80 - (intOf i).toNat)
  case atStart => exact ⟨0, l.length, rfl, by omega, by omega, B3, C3, by simpa using o3⟩
  case round =>
    clear C3 B3 o3 hcp
    obtain ⟨k, j, rfl, hj, hk, hbw, hC, hO⟩ := hrel
    by_cases hlt : k < 80
    · have h1 : (j : Int) < (l.length : Int) + 80 := by omega
      have hj8 : j < l.length + 80 := by omega
      have HP := D.hidIt (put_row (c := m) hO hj8)
      obtain ⟨cur, hg, hsz⟩ : ∃ cur, wr.heap[w.heap.size + 1]? = some (.cells cur 30 (0, 0)) ∧ cur.size = (l.length + 80) * 5 := by
        rcases hO.2 with ⟨e, _⟩ | ⟨g, cap, cur, e, _, hg, _, _, hs, _⟩
        · cases e
        · cases e; exact ⟨cur, hg, hs⟩
      have hcl : ∀ r, r < 5 → ∃ u, wr.cell? ⟨w.heap.size + 1, j * 5 + r, none⟩ = some u := by
        intro r hr
        rw [cell_of_row wr _ _ cur 30 (0, 0) hg]
        have : j * 5 + r < cur.size := by rw [hsz]; omega
        exact ⟨cur[j * 5 + r], by simp [this]⟩
      obtain ⟨u0, q0⟩ := hcl 0 (by omega)
      obtain ⟨u1, q1⟩ := hcl 1 (by omega)
      obtain ⟨u2, q2⟩ := hcl 2 (by omega)
      obtain ⟨u3, q3⟩ := hcl 3 (by omega)
      obtain ⟨u4, q4⟩ := hcl 4 (by omega)
      rw [Nat.add_zero] at q0
      have fz : ∀ x, wr.frozen? ⟨w.heap.size + 1, x, none⟩ = false := fun x => frozen_row hg x
      obtain ⟨c0, c1, c2, c3, c4⟩ := id hC
      have HB := D.hidIt (put_below (w := wr) (B := w.heap.size + 1) (g := w.heap.size + 1) (o := j * 5) (a := .int .i64 m.kind) (b := .int .i32 m.n) (c := .string m.cls) (d := .string m.nm) (e := .string m.dsc) (Nat.le_refl _))
      have ht : wr.there (w.heap.size + 1) (j * 5) 5 := fun r hr => by
        obtain ⟨u, hu⟩ := hcl r hr
        exact ⟨by rw [hu]; rfl, frozen_row hg _⟩
      have h15 : (#[.int .i64 m.kind, .int .i32 m.n, .string m.cls, .string m.nm, .string m.dsc] : Array Value).all (·.oneCell') = true :=
        all_oneCell_toArray (cs := m.cells) (by intro v hv; simp [CD.cells] at hv; rcases hv with rfl | rfl | rfl | rfl | rfl <;> rfl)
      have hi5 : (Tryd.prog.info? 30).map (·.size) = some 5 := by kernel_rfl
      have HE : Hid (wr.setCells (w.heap.size + 1) (j * 5) [.int .i64 m.kind, .int .i32 m.n, .string m.cls, .string m.nm, .string m.dsc] = ((((wr.setCell ⟨w.heap.size + 1, j * 5, none⟩ (.int .i64 m.kind)).setCell ⟨w.heap.size + 1, j * 5 + 1, none⟩ (.int .i32 m.n)).setCell ⟨w.heap.size + 1, j * 5 + 2, none⟩ (.string m.cls)).setCell ⟨w.heap.size + 1, j * 5 + 3, none⟩ (.string m.nm)).setCell ⟨w.heap.size + 1, j * 5 + 4, none⟩ (.string m.dsc)) := rfl
      rw [← HE.out] at HP HB
      clear q0 q1 q2 q3 q4 fz hO hcl hg
      go_wp2_with (refine wpList_store_mid rfl 30 (.tmp 25) (.tmp 24) rfl (w.heap.size + 1) (j * 5) #[.int .i64 m.kind, .int .i32 m.n, .string m.cls, .string m.nm, .string m.dsc] rfl rfl ht hi5 h15 ?_; rw [show (#[.int .i64 m.kind, .int .i32 m.n, .string m.cls, .string m.nm, .string m.dsc] : Array Value).toList = [.int .i64 m.kind, .int .i32 m.n, .string m.cls, .string m.nm, .string m.dsc] from rfl]; generalize wr.setCells (w.heap.size + 1) (j * 5) [.int .i64 m.kind, .int .i32 m.n, .string m.cls, .string m.nm, .string m.dsc] = w9 at *)
      refine ⟨⟨k + 1, j + 1, by go_num, by omega, by omega, hbw.trans (HB.out.mono (by omega)), hC.block (HB.out.block w.heap.size (by omega)), ?_⟩, by simp [intOf]; omega⟩
      rw [List.replicate_succ', ← List.append_assoc]
      exact HP.out
    · have h1 : ¬ (j : Int) < (l.length : Int) + 80 := by omega
      obtain rfl : k = 80 := by omega
      obtain rfl : j = l.length + 80 := by omega
      go_wp2
      go_ret
      exact ⟨hbw, rfl, hO⟩

set_option maxRecDepth 8000 in
set_option maxHeartbeats 4000000 in
theorem cintact_any (vf vw : Value) (l : List CD) (m : CD) (w : World) (hf : CView w vf (roomyC l m)) (hw : CView w vw l) :
    Calls Tryd.prog 24 #[vf, vw, m.val] w fun e w' => e = .returned (.bool true) ∧ Below w.heap.size w w' := by
  have hbx := box_at w m
  have b1 : Below w.heap.size w (w.alloc (.cells #[.int .i64 m.kind, .int .i32 m.n, .string m.cls, .string m.nm, .string m.dsc] 30)) := (Below.refl _ _).alloc (Nat.le_refl _) _
  have hf1 := hf.below b1
  have hw1 := hw.below b1
  obtain ⟨aof, capf, rfl, hcf, hmf, _, hlf⟩ := id hf1
  obtain ⟨aow, capw, rfl, hcw, hmw, _, _⟩ := id hw1
  unfold maxLen at hmf hmw
  have hT := gview_take (n := l.length) hf1 (by rw [roomyC_len]; omega)
  rw [show (roomyC l m).take l.length = l by unfold roomyC; exact List.take_left] at hT
  have HS := D.hidIt (csame_any _ _ l _ hT hw1)
  have hRl := roomyC_len l m
  have HRR : Hid (∀ k, l.length ≤ k → k < l.length + 80 → (roomyC l m)[k]? = some m) := by
    intro k h1 h2
    unfold roomyC
    rw [List.getElem?_append_right h1, List.getElem?_replicate, if_pos (by omega)]
  generalize roomyC l m = R at *
  generalize hRn : R.length = rn at *
  subst hRl
  have hcf' : ((l.length : Int)) ≤ (capf : Int) := by omega
  unfold CD.val
  clear hf hw hT
  go_enter Tryd.func24, Tryd.ntmps24
  go_wp2_with fail
  generalize w.alloc (.cells #[.int .i64 m.kind, .int .i32 m.n, .string m.cls, .string m.nm, .string m.dsc] 30) = W1 at *
  refine HS.out.mono ?_
  rintro e w2 ⟨rfl, q2, rfl⟩
  go_wp2
  go_loopw [7] (fun i wr => ∃ k q : Nat, i = .int .i64 (k : Int) ∧ l.length ≤ k ∧ k ≤ l.length + 80 ∧ wr = W1.drewN q) (fun i _ => l.length + 80 - (intOf i).toNat)
  case atStart => exact ⟨l.length, q2, rfl, by omega, by omega, rfl⟩
  case round =>
    obtain ⟨k, q, rfl, hk1, hk2, rfl⟩ := hrel
    by_cases hlt : k < l.length + 80
    · have h1 : (k : Int) < (l.length : Int) + 80 := by omega
      obtain ⟨g, off, rfl, hla⟩ : ∃ g off, aof = some ⟨g, off, none⟩ ∧ CLies W1 g off R := by
        rcases hlf with e | h
        · rw [e] at hRn; simp at hRn
        · exact h
      have hd := hla k m (HRR.out k hk1 hlt)
      obtain ⟨d0, d1, d2, d3, d4⟩ := hd
      obtain ⟨c0, c1, c2, c3, c4⟩ := id hbx
      clear hla hlf
      go_wp2
      go_quiet (fail)
      go_wp2
      exact ⟨⟨k + 1, _, by go_num, by omega, by omega, rfl⟩, by simp [intOf]; omega⟩
    · have h1 : ¬ (k : Int) < (l.length : Int) + 80 := by omega
      go_wp2
      go_ret
      exact ⟨rfl, below_drewN b1 _⟩
end Go.Proofs.YtjnaiekdbigikaaDoor
