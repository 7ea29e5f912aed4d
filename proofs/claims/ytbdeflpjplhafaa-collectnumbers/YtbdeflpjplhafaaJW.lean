/- move: walked. -/
import Derived.Test.YtbdeflpjplhafaaJV
namespace Go.Proofs.Ytbdeflpjplhafaa.J
open Go.RowKit Go.MapKept Go.ChangeMaps
set_option linter.unusedVariables false

variable {n0 : Nat} {w : World} {H : HB} {most : Nat} {ws : List Int} {bs : List Bool} {ss : List (List Bool)}
/-- The words' block is turned, and nothing else. -/
theorem HeapR.turnW (h : HeapR n0 w H most ws bs ss) {g : Nat} (hg : H.wv.ownBlock = some g) {w' : World} (hs : w'.os = w.os ∧ w'.tape = w.tape ∧ w'.output = w.output ∧ w'.heap.size = w.heap.size) (hk : ∀ b, b ≠ g → w'.heap[b]? = w.heap[b]?) {ws' : List Int} (hme : w'.ownsRow n0 2 1 H.wv ws'.length (icells ws')) :
    HeapR n0 w' H most ws' bs ss ∧ HStep H H w w' := by
  have hbox := h.box.kept (hk _ (fun e => own_not h.wo h.box (by decide) (e ▸ hg)))
  have hso := own_kept h.so (fun b e => hk b (fun e' => own_apart h.wo h.so (by decide) hg (e' ▸ e)))
  have hmap := h.map.kept (hk _ (fun e => own_notM h.wo h.map (e ▸ hg)))
  have hot := own_kept h.bo (fun b e => hk b (fun e' => own_apart h.wo h.bo (by decide) hg (e' ▸ e)))
  obtain ⟨h1, h2, h3, h4⟩ := hs
  exact ⟨⟨h.lo, h.lom, hbox, hme, hot, hso, hmap⟩, h1, h2, h3, by omega, fun b _ hn => hk b (fun e => hn (.inr (.inr (.inl (e ▸ hg))))), rfl, fun _ e => .inl e⟩
theorem HeapR.turnB (h : HeapR n0 w H most ws bs ss) {g : Nat} (hg : H.bv.ownBlock = some g) {w' : World} (hs : w'.os = w.os ∧ w'.tape = w.tape ∧ w'.output = w.output ∧ w'.heap.size = w.heap.size) (hk : ∀ b, b ≠ g → w'.heap[b]? = w.heap[b]?) {bs' : List Bool} (hme : w'.ownsRow n0 4 1 H.bv bs'.length (tcells bs')) :
    HeapR n0 w' H most ws bs' ss ∧ HStep H H w w' := by
  have hbox := h.box.kept (hk _ (fun e => own_not h.bo h.box (by decide) (e ▸ hg)))
  have hso := own_kept h.so (fun b e => hk b (fun e' => own_apart h.bo h.so (by decide) hg (e' ▸ e)))
  have hmap := h.map.kept (hk _ (fun e => own_notM h.bo h.map (e ▸ hg)))
  have hot := own_kept h.wo (fun b e => hk b (fun e' => own_apart h.bo h.wo (by decide) hg (e' ▸ e)))
  obtain ⟨h1, h2, h3, h4⟩ := hs
  exact ⟨⟨h.lo, h.lom, hbox, hot, hme, hso, hmap⟩, h1, h2, h3, by omega, fun b _ hn => hk b (fun e => hn (.inr (.inr (.inr (.inl (e ▸ hg)))))), rfl, fun _ e => .inl e⟩
theorem setRow_facts (w : World) (g : Nat) (cs : Array Value) : (w.setRow g cs).os = w.os ∧ (w.setRow g cs).tape = w.tape ∧ (w.setRow g cs).output = w.output ∧ (w.setRow g cs).heap.size = w.heap.size := ⟨rfl, rfl, rfl, by simp [World.setRow]⟩
theorem HeapR.moveW (h : HeapR n0 w H most ws bs ss) {g U cap : Nat} (ew : H.wv = .slice (some ⟨g, 0, none⟩) U cap) {q p m : Nat} (hq : q + m ≤ U) (hp : p + m ≤ U) :
    U = ws.length ∧ ∃ cur : Array Value, w.heap[g]? = some (.cells cur 2 (0, 0)) ∧ U ≤ cur.size ∧ HeapR n0 (w.setRow g (cur.toList.take q ++ icells ((ws.drop p).take m) ++ cur.toList.drop (q + m)).toArray) H most (mvW ws q p m) bs ss ∧ HStep H H w (w.setRow g (cur.toList.take q ++ icells ((ws.drop p).take m) ++ cur.toList.drop (q + m)).toArray) := by
  have ho := h.wo
  obtain ⟨ao, cap', e'⟩ := own_slice ho
  obtain ⟨rfl, rfl⟩ : U = ws.length ∧ cap' = cap := by rw [ew] at e'; cases e'; exact ⟨rfl, rfl⟩
  rw [ew] at ho
  rcases ho.2 with ⟨e1, _⟩ | ⟨g', cap'', cur, e1, hB, hg, h1, h2, h3, h4⟩
  · cases e1
  · cases e1
    have hcs : cur.size = cap' := by simpa using h3
    refine ⟨rfl, cur, hg, by omega, ?_⟩
    have hml : (icells ((ws.drop p).take m)).length = m := by simp [icells]; omega
    refine h.turnW (g := g) (by rw [ew]; rfl) (setRow_facts w g _) (fun b hb => setRow_other w g b _ hb) ?_
    rw [mvW_len hq hp, ew]
    refine ⟨by simp [icells, mvW_len hq hp], .inr ⟨g, _, _, rfl, hB, setRow_heap w g cur _ 2 (0, 0) hg, h1, h2, ?_, ?_⟩⟩
    · simp only [List.size_toArray, List.length_append, List.length_take, List.length_drop, Array.length_toList, hml]
      omega
    · simp only [Nat.mul_one] at h4 ⊢
      have ht : cur.toList.take ws.length = icells ws := h4
      have t1 : cur.toList.take q = icells (ws.take q) := by
        have := congrArg (List.take q) ht
        rw [List.take_take, Nat.min_eq_left (by omega)] at this
        rw [this]; simp [icells, List.map_take]
      have t2 : (cur.toList.drop (q + m)).take (ws.length - (q + m)) = icells (ws.drop (q + m)) := by
        have := congrArg (List.drop (q + m)) ht
        rw [List.drop_take] at this
        rw [this]; simp [icells, List.map_drop]
      have hl1 : (cur.toList.take q ++ icells ((ws.drop p).take m)).length = q + m := by rw [List.length_append, hml, List.length_take, Array.length_toList]; omega
      rw [List.take_append, hl1, t2, List.take_of_length_le (by rw [hl1]; omega), t1]
      simp [icells, mvW]
theorem is_raw (h : HeapR n0 w H most ws bs ss) (hl : bs.length ≤ 16384) {j : Nat} (hj : bs[j]? = some true) :
    Calls Try.prog 40 #[H.ptr, .int .i64 ((j : Int) + 1)] w fun e w' => e = .returned (.bool true) ∧ w' = w := by
  have c2 : w.cell? ⟨H.hb, 2, none⟩ = some H.bv := h.box.cell 2
  obtain ⟨ao, cap, e⟩ := own_slice h.bo
  have hs := h.bo
  rw [e] at c2 hs
  have hlt : j < bs.length := (List.getElem?_eq_some_iff.1 hj).1
  obtain ⟨g, rfl, -, -, h3, -⟩ := own_cell hs (tcells_at hj)
  clear hs hj e h
  unfold HB.ptr
  have hj' : (j : Int) < (bs.length : Int) := by omega
  generalize bs.length = U at *
  go_enter Try.func40, Try.ntmps40
  go_wp2
  go_ret
  exact ⟨rfl, rfl⟩
set_option maxRecDepth 8000 in
theorem Len_raw (h : HeapR n0 w H most ws bs ss) (hl : bs.length ≤ 16384) (hwl : ws.length ≤ 16384) {j : Nat} {x : Int} (hj : bs[j]? = some true) (hx : ws[j + 1]? = some x) (hj2 : j + 2 < ws.length) :
    Calls Try.prog 35 #[H.ptr, .int .i64 ((j : Int) + 1)] w fun e w' => e = .returned (.int .i64 x) ∧ w' = w := by
  have c1 : w.cell? ⟨H.hb, 1, none⟩ = some H.wv := h.box.cell 1
  have G := hidIt (is_raw h hl hj)
  obtain ⟨ao, cap, ew⟩ := own_slice h.wo
  have hs := h.wo
  rw [ew] at hs
  obtain ⟨g, rfl, -, -, h3, -⟩ := own_cell hs (icells_at hx)
  have G2 := hidIt (wsize_any g ws.length cap j x w hj2 hwl h3)
  rw [ew] at c1
  unfold HB.ptr at G ⊢
  have GA : Hid (Calls Try.prog 42 #[.pointer (some ⟨H.hb, 0, none⟩), .int .i64 ((j : Int) + 1), .func (.func 60) #[.slice (some ⟨g, 0, none⟩) ws.length cap] #[], .int .i64 0] w fun e w' => e = .returned (.int .i64 x) ∧ w' = w) := hidIt (by
    clear h hs h3 c1 ew hj hx
    go_enter Try.func42, Try.ntmps42
    go_wp2_with (first | (go_at_call 40; refine G.out.mono ?_; rintro e w' ⟨rfl, hww⟩; cases hww) | (go_at_call 60; refine G2.out.mono ?_; rintro e w' ⟨rfl, hww⟩; cases hww))
    go_ret
    exact ⟨rfl, rfl⟩)
  clear h hs h3 ew hj hx G G2
  go_enter Try.func35, Try.ntmps35
  go_wp2_with (go_at_call 42; refine GA.out.mono ?_; rintro e w' ⟨rfl, hww⟩; cases hww)
  go_ret
  exact ⟨rfl, rfl⟩
theorem Try.sizeI : (Try.prog.info? 2).map (·.size) = some 1 := by kernel_rfl
set_option maxRecDepth 8000 in
set_option maxHeartbeats 2000000 in
theorem move_any (h : HeapR n0 w H most ws bs ss) (hl : ws.length = bs.length) (hwl : ws.length ≤ 16384) {p q n : Nat} (hj : bs[p]? = some true) (hx : ws[p + 1]? = some (n : Int)) (hp : p + (n + 3) ≤ ws.length) (hq : q ≤ p) :
    Calls Try.prog 58 #[H.ptr, .int .i64 ((p : Int) + 1), .int .i64 ((q : Int) + 1)] w fun e w' => (∃ u, e = .returned u) ∧ HeapR n0 w' H most (mvW ws q p (n + 3)) bs ss ∧ HStep H H w w' := by
  have GL := hidIt (Len_raw h (by omega) hwl hj hx (by omega))
  have GF := hidIt (field_any ((p : Int) + 1) (n : Int) w (by omega) (by omega) (by omega) (by omega))
  have c1 : w.cell? ⟨H.hb, 1, none⟩ = some H.wv := h.box.cell 1
  obtain ⟨ao, cap, ew⟩ := own_slice h.wo
  have hs := h.wo
  rw [ew] at hs
  obtain ⟨g, rfl, -, -, h3, -⟩ := own_cell hs (icells_at hx)
  have hcap := (own_cap hs).1
  have hcap2 := (own_cap hs).2
  unfold maxLen at hcap2
  obtain ⟨-, cur, hg, hU, hR, hS⟩ := h.moveW ew (q := q) (p := p) (m := n + 3) (by omega) hp
  have hcells : Hid (∀ j v, (icells ((ws.drop p).take (n + 3)))[j]? = some v → w.cell? ⟨g, p + j, none⟩ = some v) := hidIt (fun j v hv => by
    have hj : j < n + 3 := by have := (List.getElem?_eq_some_iff.1 hv).1; simp [icells] at this; omega
    have hv2 : (icells ws)[p + j]? = some v := by
      simp only [icells, List.getElem?_map, List.getElem?_take, List.getElem?_drop] at hv ⊢
      rw [if_pos hj] at hv
      exact hv
    obtain ⟨g', e', -, -, hc, -⟩ := own_cell hs hv2
    cases e'; exact hc)
  have hml : (icells ((ws.drop p).take (n + 3))).length = n + 3 := by simp [icells]; omega
  have hone : ∀ v ∈ icells ((ws.drop p).take (n + 3)), v.oneCell' = true := icells_one _
  have HC : ∀ ty, (Builtin.copy_ #[85, 85] ty #[.slice (some ⟨g, q, none⟩) (ws.length - q) (cap - q), .slice (some ⟨g, p, none⟩) (p + (n + 3) - p) (cap - p)]).run Try.prog w.drew = .ok (goInt (n + 3)) (w.drew.setRow g (cur.toList.take q ++ icells ((ws.drop p).take (n + 3)) ++ cur.toList.drop (q + (n + 3))).toArray) := fun ty => by
    have := run_copy_row (P := Try.prog) w.drew 85 85 ty 2 g q (ws.length - q) (cap - q) ⟨g, p, none⟩ (p + (n + 3) - p) (cap - p) cur 2 (icells ((ws.drop p).take (n + 3))) Try.underlying85 Try.sizeI hg (by rw [hml]; show n + 3 = min (p + (n + 3) - p) (ws.length - q); omega) (fun j v hj => by
      have e : (⟨g, p, none⟩ : Addr).add j = ⟨g, p + j, none⟩ := by unfold Addr.add; split <;> simp_all
      rw [e]
      exact hcells.out j v hj) (by rw [hml]; omega) hone
    rwa [hml] at this
  have HC2 := HC
  rw [show p + (n + 3) - p = n + 3 by omega] at HC2
  have FIN : Hid (HeapR n0 (w.drew.setRow g (cur.toList.take q ++ icells ((ws.drop p).take (n + 3)) ++ cur.toList.drop (q + (n + 3))).toArray) H most (mvW ws q p (n + 3)) bs ss ∧ HStep H H w (w.drew.setRow g (cur.toList.take q ++ icells ((ws.drop p).take (n + 3)) ++ cur.toList.drop (q + (n + 3))).toArray)) := hidIt ⟨hR.kept (fun _ _ => rfl), ⟨hS.os, hS.tape, hS.output, hS.size, hS.block, hS.hb, hS.moved⟩⟩
  rw [ew] at c1
  clear hR hS hml hone hg hU hs h3 h ew hj hx hl
  generalize cur.toList.take q ++ icells ((ws.drop p).take (n + 3)) ++ cur.toList.drop (q + (n + 3)) = cs at *
  generalize mvW ws q p (n + 3) = ws' at *
  generalize ws.length = U at *
  unfold HB.ptr at GL ⊢
  have a1 : (p : Int) + 1 + 2 + (n : Int) = (p : Int) + ((n : Int) + 3) := by omega
  rw [a1] at GF
  have b1 : (q : Int) ≤ (U : Int) := by omega
  have b2 : (p : Int) + ((n : Int) + 3) ≤ (cap : Int) := by omega
  have b3 : (p : Int) ≤ (p : Int) + ((n : Int) + 3) := by omega
  have b4 : (p : Int) + ((n : Int) + 3) ≤ 16384 := by omega
  go_enter Try.func58, Try.ntmps58
  go_upto_region 1 with (first
    | (go_at_call 35; refine GL.out.mono ?_; rintro e w' ⟨rfl, hww⟩; cases hww)
    | (go_at_call 50; refine GF.out.mono ?_; rintro e w' ⟨rfl, hww⟩; cases hww))
  go_region
  go_wp2_with fail
  go_end0
  exact ⟨⟨_, rfl⟩, FIN.out⟩
end Go.Proofs.Ytbdeflpjplhafaa.J

