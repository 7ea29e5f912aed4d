/- has, Get, IsRef: walked. -/
import Derived.Test.YtbdeflpjplhafaaJC
namespace Go.Proofs.Ytbdeflpjplhafaa.J
open Go.RowKit Go.MapKept Go.ChangeMaps
set_option linter.unusedVariables false

variable {n0 : Nat} {w : World} {H : HB} {most : Nat} {l : List Ob} {ss : List (List Bool)}
theorem has_any (h : HeapV n0 w H most l ss) (v n : Int) : Calls Try.prog 48 #[H.ptr, .int .i64 v, .int .i64 n] w fun e w' => e = .returned (.bool (hasZ l v n)) ∧ w' = w := by
  have G := hidIt (Len_any h v)
  unfold HB.ptr at G ⊢
  unfold hasZ
  generalize lenZ l v = z at *
  by_cases h0 : 0 ≤ n
  · rw [decide_eq_true h0, Bool.true_and]
    go_enter Try.func48, Try.ntmps48
    go_wp2_with (go_at_call 35; refine G.out.mono ?_; rintro e w' ⟨rfl, hww⟩; cases hww)
    go_ret
    exact ⟨rfl, rfl⟩
  · rw [decide_eq_false h0, Bool.false_and]
    go_enter Try.func48, Try.ntmps48
    go_wp2_with (go_at_call 35; refine G.out.mono ?_; rintro e w' ⟨rfl, hww⟩; cases hww)
    go_ret
    exact ⟨rfl, rfl⟩
theorem get_no (h : HeapV n0 w H most l ss) (v n : Int) (hn : hasZ l v n = false) : Calls Try.prog 67 #[H.ptr, .int .i64 v, .int .i64 n] w fun e w' => e = .returned (.tuple #[.int .i64 0, .int .i64 1]) ∧ w' = w := by
  have G := hidIt (has_any h v n)
  rw [hn] at G
  unfold HB.ptr at G ⊢
  go_enter Try.func67, Try.ntmps67
  go_wp2_with (go_at_call 48; refine G.out.mono ?_; rintro e w' ⟨rfl, hww⟩; cases hww)
  go_ret2
  exact ⟨rfl, rfl⟩
/-- Where a field lies. -/
theorem HeapV.field (h : HeapV n0 w H most l ss) {v n : Int} (hn : hasZ l v n = true) : ∃ (g cap j : Nat), H.wv = .slice (some ⟨g, 0, none⟩) (usedN l) cap ∧ n0 ≤ g ∧ g < w.heap.size ∧ v + 2 + n = (j : Int) ∧ j < usedN l ∧ w.cell? ⟨g, j, none⟩ = some (.int .i64 (getZ l v n)) ∧ w.frozen? ⟨g, j, none⟩ = false ∧ 1 ≤ v ∧ v ≤ 16384 ∧ 0 ≤ n ∧ n ≤ 16384 := by
  obtain ⟨o, e, h0, h1⟩ := hasZ_some hn
  obtain ⟨q1, q2⟩ := objZ_in e
  have hm := h.most
  have hf := h.few
  obtain ⟨x, hx⟩ : ∃ x, o.f[n.toNat]? = some x := ⟨o.f[n.toNat]'(by omega), List.getElem?_eq_getElem _⟩
  obtain ⟨g, cap, ew, a1, a2, a3, a4⟩ := h.word e (k := n.toNat + 3) (x := x) (by simpa [obW] using hx)
  refine ⟨g, cap, (v - 1).toNat + (n.toNat + 3), ew, a1, a2, by omega, by omega, ?_, a4, q1, by omega, h0, by omega⟩
  rw [a3]
  unfold getZ
  rw [e]
  simp [hx]
set_option maxRecDepth 8000 in
theorem get_yes (h : HeapV n0 w H most l ss) (v n : Int) (hn : hasZ l v n = true) : Calls Try.prog 67 #[H.ptr, .int .i64 v, .int .i64 n] w fun e w' => e = .returned (.tuple #[.int .i64 (getZ l v n), .int .i64 0]) ∧ Below w.heap.size w w' := by
  have G := hidIt (has_any h v n)
  obtain ⟨g, cap, j, ew, -, -, ej, hj, hc, -, q1, q2, q3, q4⟩ := h.field hn
  have c1 : w.cell? ⟨H.hb, 1, none⟩ = some H.wv := h.box.cell 1
  rw [ew] at c1
  rw [hn] at G
  have hU : usedN l ≤ 16384 := Nat.le_trans h.few h.most
  have hj' : (j : Int) < (usedN l : Int) := by omega
  have GF : Hid (∀ w, Calls Try.prog 50 #[.int .i64 v, .int .i64 n] w fun e w' => e = .returned (.int .i64 (j : Int)) ∧ w' = w) := hidIt (fun w => by rw [← ej]; exact field_any v n w (by omega) (by omega) (by omega) (by omega))
  unfold HB.ptr at G ⊢
  generalize usedN l = U at *
  clear ej q1 q2 q3 q4
  go_enter Try.func67, Try.ntmps67
  go_wp2_with (go_at_call 48; refine G.out.mono ?_; rintro e w' ⟨rfl, hww⟩; cases hww)
  go_quiet ((go_at_call 50; exact Calls.quiet_of_same (GF.out _)))
  go_wp2
  go_ret2
  exact ⟨rfl, below_drewN (Below.refl _ _) _⟩
/-! A shape's text. -/
theorem txt_len (r : List Bool) : (txt r).size = r.length := by simp [txt, ByteArray.size]
theorem txt_at {r : List Bool} {k : Nat} {b : Bool} (h : r[k]? = some b) : (txt r).data.toList[k]? = some (if b then (114 : UInt8) else 110) := by simp [txt, h]
theorem txt_inj {r s : List Bool} (h : txt r = txt s) : r = s := by
  unfold txt at h
  simp only [ByteArray.mk.injEq] at h
  have h : r.map (fun b => if b then (114 : UInt8) else 110) = s.map (fun b => if b then (114 : UInt8) else 110) := by simpa using h
  refine List.map_inj_right (fun a b e => ?_) |>.1 h
  cases a <;> cases b <;> first | rfl | (exact absurd e (by decide))
theorem xs_at {ss : List (List Bool)} {k : Nat} {r : List Bool} (h : ss[k]? = some r) : (xcells ss)[k]? = some (.string (txt r)) := xcells_at h
set_option maxRecDepth 8000 in
theorem IsRef_any (h : HeapV n0 w H most l ss) (v n : Int) : Calls Try.prog 49 #[H.ptr, .int .i64 v, .int .i64 n] w fun e w' => e = .returned (.bool (refZ ss l v n)) ∧ w' = w := by
  have G := hidIt (has_any h v n)
  have G2 := hidIt (ShapeOf_any h v)
  unfold HB.ptr at G G2 ⊢
  unfold refZ
  cases hn : hasZ l v n with
  | false =>
    rw [hn] at G
    rw [Bool.false_and]
    go_enter Try.func49, Try.ntmps49
    go_wp2_with (go_at_call 48; refine G.out.mono ?_; rintro e w' ⟨rfl, hww⟩; cases hww)
    go_ret
    exact ⟨rfl, rfl⟩
  | true =>
    rw [hn] at G
    rw [Bool.true_and]
    by_cases hs : shpZ l v < 0
    · rw [if_pos hs]
      generalize shpZ l v = z at *
      go_enter Try.func49, Try.ntmps49
      go_wp2_with (first | (go_at_call 48; refine G.out.mono ?_; rintro e w' ⟨rfl, hww⟩; cases hww) | (go_at_call 61; refine G2.out.mono ?_; rintro e w' ⟨rfl, hww⟩; cases hww))
      go_ret
      exact ⟨rfl, rfl⟩
    · rw [if_neg hs]
      obtain ⟨o, eo, h0, h1⟩ := hasZ_some hn
      have ez : shpZ l v = o.sh := by unfold shpZ; rw [eo]
      obtain ⟨-, hw⟩ := h.wf.obj eo
      obtain ⟨r, hr, hl⟩ := hw (by omega)
      rw [ez] at hs ⊢ G2
      rw [hr]
      have c3 : w.cell? ⟨H.hb, 3, none⟩ = some H.sv := h.box.cell 3
      obtain ⟨ao, cap, e⟩ := own_slice h.so
      have ho := h.so
      rw [e] at c3 ho
      obtain ⟨g, rfl, -, -, hc, -⟩ := own_cell ho (xs_at hr)
      obtain ⟨s, hs2⟩ : ∃ s : Nat, o.sh = (s : Int) := ⟨o.sh.toNat, by omega⟩
      have hsl : s < ss.length := by rw [hs2] at hr; exact (List.getElem?_eq_some_iff.1 hr).1
      have hsl' : (s : Int) < (ss.length : Int) := by omega
      obtain ⟨k, rfl⟩ : ∃ k : Nat, n = (k : Int) := ⟨n.toNat, by omega⟩
      obtain ⟨b, hb⟩ : ∃ b, r[k]? = some b := ⟨r[k]'(by omega), List.getElem?_eq_getElem _⟩
      have hd := txt_at hb
      have hk : k < (txt r).size := by rw [txt_len]; omega
      have hk' : (k : Int) < ((txt r).size : Int) := by omega
      rw [hs2] at hc hs G2
      simp only [Int.toNat_natCast, Option.getD_some] at hc ⊢
      rw [hb, Option.getD_some]
      have hT : ((((txt r)[k]'hk).toNat : Int) == 114) = b := by
        have e1 : (txt r).data.toList[k]? = some ((txt r)[k]'hk) := by
          have h' : k < (txt r).data.toList.length := by simpa using hk
          rw [List.getElem?_eq_getElem h']; rfl
        rw [e1] at hd
        generalize (txt r)[k]'hk = c at *
        cases b <;> simp at hd <;> (rw [hd]; rfl)
      generalize txt r = T at *
      have hcp := (own_cap ho).1
      clear ho hn eo ez hl hr hw hs2 h1 hb h0 e
      go_enter Try.func49, Try.ntmps49
      go_wp2_with (first | (go_at_call 48; refine G.out.mono ?_; rintro e w' ⟨rfl, hww⟩; cases hww) | (go_at_call 61; refine G2.out.mono ?_; rintro e w' ⟨rfl, hww⟩; cases hww))
      go_ret
      exact ⟨rfl, rfl⟩
end Go.Proofs.Ytbdeflpjplhafaa.J

