/- Decode of package code: walked. -/
import Derived.Test.YtcmneinhcfejhaaW
namespace Go.Proofs.Ytcmneinhcfejhaa
open Go.RowKit

theorem inst_take (p op : Int) (t : List Int) (h : sz op ≤ t.length + 1) : inst p op (t.take (sz op - 1)) = inst p op t := by
  unfold sz at h ⊢
  rcases kd_cases op with e | e | e | e | e | e | e | e
  all_goals
    unfold inst
    rw [e] at h ⊢
    simp only [szK] at h ⊢
  all_goals
    first
      | rfl
      | (match t, h with
         | x :: t, _ => simp)
      | (match t, h with
         | x :: z :: t, _ => simp)
theorem dec_step (b : List Int) (f p : Nat) (acc : List IN) {op : Int} {t : List Int} (hd : b.drop p = op :: t) :
    decL5 b (f + 1) p acc = if kd op = 0 then ([], 15, (p : Int)) else if b.length < p + sz op then ([], 10, (p : Int)) else decL5 b f (p + sz op) (acc ++ [inst p op t]) := by
  rw [decL5, hd]
theorem dec_end (b : List Int) (f p : Nat) (acc : List IN) (hp : b.length ≤ p) : decL5 b f p acc = (acc, 0, 0) := by
  cases f with
  | zero => rfl
  | succ f => rw [decL5, List.drop_eq_nil_of_le hp]
/-- An instruction just laid, as a list of one. -/
theorem IView.laid1 (w : World) (i : IN) : IView (w.alloc (.cells #[.int .i64 i.pl, .int .i64 i.op, .int .i64 i.a, .int .i64 i.b] 33)) (.slice (some ⟨w.heap.size, 0, none⟩) 1 1) [i] := by
  refine ⟨_, _, rfl, Nat.le_refl _, by unfold maxLen; omega, .inr ⟨_, _, rfl, fun j x hj => ?_⟩⟩
  match j, hj with
  | 0, hj => simp at hj; subst hj; exact box_at w i
  | j + 1, hj => simp at hj
/-- A part of a view. -/
theorem View.part {w : World} {g off c p n : Nat} {l : List Int} (h : View w (.slice (some ⟨g, off, none⟩) l.length c) l) (hp : p + n ≤ l.length) : View w (.slice (some ⟨g, off + p, none⟩) n (c - p)) ((l.drop p).take n) := by
  obtain ⟨ao', cap, e, hc, hm, hy, hl⟩ := h
  cases e
  refine ⟨_, c - p, by rw [List.length_take, List.length_drop, Nat.min_eq_left (by omega)], by rw [List.length_take, List.length_drop]; omega, by omega, fun x hx => hy x (List.mem_of_mem_drop (List.mem_of_mem_take hx)), ?_⟩
  rcases hl with rfl | ⟨g', off', e, hl⟩
  · exact .inl (by simp)
  · cases e
    refine .inr ⟨g, off + p, rfl, fun j x hj => ?_⟩
    rw [List.getElem?_take] at hj
    split at hj
    · rw [List.getElem?_drop] at hj
      rw [Nat.add_assoc]
      exact hl (p + j) x hj
    · cases hj

set_option maxRecDepth 8000 in
set_option maxHeartbeats 4000000 in
theorem decode_any (v : Value) (b : List Int) (w : World) (hv : View w v b) :
    Calls Try.prog 17 #[v] w fun e w' => Below w.heap.size w w' ∧ ∃ v', e = .returned (.tuple #[v', .int .i64 (decZ5 b).2.1, .int .i64 (decZ5 b).2.2]) ∧ w'.ownsRow w.heap.size 33 4 v' (decZ5 b).1.length (icells (decZ5 b).1) := by
  have HV := hidIt hv
  have HZ : Hid (decZ5 b = if 1024 < b.length then ([], 3, 0) else decL5 b b.length 0 []) := by show _ = _; unfold decZ5; rfl
  generalize decZ5 b = Z at *
  obtain ⟨ao, cap, rfl, hc, hm, hy, hl⟩ := hv
  unfold maxLen at hm
  by_cases hbig : 1024 < b.length
  · have hb' : (1024 : Int) < (b.length : Int) := by omega
    have e := HZ.out
    rw [if_pos hbig] at e
    subst e
    clear HZ HV
    go_enter Try.func17, Try.ntmps17
    go_wp2
    go_ret3
    exact ⟨Below.refl _ _, _, rfl, World.ownsRow_nil _ _ _ _⟩
  · have hb' : ¬ (1024 : Int) < (b.length : Int) := by omega
    have hz2 := HZ.out
    rw [if_neg hbig] at hz2
    have HZ2 := hidIt hz2
    clear HZ hz2
    go_enter Try.func17, Try.ntmps17
    go_wp2
    go_loopw [5, 6] (fun l at_ wr => ∃ (p f : Nat) (acc : List IN), at_ = .int .i64 (p : Int) ∧ p ≤ b.length ∧ acc.length ≤ p ∧ Hid (b.length ≤ p + f ∧ Z = decL5 b f p acc) ∧ wr.ownsRow w.heap.size 33 4 l acc.length (icells acc) ∧ Below w.heap.size w wr) (fun _ at_ _ => b.length - (intOf at_).toNat)
    case atStart => exact ⟨0, b.length, [], rfl, Nat.zero_le _, Nat.zero_le _, ⟨by omega, HZ2.out⟩, World.ownsRow_nil _ _ _ _, Below.refl _ _⟩
    case round =>
      clear HZ2
      obtain ⟨p, f, acc, rfl, hp, hacc, HZ, ho, hb⟩ := hrel
      obtain ⟨aol, capl, rfl⟩ := own_slice ho
      by_cases hlt : p < b.length
      · have hlt' : (p : Int) < (b.length : Int) := by omega
        have hbl : (b.length : Int) ≤ 1024 := by omega
        obtain ⟨op, t, hd⟩ : ∃ op t, b.drop p = op :: t := by
          cases h : b.drop p with
          | nil => have := congrArg List.length h; simp at this; omega
          | cons op t => exact ⟨op, t, rfl⟩
        have hop : b[p]? = some op := by
          have := List.getElem?_drop (xs := b) (i := p) (j := 0)
          rw [hd] at this; simpa using this.symm
        obtain ⟨g, off, rfl, hla⟩ : ∃ g off, ao = some ⟨g, off, none⟩ ∧ Lies w g off b := by
          rcases hl with h | h
          · rw [h] at hlt; simp at hlt
          · exact h
        have c0 : wr.cell? ⟨g, off + p, none⟩ = some (.int .u8 op) := cell_later hb (hla p op hop)
        obtain ⟨o0, o1⟩ := hy op (List.mem_of_getElem? hop)
        have hs3 := sz_le op
        have htl : t.length + 1 = b.length - p := by
          have := congrArg List.length hd
          rw [List.length_drop, List.length_cons] at this; omega
        obtain ⟨f', hf', hz⟩ : ∃ f', b.length ≤ p + 1 + f' ∧ Z = decL5 b (f' + 1) p acc := by
          obtain ⟨h1, h2⟩ := HZ.out
          match f, h1, h2 with
          | 0, h1, _ => omega
          | f' + 1, h1, h2 => exact ⟨f', by omega, h2⟩
        rw [dec_step b f' p acc hd] at hz
        have HZ1 := hidIt hz
        have HD := hidIt hd
        have HO := hidIt ho
        have HB := hidIt hb
        have HVr := hidIt (HV.out.below hb)
        have gS := hidIt (size_any op wr)
        have hz0 := sz_zero op
        have HTL := hidIt htl
        clear hz hd HZ ho hb hop hla htl
        by_cases hk : kd op = 0
        · rw [hz0.2 hk] at gS
          have hz := HZ1.out
          rw [if_pos hk] at hz
          clear HZ1 hz0
          go_wp2_with fail
          refine gS.out.mono ?_
          rintro e w1 ⟨rfl, hww⟩; cases hww
          go_wp2
          go_ret3
          subst hz
          exact ⟨HB.out, _, rfl, World.ownsRow_nil _ _ _ _⟩
        · have hz := HZ1.out
          rw [if_neg hk] at hz
          have hsz : sz op ≠ 0 := fun h => hk (hz0.1 h)
          clear HZ1 hz0
          generalize hS : sz op = s at *
          have HS := hidIt hS
          have s0 : ((s : Int) == 0) = false := by simpa using hsz
          clear hS
          by_cases hcut : b.length < p + s
          · rw [if_pos hcut] at hz
            have hc' : (b.length : Int) - (p : Int) < (s : Int) := by omega
            go_wp2_with fail
            refine gS.out.mono ?_
            rintro e w1 ⟨rfl, hww⟩; cases hww
            go_wp2
            go_ret3
            subst hz
            exact ⟨HB.out, _, rfl, World.ownsRow_nil _ _ _ _⟩
          · rw [if_neg hcut] at hz
            obtain ⟨x, hx⟩ : ∃ x, inst (p : Int) op t = x := ⟨_, rfl⟩
            rw [hx] at hz
            have HZ3 := hidIt hz
            have HX : Hid (inst (p : Int) op (t.take (s - 1)) = x) := by
              show _ = _
              rw [← HS.out, inst_take _ _ _ (by rw [HS.out]; have := HTL.out; omega)]
              exact hx
            have hVp : View wr (.slice (some ⟨g, off + p, none⟩) s (cap - p)) (op :: t.take (s - 1)) := by
              have := HVr.out.part (p := p) (n := s) (by omega)
              rw [HD.out] at this
              obtain ⟨s', rfl⟩ : ∃ s', s = s' + 1 := ⟨s - 1, by omega⟩
              simpa using this
            have gR := hidIt (read_any _ op (t.take (s - 1)) p wr hVp hk (by rw [HS.out, List.length_take]; have := HTL.out; omega) (by omega))
            clear hz hx hVp
            have hc' : ¬ (b.length : Int) - (p : Int) < (s : Int) := by omega
            go_wp2_with fail
            refine gS.out.mono ?_
            rintro e w1 ⟨rfl, hww⟩; cases hww
            go_wp2_with fail
            refine gR.out.mono ?_
            rintro e w2 ⟨rfl, b2⟩
            rw [HX.out]
            have b1 := HB.out
            have HB2 := hidIt (b1.trans (b2.mono b1.size))
            have O2 := own_alloc (own_below HO.out b2) (.cells #[.int .i64 x.pl, .int .i64 x.op, .int .i64 x.a, .int .i64 x.b] 33)
            have V2 := IView.laid1 w2 x
            have hB2 := HB2.out.size
            clear b1 b2 gR gS
            unfold IN.val
            go_wp2_with (at_builtin; refine wpList_iappend rfl _ _ rfl w.heap.size _ _ _ _ [x] rfl O2 rfl V2 (by simp; omega) (by simp; omega) ?_; intro v3 w3 ho3 st3; obtain ⟨ao3, cap3, rfl⟩ := own_slice ho3; have HS3 := hidIt (of_alloc st3); have HO3 := hidIt ho3; clear st3 ho3 V2 O2)
            have O3 := HO3.out
            have hb3 := HB2.out.trans (HS3.out.below hB2 (fun k hk => (HO.out.lt k hk).1))
            exact ⟨⟨p + s, f', acc ++ [x], by go_num, by omega, by simp; omega, ⟨by omega, HZ3.out⟩, by rw [icells_append, List.length_append]; exact O3, hb3⟩, by simp [intOf]; omega⟩
      · have hlt' : ¬ (p : Int) < (b.length : Int) := by omega
        have hz := HZ.out.2
        rw [dec_end b f p acc (by omega)] at hz
        clear HZ
        go_wp2
        go_ret3
        subst hz
        exact ⟨hb, _, rfl, ho⟩
end Go.Proofs.Ytcmneinhcfejhaa
