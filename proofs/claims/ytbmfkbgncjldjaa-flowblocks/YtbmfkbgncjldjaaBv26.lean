/- Texts FXc. -/
import Derived.Test.YtbmfkbgncjldjaaBv25
import Derived.Test.YtbmfkbgncjldjaaBv02
import Derived.Deep.RegionHeld3
namespace Go.Proofs.Ytbmfkbgncjldjaa
open Go.RowKit

theorem tk {P : Program} {md : Region.Mode} {ops : Array Oper} {Q : Exit → Act → World → Prop} {S : World → Prop} (i : Nat) (oi : Oper) (v : Value) {fuel : Nat} {listed : Array Bool} {a : Act} {w : World} (hi : ops[i]? = some oi) (hQ : ∀ c a w, Q (.panic c) (a.put oi.dst v) w → Q (.panic c) a w) (hy : YieldsIf P ops S oi v a) (hS : S w)
    (h : wpAnyH P md ops Q S fuel (listed.setIfInBounds i true) (a.put oi.dst v) w) (hs : Region.noSelect ops = true := by kernel_rfl) (hf : Region.free md ops listed i = true := by kernel_rfl) (hr : (Region.ready md ops listed).contains i = true := by kernel_rfl) :
    wpAnyH P md ops Q S (fuel + 1) listed a w := wpAnyH_take hi hs hf hr hQ hy hS h
set_option maxRecDepth 8000 in
set_option maxHeartbeats 8000000 in
theorem rcheck_any (v u f : Value) (l : List IN) (h : List HN) (fr : List FN) (w : World) (hv : IView w v l) (hu : HView w u h) (hf : FView w f fr) (hp : Places l) :
    Calls Try.prog 14 #[v, u, f] w fun e w' => Ans (checkZ l h fr) e ∧ Below w.heap.size w w' := by
  have HV := hidIt hv
  have HU := hidIt hu
  have HF := hidIt hf
  have GF := hidIt (fun (p : Int) W (h : Below w.heap.size w W) => rfind_any v l p W (hv.below h))
  have GD := hidIt (fun W (h0 : 0 < l.length) (h : Below w.heap.size w W) => rend_any v l W (hv.below h) h0 hp)
  obtain ⟨ao, cap, rfl, hc, hm, _⟩ := hv
  obtain ⟨ao1, cap1, rfl, hc1, hm1, _⟩ := hu
  obtain ⟨ao2, cap2, rfl, hc2, hm2, _⟩ := hf
  unfold maxLen at hm hm1 hm2
  have HZ : Hid (checkZ l h fr = if (codeZ l).1 ≠ 0 then codeZ l else handF l (framF l none fr) h) := rfl
  generalize checkZ l h fr = Z at *
  by_cases h0 : l.length = 0
  · obtain rfl : l = [] := List.length_eq_zero_iff.1 h0
    go_enter Try.func14, Try.ntmps14
    go_wp2
    go_ret2
    refine ⟨?_, Below.refl _ _⟩
    rw [HZ.out]
    rfl
  have hz : codeZ l = codeF l l := by unfold codeZ; rw [if_neg (fun h => h0 (by rw [h]; rfl))]
  rw [hz] at HZ
  have h0' : ((l.length : Int) == 0) = false := by simpa using h0
  have hpos : Hid (0 < l.length) := by show _ < _; omega
  have HA0 : Hid (codeF l (l.drop 0) = codeF l l) := rfl
  have HF0 : Hid (framF l (prevZ fr 0) (fr.drop 0) = framF l none fr) := rfl
  clear hz
  generalize codeF l l = A at *
  generalize framF l none fr = FZ at *
  go_enter Try.func14, Try.ntmps14
  go_wp2
  go_loopw [8] (fun i wr => ∃ k : Nat, k ≤ l.length ∧ i = .int .i64 (k : Int) ∧ Below w.heap.size w wr ∧ codeF l (l.drop k) = A) (fun i _ => l.length - (intOf i).toNat)
  case atStart => exact ⟨0, Nat.zero_le _, rfl, Below.refl _ w, HA0.out⟩
  case round =>
    obtain ⟨k, hk, rfl, hb, hA⟩ := hrel
    have HB := hidIt hb
    have HA := hidIt hA
    have hz := hb.size
    clear hb hA HA0
    by_cases hlt : k < l.length
    · have hlt' : (k : Int) < (l.length : Int) := by omega
      obtain ⟨x, hx⟩ : ∃ x, l[k]? = some x := ⟨l[k], List.getElem?_eq_getElem hlt⟩
      obtain ⟨g, off, rfl, c0, c1, c2, c3⟩ := (HV.out.below HB.out).row hx
      rw [drop_at hx, codeF_cons] at HA
      clear hx
      have GB := hidIt (fun W => rbranch x.op W)
      have G2 := hidIt (GF.out x.a _ HB.out)
      unfold brkB at HA
      by_cases h6 : kd x.op = 6
      · rw [decide_eq_true h6] at GB HA
        generalize findZ l x.a = F at *
        by_cases hf : 0 ≤ F
        · have hf' : ¬ F < 0 := by omega
          rw [decide_eq_true hf] at HA
          go_wp2_with (first | (go_at_call 43; refine (GB.out _).mono ?_; rintro e w' ⟨rfl, hww⟩; cases hww) | (go_at_call 19; refine G2.out.mono ?_; rintro e w' ⟨rfl, hww⟩; cases hww))
          exact ⟨⟨k + 1, by omega, by go_num, HB.out, by simpa using HA.out⟩, by simp [intOf]; omega⟩
        · have hf' : F < 0 := by omega
          rw [decide_eq_false hf] at HA
          go_wp2_with (first | (go_at_call 43; refine (GB.out _).mono ?_; rintro e w' ⟨rfl, hww⟩; cases hww) | (go_at_call 19; refine G2.out.mono ?_; rintro e w' ⟨rfl, hww⟩; cases hww))
          go_quiet (fail)
          go_wp2
          go_ret2
          refine ⟨?_, below_drewN HB.out _⟩
          have e1 : (16, x.pl) = A := by simpa using HA.out
          rw [HZ.out, ← e1]
          rfl
      · rw [decide_eq_false h6] at GB HA
        go_wp2_with (first | (go_at_call 43; refine (GB.out _).mono ?_; rintro e w' ⟨rfl, hww⟩; cases hww))
        exact ⟨⟨k + 1, by omega, by go_num, HB.out, by simpa using HA.out⟩, by simp [intOf]; omega⟩
    · have hlt' : ¬ (k : Int) < (l.length : Int) := by omega
      obtain rfl : k = l.length := by omega
      obtain ⟨x, hx⟩ : ∃ x, l[l.length - 1]? = some x := ⟨l[l.length - 1], List.getElem?_eq_getElem (by omega)⟩
      obtain ⟨g, off, rfl, c0, c1, c2, c3⟩ := (HV.out.below HB.out).row hx
      have hA1 := below_alloc wr (.cells #[.int .i64 x.pl, .int .i64 x.op, .int .i64 x.a, .int .i64 x.b] 81)
      have HB1 := hidIt (HB.out.trans (hA1.mono HB.out.size))
      have hX := box_at wr x
      have GE := hidIt (fun W => rends x.op W)
      have hl1 := last_get hx
      rw [List.drop_length] at HA
      have HA2 : Hid ((if endsB x.op then ((0, 0) : Int × Int) else (17, x.pl)) = A) := by have := HA.out; unfold codeF at this; rw [hl1] at this; exact this
      clear HA
      have HA := HA2
      clear HA2
      clear hA1 hl1 hx HV
      obtain ⟨d0, d1, d2, d3⟩ := hX
      have hN : Hid (∃ n1, l.length = n1 + 1) := ⟨l.length - 1, by omega⟩
      cases he : endsB x.op with
      | false =>
        rw [he] at GE HA
        clear GF GD HU HF HF0 hpos
        generalize l.length = N at *
        obtain ⟨n1, rfl⟩ := hN.out
        rw [show n1 + 1 - 1 = n1 by omega] at *
        go_wp2_with (first | (go_at_call 44; refine (GE.out _).mono ?_; rintro e w' ⟨rfl, hww⟩; cases hww))
        go_quiet (fail)
        go_wp2
        go_ret2
        refine ⟨?_, below_drewN HB1.out _⟩
        have e1 : (17, x.pl) = A := by simpa using HA.out
        rw [HZ.out, ← e1]
        rfl
      | true =>
        rw [he] at GE HA
        have e1 : ((0, 0) : Int × Int) = A := by simpa using HA.out
        rw [← e1] at HZ
        have HY : Hid (handF l FZ (h.drop 0) = Z) := HZ.out.symm
        clear HA HZ e1
        have GD2 := hidIt (fun W h => GD.out W hpos.out h)
        clear GD hpos
        generalize l.length = N at *
        obtain ⟨n1, rfl⟩ := hN.out
        rw [show n1 + 1 - 1 = n1 by omega] at *
        go_wp2_with (first | (go_at_call 44; refine (GE.out _).mono ?_; rintro e w' ⟨rfl, hww⟩; cases hww))
        clear GE d0 d1 d2 d3 c0 c1 c2 c3 HB hlt hlt' h0' hk hN
        generalize wr.alloc (.cells #[.int .i64 x.pl, .int .i64 x.op, .int .i64 x.a, .int .i64 x.b] 81) = Wx at *
        go_loopw [10, 11] (fun i _ wr => ∃ k : Nat, k ≤ h.length ∧ i = .int .i64 (k : Int) ∧ Below w.heap.size w wr ∧ handF l FZ (h.drop k) = Z) (fun i _ _ => h.length - (intOf i).toNat)
        case atStart => exact ⟨0, Nat.zero_le _, rfl, HB1.out, HY.out⟩
        case round =>
          clear HB1 HY he hz
          obtain ⟨k, hk, rfl, hb, hA⟩ := hrel
          have HB := hidIt hb
          have HA := hidIt hA
          have hz := hb.size
          clear hb hA
          by_cases hlt : k < h.length
          · have hlt' : (k : Int) < (h.length : Int) := by omega
            obtain ⟨y, hy⟩ : ∃ y, h[k]? = some y := ⟨h[k], List.getElem?_eq_getElem hlt⟩
            obtain ⟨g2, off2, rfl, c0, c1, c2, c3⟩ := (HU.out.below HB.out).row hy
            rw [drop_at hy, handF_cons] at HA
            have hA1 := below_alloc wr (.cells #[.int .i64 y.f, .int .i64 y.t, .int .i64 y.a, .string y.ty] 76)
            have HB1 := hidIt (HB.out.trans (hA1.mono HB.out.size))
            have hX := hbox_at wr y
            obtain ⟨d0, d1, d2, d3⟩ := hX
            clear hy hA1
            unfold handB at HA
            go_wp2_with fail
            generalize wr.alloc (.cells #[.int .i64 y.f, .int .i64 y.t, .int .i64 y.a, .string y.ty] 76) = W1 at *
            have S0 : Hid (W1.cell? ⟨wr.heap.size, 0, none⟩ = some (.int .i64 y.f) ∧ W1.cell? ⟨wr.heap.size, 1, none⟩ = some (.int .i64 y.t) ∧ W1.cell? ⟨wr.heap.size, 2, none⟩ = some (.int .i64 y.a)) := ⟨d0, d1, d2⟩
            have S1 : Hid (W1.drew.cell? ⟨wr.heap.size, 0, none⟩ = some (.int .i64 y.f) ∧ W1.drew.cell? ⟨wr.heap.size, 1, none⟩ = some (.int .i64 y.t) ∧ W1.drew.cell? ⟨wr.heap.size, 2, none⟩ = some (.int .i64 y.a)) := S0.out
            have S2 : Hid (∀ W, Below W1.drew.heap.size W1.drew W → W.cell? ⟨wr.heap.size, 0, none⟩ = some (.int .i64 y.f) ∧ W.cell? ⟨wr.heap.size, 1, none⟩ = some (.int .i64 y.t) ∧ W.cell? ⟨wr.heap.size, 2, none⟩ = some (.int .i64 y.a)) := fun W b => ⟨cell_later b S1.out.1, cell_later b S1.out.2.1, cell_later b S1.out.2.2⟩
            have HBd : Hid (Below w.heap.size w W1.drew) := below_drewN HB1.out 1
            have GFd := hidIt (fun p W (h : Below W1.drew.heap.size W1.drew W) => GF.out p W (HBd.out.trans (h.mono HBd.out.size)))
            have GDd := hidIt (GD2.out W1.drew HBd.out)
            clear d0 d1 d2 d3 c0 c1 c2 c3
            have G1 := hidIt (fun W h => GFd.out y.f W h)
            have G2 := hidIt (fun W h => GFd.out y.a W h)
            have G3 := hidIt (fun W h => GFd.out y.t W h)
            clear GFd
            have TT : True := trivial
            generalize findZ l y.f = F1 at *
            generalize findZ l y.a = F2 at *
            generalize findZ l y.t = F3 at *
            generalize endZ l = E at *
            clear HU HF GF GD2 HF0 HB HB1 hc hc2 hm hm2
            refine wp_region_noPanic ?_
            refine wp_region_held_drew (S := (fun W => W.cell? ⟨wr.heap.size, 0, none⟩ = some (.int .i64 y.f) ∧ W.cell? ⟨wr.heap.size, 1, none⟩ = some (.int .i64 y.t) ∧ W.cell? ⟨wr.heap.size, 2, none⟩ = some (.int .i64 y.a))) (by kernel_rfl) ?_ (fun hHeld => ?_)
            · (try dsimp only); first | exact S0.out | exact S1.out | exact S2.out _ (by assumption)
            refine tk 0 ⟨some 66, .move (.tmp 0), 33, "ref.go:57", #[], none⟩ (?vq1) rfl (fun _ _ _ h => h) (.inl ⟨by rfl, ?yq1⟩) (by assumption) ?rq1
            case yq1 => intro w hSw; go_simp; try with_reducible rfl
            try simp only [Act.put, List.setIfInBounds_toArray, List.set_cons_zero, List.set_cons_succ]
            refine tk 1 ⟨some 67, .fieldAddr 76 (.tmp 11) 0, 0, "ref.go:57", #[], none⟩ (?vq2) rfl (fun _ _ _ h => h) (.inl ⟨by rfl, ?yq2⟩) (by assumption) ?rq2
            case yq2 => intro w hSw; go_simp; try with_reducible rfl
            try simp only [Act.put, List.setIfInBounds_toArray, List.set_cons_zero, List.set_cons_succ]
            refine tk 2 ⟨some 68, .load 3 (.tmp 67), 3, "ref.go:57", #[⟨1, .data⟩], none⟩ (?vq3) rfl (fun _ _ _ h => h) (.inl ⟨by rfl, ?yq3⟩) (by assumption) ?rq3
            case yq3 => intro w hSw; go_simp; try with_reducible rfl
            try simp only [Act.put, List.setIfInBounds_toArray, List.set_cons_zero, List.set_cons_succ]
            refine wpAnyH_ready (rs := [3]) (by kernel_rfl) (by simp) ?_
            refine AllReadyH.cons (o := ⟨some 69, .call { callee := .value (.func 19), args := #[.tmp 66, .tmp 68], argTypes := #[33, 3] }, 3, "ref.go:57", #[⟨0, .data⟩, ⟨2, .data⟩], none⟩) rfl (fun K hK => ?_) AllReadyH.nil
            go_simp
            go_at_call 19; refine (G1.out _ (Below.refl _ _)).mono ?_; rintro e w' ⟨rfl, hww⟩; cases hww
            try go_wp2_with fail
            refine hK.out _ _ ?hSq4 ?restq4
            case hSq4 => (try dsimp only); first | exact S0.out | exact S1.out | exact S2.out _ (by assumption)
            clear hK K hHeld
            intro hHeld
            try simp only [Act.put, List.setIfInBounds_toArray, List.set_cons_zero, List.set_cons_succ]
            by_cases hF1 : F1 < 0
            · have n1 : ¬ 0 ≤ F1 := by omega
              refine tk 4 ⟨some 70, .binOp .lss 3 (.tmp 69) (.const (.int .i64 0)) 3, 4, "ref.go:57", #[⟨3, .data⟩], none⟩ (.bool true) rfl (fun _ _ _ h => h) (.inl ⟨by rfl, ?yq5⟩) (by assumption) ?rq5
              case yq5 => intro w hSw; go_simp; all_goals (simpa using hF1)
              try simp only [Act.put, List.setIfInBounds_toArray, List.set_cons_zero, List.set_cons_succ]
              refine tk 5 ⟨some 71, .move (.tmp 70), 4, "ref.go:57", #[⟨4, .data⟩, ⟨3, .chain⟩], none⟩ (?vq6) rfl (fun _ _ _ h => h) (.inl ⟨by rfl, ?yq6⟩) (by assumption) ?rq6
              case yq6 => intro w hSw; go_simp; try with_reducible rfl
              try simp only [Act.put, List.setIfInBounds_toArray, List.set_cons_zero, List.set_cons_succ]
              refine tk 6 ⟨some 72, .move (.tmp 0), 33, "ref.go:57", #[⟨5, .guard⟩], some (5, false)⟩ undef rfl (fun _ _ _ h => h) (.inr ⟨by kernel_rfl, rfl⟩) (by assumption) ?rq7
              refine tk 7 ⟨some 73, .fieldAddr 76 (.tmp 11) 2, 0, "ref.go:57", #[⟨5, .guard⟩], some (5, false)⟩ undef rfl (fun _ _ _ h => h) (.inr ⟨by kernel_rfl, rfl⟩) (by assumption) ?rq8
              refine tk 8 ⟨some 74, .load 3 (.tmp 73), 3, "ref.go:57", #[⟨7, .data⟩, ⟨5, .guard⟩], some (5, false)⟩ undef rfl (fun _ _ _ h => h) (.inr ⟨by kernel_rfl, rfl⟩) (by assumption) ?rq9
              refine tk 9 ⟨some 75, .call { callee := .value (.func 19), args := #[.tmp 72, .tmp 74], argTypes := #[33, 3] }, 3, "ref.go:57", #[⟨6, .data⟩, ⟨8, .data⟩, ⟨5, .chain⟩, ⟨5, .guard⟩], some (5, false)⟩ undef rfl (fun _ _ _ h => h) (.inr ⟨by kernel_rfl, rfl⟩) (by assumption) ?rq10
              refine tk 10 ⟨some 76, .binOp .lss 3 (.tmp 75) (.const (.int .i64 0)) 3, 4, "ref.go:57", #[⟨9, .data⟩, ⟨5, .guard⟩], some (5, false)⟩ undef rfl (fun _ _ _ h => h) (.inr ⟨by kernel_rfl, rfl⟩) (by assumption) ?rq11
              refine tk 11 ⟨some 77, .pick (.tmp 71) (.const (.bool true)) (.tmp 76), 4, "ref.go:57", #[⟨5, .data⟩, ⟨10, .data⟩], none⟩ (?vq12) rfl (fun _ _ _ h => h) (.inl ⟨by rfl, ?yq12⟩) (by assumption) ?rq12
              case yq12 => intro w hSw; go_simp; try with_reducible rfl
              try simp only [Act.put, List.setIfInBounds_toArray, List.set_cons_zero, List.set_cons_succ]
              refine tk 12 ⟨some 78, .move (.tmp 77), 4, "ref.go:57", #[⟨11, .data⟩, ⟨9, .chain⟩], none⟩ (?vq13) rfl (fun _ _ _ h => h) (.inl ⟨by rfl, ?yq13⟩) (by assumption) ?rq13
              case yq13 => intro w hSw; go_simp; try with_reducible rfl
              try simp only [Act.put, List.setIfInBounds_toArray, List.set_cons_zero, List.set_cons_succ]
              refine tk 13 ⟨some 79, .move (.tmp 0), 33, "ref.go:57", #[⟨12, .guard⟩], some (12, false)⟩ undef rfl (fun _ _ _ h => h) (.inr ⟨by kernel_rfl, rfl⟩) (by assumption) ?rq14
              refine tk 14 ⟨some 80, .fieldAddr 76 (.tmp 11) 1, 0, "ref.go:57", #[⟨12, .guard⟩], some (12, false)⟩ undef rfl (fun _ _ _ h => h) (.inr ⟨by kernel_rfl, rfl⟩) (by assumption) ?rq15
              refine tk 15 ⟨some 81, .load 3 (.tmp 80), 3, "ref.go:57", #[⟨14, .data⟩, ⟨12, .guard⟩], some (12, false)⟩ undef rfl (fun _ _ _ h => h) (.inr ⟨by kernel_rfl, rfl⟩) (by assumption) ?rq16
              refine tk 16 ⟨some 82, .call { callee := .value (.func 19), args := #[.tmp 79, .tmp 81], argTypes := #[33, 3] }, 3, "ref.go:57", #[⟨13, .data⟩, ⟨15, .data⟩, ⟨12, .chain⟩, ⟨12, .guard⟩], some (12, false)⟩ undef rfl (fun _ _ _ h => h) (.inr ⟨by kernel_rfl, rfl⟩) (by assumption) ?rq17
              refine tk 17 ⟨some 83, .binOp .lss 3 (.tmp 82) (.const (.int .i64 0)) 3, 4, "ref.go:57", #[⟨16, .data⟩, ⟨12, .guard⟩], some (12, false)⟩ undef rfl (fun _ _ _ h => h) (.inr ⟨by kernel_rfl, rfl⟩) (by assumption) ?rq18
              refine tk 18 ⟨some 84, .move (.tmp 83), 4, "ref.go:57", #[⟨17, .data⟩, ⟨16, .chain⟩, ⟨12, .guard⟩], some (12, false)⟩ undef rfl (fun _ _ _ h => h) (.inr ⟨by kernel_rfl, rfl⟩) (by assumption) ?rq19
              refine tk 19 ⟨some 85, .fieldAddr 76 (.tmp 11) 1, 0, "ref.go:57", #[⟨18, .guard⟩], some (18, true)⟩ undef rfl (fun _ _ _ h => h) (.inr ⟨by kernel_rfl, rfl⟩) (by assumption) ?rq20
              refine tk 20 ⟨some 86, .load 3 (.tmp 85), 3, "ref.go:57", #[⟨19, .data⟩, ⟨18, .guard⟩], some (18, true)⟩ undef rfl (fun _ _ _ h => h) (.inr ⟨by kernel_rfl, rfl⟩) (by assumption) ?rq21
              refine tk 21 ⟨some 87, .move (.tmp 0), 33, "ref.go:57", #[⟨18, .guard⟩], some (18, true)⟩ undef rfl (fun _ _ _ h => h) (.inr ⟨by kernel_rfl, rfl⟩) (by assumption) ?rq22
              refine tk 22 ⟨some 88, .call { callee := .value (.func 45), args := #[.tmp 87], argTypes := #[33] }, 3, "ref.go:57", #[⟨21, .data⟩, ⟨18, .chain⟩, ⟨18, .guard⟩], some (18, true)⟩ undef rfl (fun _ _ _ h => h) (.inr ⟨by kernel_rfl, rfl⟩) (by assumption) ?rq23
              refine tk 23 ⟨some 89, .binOp .neq 3 (.tmp 86) (.tmp 88) 3, 4, "ref.go:57", #[⟨20, .data⟩, ⟨22, .data⟩, ⟨18, .guard⟩], some (18, true)⟩ undef rfl (fun _ _ _ h => h) (.inr ⟨by kernel_rfl, rfl⟩) (by assumption) ?rq24
              refine tk 24 ⟨some 90, .pick (.tmp 84) (.tmp 89) (.const (.bool false)), 4, "ref.go:57", #[⟨18, .data⟩, ⟨23, .data⟩, ⟨12, .guard⟩], some (12, false)⟩ undef rfl (fun _ _ _ h => h) (.inr ⟨by kernel_rfl, rfl⟩) (by assumption) ?rq25
              refine tk 25 ⟨some 91, .pick (.tmp 78) (.const (.bool true)) (.tmp 90), 4, "ref.go:57", #[⟨12, .data⟩, ⟨24, .data⟩], none⟩ (?vq26) rfl (fun _ _ _ h => h) (.inl ⟨by rfl, ?yq26⟩) (by assumption) ?rq26
              case yq26 => intro w hSw; go_simp; try with_reducible rfl
              try simp only [Act.put, List.setIfInBounds_toArray, List.set_cons_zero, List.set_cons_succ]
              refine tk 26 ⟨some 92, .move (.tmp 91), 4, "ref.go:57", #[⟨25, .data⟩, ⟨22, .chain⟩], none⟩ (?vq27) rfl (fun _ _ _ h => h) (.inl ⟨by rfl, ?yq27⟩) (by assumption) ?rq27
              case yq27 => intro w hSw; go_simp; try with_reducible rfl
              try simp only [Act.put, List.setIfInBounds_toArray, List.set_cons_zero, List.set_cons_succ]
              refine tk 27 ⟨some 93, .fieldAddr 76 (.tmp 11) 0, 0, "ref.go:57", #[⟨26, .guard⟩], some (26, false)⟩ undef rfl (fun _ _ _ h => h) (.inr ⟨by kernel_rfl, rfl⟩) (by assumption) ?rq28
              refine tk 28 ⟨some 94, .load 3 (.tmp 93), 3, "ref.go:57", #[⟨27, .data⟩, ⟨26, .guard⟩], some (26, false)⟩ undef rfl (fun _ _ _ h => h) (.inr ⟨by kernel_rfl, rfl⟩) (by assumption) ?rq29
              refine tk 29 ⟨some 95, .fieldAddr 76 (.tmp 11) 1, 0, "ref.go:57", #[⟨26, .guard⟩], some (26, false)⟩ undef rfl (fun _ _ _ h => h) (.inr ⟨by kernel_rfl, rfl⟩) (by assumption) ?rq30
              refine tk 30 ⟨some 96, .load 3 (.tmp 95), 3, "ref.go:57", #[⟨29, .data⟩, ⟨26, .guard⟩], some (26, false)⟩ undef rfl (fun _ _ _ h => h) (.inr ⟨by kernel_rfl, rfl⟩) (by assumption) ?rq31
              refine tk 31 ⟨some 97, .binOp .geq 3 (.tmp 94) (.tmp 96) 3, 4, "ref.go:57", #[⟨28, .data⟩, ⟨30, .data⟩, ⟨26, .guard⟩], some (26, false)⟩ undef rfl (fun _ _ _ h => h) (.inr ⟨by kernel_rfl, rfl⟩) (by assumption) ?rq32
              refine tk 32 ⟨some 98, .pick (.tmp 92) (.const (.bool true)) (.tmp 97), 4, "ref.go:57", #[⟨26, .data⟩, ⟨31, .data⟩], none⟩ (?vq33) rfl (fun _ _ _ h => h) (.inl ⟨by rfl, ?yq33⟩) (by assumption) ?rq33
              case yq33 => intro w hSw; go_simp; try with_reducible rfl
              try simp only [Act.put, List.setIfInBounds_toArray, List.set_cons_zero, List.set_cons_succ]
              refine wpAnyH_done (by kernel_rfl) ?_ _
              refine NoPanic.normal ?_
              try simp only [Act.put, List.setIfInBounds_toArray, List.set_cons_zero, List.set_cons_succ]
              have HA2 : Hid ((16, y.f) = Z) := by show _ = _; have := HA.out; rwa [if_neg (by simp only [Bool.and_eq_true, Bool.or_eq_true, decide_eq_true_eq, beq_iff_eq]; omega)] at this
              clear HA
              have e0 := S1.out.1
              clear S0 S1 S2 G1 G2 G3 GDd hHeld
              generalize W1.drew = W9 at *
              go_wp2
              go_quiet (fail)
              go_wp2
              go_ret2
              refine ⟨?_, below_drewN HBd.out _⟩
              rw [← HA2.out]
              rfl
            · have p1 : 0 ≤ F1 := by omega
              refine tk 4 ⟨some 70, .binOp .lss 3 (.tmp 69) (.const (.int .i64 0)) 3, 4, "ref.go:57", #[⟨3, .data⟩], none⟩ (.bool false) rfl (fun _ _ _ h => h) (.inl ⟨by rfl, ?yq34⟩) (by assumption) ?rq34
              case yq34 => intro w hSw; go_simp; all_goals (simpa using hF1)
              try simp only [Act.put, List.setIfInBounds_toArray, List.set_cons_zero, List.set_cons_succ]
              refine tk 5 ⟨some 71, .move (.tmp 70), 4, "ref.go:57", #[⟨4, .data⟩, ⟨3, .chain⟩], none⟩ (?vq35) rfl (fun _ _ _ h => h) (.inl ⟨by rfl, ?yq35⟩) (by assumption) ?rq35
              case yq35 => intro w hSw; go_simp; try with_reducible rfl
              try simp only [Act.put, List.setIfInBounds_toArray, List.set_cons_zero, List.set_cons_succ]
              refine tk 6 ⟨some 72, .move (.tmp 0), 33, "ref.go:57", #[⟨5, .guard⟩], some (5, false)⟩ (?vq36) rfl (fun _ _ _ h => h) (.inl ⟨by rfl, ?yq36⟩) (by assumption) ?rq36
              case yq36 => intro w hSw; go_simp; try with_reducible rfl
              try simp only [Act.put, List.setIfInBounds_toArray, List.set_cons_zero, List.set_cons_succ]
              refine tk 7 ⟨some 73, .fieldAddr 76 (.tmp 11) 2, 0, "ref.go:57", #[⟨5, .guard⟩], some (5, false)⟩ (?vq37) rfl (fun _ _ _ h => h) (.inl ⟨by rfl, ?yq37⟩) (by assumption) ?rq37
              case yq37 => intro w hSw; go_simp; try with_reducible rfl
              try simp only [Act.put, List.setIfInBounds_toArray, List.set_cons_zero, List.set_cons_succ]
              refine tk 8 ⟨some 74, .load 3 (.tmp 73), 3, "ref.go:57", #[⟨7, .data⟩, ⟨5, .guard⟩], some (5, false)⟩ (?vq38) rfl (fun _ _ _ h => h) (.inl ⟨by rfl, ?yq38⟩) (by assumption) ?rq38
              case yq38 => intro w hSw; go_simp; try with_reducible rfl
              try simp only [Act.put, List.setIfInBounds_toArray, List.set_cons_zero, List.set_cons_succ]
              refine wpAnyH_ready (rs := [9]) (by kernel_rfl) (by simp) ?_
              refine AllReadyH.cons (o := ⟨some 75, .call { callee := .value (.func 19), args := #[.tmp 72, .tmp 74], argTypes := #[33, 3] }, 3, "ref.go:57", #[⟨6, .data⟩, ⟨8, .data⟩, ⟨5, .chain⟩, ⟨5, .guard⟩], some (5, false)⟩) rfl (fun K hK => ?_) AllReadyH.nil
              go_simp
              go_at_call 19; refine (G2.out _ (Below.refl _ _)).mono ?_; rintro e w' ⟨rfl, hww⟩; cases hww
              try go_wp2_with fail
              refine hK.out _ _ ?hSq39 ?restq39
              case hSq39 => (try dsimp only); first | exact S0.out | exact S1.out | exact S2.out _ (by assumption)
              clear hK K hHeld
              intro hHeld
              try simp only [Act.put, List.setIfInBounds_toArray, List.set_cons_zero, List.set_cons_succ]
              by_cases hF2 : F2 < 0
              · have n2 : ¬ 0 ≤ F2 := by omega
                refine tk 10 ⟨some 76, .binOp .lss 3 (.tmp 75) (.const (.int .i64 0)) 3, 4, "ref.go:57", #[⟨9, .data⟩, ⟨5, .guard⟩], some (5, false)⟩ (.bool true) rfl (fun _ _ _ h => h) (.inl ⟨by rfl, ?yq40⟩) (by assumption) ?rq40
                case yq40 => intro w hSw; go_simp; all_goals (simpa using hF2)
                try simp only [Act.put, List.setIfInBounds_toArray, List.set_cons_zero, List.set_cons_succ]
                refine tk 11 ⟨some 77, .pick (.tmp 71) (.const (.bool true)) (.tmp 76), 4, "ref.go:57", #[⟨5, .data⟩, ⟨10, .data⟩], none⟩ (?vq41) rfl (fun _ _ _ h => h) (.inl ⟨by rfl, ?yq41⟩) (by assumption) ?rq41
                case yq41 => intro w hSw; go_simp; try with_reducible rfl
                try simp only [Act.put, List.setIfInBounds_toArray, List.set_cons_zero, List.set_cons_succ]
                refine tk 12 ⟨some 78, .move (.tmp 77), 4, "ref.go:57", #[⟨11, .data⟩, ⟨9, .chain⟩], none⟩ (?vq42) rfl (fun _ _ _ h => h) (.inl ⟨by rfl, ?yq42⟩) (by assumption) ?rq42
                case yq42 => intro w hSw; go_simp; try with_reducible rfl
                try simp only [Act.put, List.setIfInBounds_toArray, List.set_cons_zero, List.set_cons_succ]
                refine tk 13 ⟨some 79, .move (.tmp 0), 33, "ref.go:57", #[⟨12, .guard⟩], some (12, false)⟩ undef rfl (fun _ _ _ h => h) (.inr ⟨by kernel_rfl, rfl⟩) (by assumption) ?rq43
                refine tk 14 ⟨some 80, .fieldAddr 76 (.tmp 11) 1, 0, "ref.go:57", #[⟨12, .guard⟩], some (12, false)⟩ undef rfl (fun _ _ _ h => h) (.inr ⟨by kernel_rfl, rfl⟩) (by assumption) ?rq44
                refine tk 15 ⟨some 81, .load 3 (.tmp 80), 3, "ref.go:57", #[⟨14, .data⟩, ⟨12, .guard⟩], some (12, false)⟩ undef rfl (fun _ _ _ h => h) (.inr ⟨by kernel_rfl, rfl⟩) (by assumption) ?rq45
                refine tk 16 ⟨some 82, .call { callee := .value (.func 19), args := #[.tmp 79, .tmp 81], argTypes := #[33, 3] }, 3, "ref.go:57", #[⟨13, .data⟩, ⟨15, .data⟩, ⟨12, .chain⟩, ⟨12, .guard⟩], some (12, false)⟩ undef rfl (fun _ _ _ h => h) (.inr ⟨by kernel_rfl, rfl⟩) (by assumption) ?rq46
                refine tk 17 ⟨some 83, .binOp .lss 3 (.tmp 82) (.const (.int .i64 0)) 3, 4, "ref.go:57", #[⟨16, .data⟩, ⟨12, .guard⟩], some (12, false)⟩ undef rfl (fun _ _ _ h => h) (.inr ⟨by kernel_rfl, rfl⟩) (by assumption) ?rq47
                refine tk 18 ⟨some 84, .move (.tmp 83), 4, "ref.go:57", #[⟨17, .data⟩, ⟨16, .chain⟩, ⟨12, .guard⟩], some (12, false)⟩ undef rfl (fun _ _ _ h => h) (.inr ⟨by kernel_rfl, rfl⟩) (by assumption) ?rq48
                refine tk 19 ⟨some 85, .fieldAddr 76 (.tmp 11) 1, 0, "ref.go:57", #[⟨18, .guard⟩], some (18, true)⟩ undef rfl (fun _ _ _ h => h) (.inr ⟨by kernel_rfl, rfl⟩) (by assumption) ?rq49
                refine tk 20 ⟨some 86, .load 3 (.tmp 85), 3, "ref.go:57", #[⟨19, .data⟩, ⟨18, .guard⟩], some (18, true)⟩ undef rfl (fun _ _ _ h => h) (.inr ⟨by kernel_rfl, rfl⟩) (by assumption) ?rq50
                refine tk 21 ⟨some 87, .move (.tmp 0), 33, "ref.go:57", #[⟨18, .guard⟩], some (18, true)⟩ undef rfl (fun _ _ _ h => h) (.inr ⟨by kernel_rfl, rfl⟩) (by assumption) ?rq51
                refine tk 22 ⟨some 88, .call { callee := .value (.func 45), args := #[.tmp 87], argTypes := #[33] }, 3, "ref.go:57", #[⟨21, .data⟩, ⟨18, .chain⟩, ⟨18, .guard⟩], some (18, true)⟩ undef rfl (fun _ _ _ h => h) (.inr ⟨by kernel_rfl, rfl⟩) (by assumption) ?rq52
                refine tk 23 ⟨some 89, .binOp .neq 3 (.tmp 86) (.tmp 88) 3, 4, "ref.go:57", #[⟨20, .data⟩, ⟨22, .data⟩, ⟨18, .guard⟩], some (18, true)⟩ undef rfl (fun _ _ _ h => h) (.inr ⟨by kernel_rfl, rfl⟩) (by assumption) ?rq53
                refine tk 24 ⟨some 90, .pick (.tmp 84) (.tmp 89) (.const (.bool false)), 4, "ref.go:57", #[⟨18, .data⟩, ⟨23, .data⟩, ⟨12, .guard⟩], some (12, false)⟩ undef rfl (fun _ _ _ h => h) (.inr ⟨by kernel_rfl, rfl⟩) (by assumption) ?rq54
                refine tk 25 ⟨some 91, .pick (.tmp 78) (.const (.bool true)) (.tmp 90), 4, "ref.go:57", #[⟨12, .data⟩, ⟨24, .data⟩], none⟩ (?vq55) rfl (fun _ _ _ h => h) (.inl ⟨by rfl, ?yq55⟩) (by assumption) ?rq55
                case yq55 => intro w hSw; go_simp; try with_reducible rfl
                try simp only [Act.put, List.setIfInBounds_toArray, List.set_cons_zero, List.set_cons_succ]
                refine tk 26 ⟨some 92, .move (.tmp 91), 4, "ref.go:57", #[⟨25, .data⟩, ⟨22, .chain⟩], none⟩ (?vq56) rfl (fun _ _ _ h => h) (.inl ⟨by rfl, ?yq56⟩) (by assumption) ?rq56
                case yq56 => intro w hSw; go_simp; try with_reducible rfl
                try simp only [Act.put, List.setIfInBounds_toArray, List.set_cons_zero, List.set_cons_succ]
                refine tk 27 ⟨some 93, .fieldAddr 76 (.tmp 11) 0, 0, "ref.go:57", #[⟨26, .guard⟩], some (26, false)⟩ undef rfl (fun _ _ _ h => h) (.inr ⟨by kernel_rfl, rfl⟩) (by assumption) ?rq57
                refine tk 28 ⟨some 94, .load 3 (.tmp 93), 3, "ref.go:57", #[⟨27, .data⟩, ⟨26, .guard⟩], some (26, false)⟩ undef rfl (fun _ _ _ h => h) (.inr ⟨by kernel_rfl, rfl⟩) (by assumption) ?rq58
                refine tk 29 ⟨some 95, .fieldAddr 76 (.tmp 11) 1, 0, "ref.go:57", #[⟨26, .guard⟩], some (26, false)⟩ undef rfl (fun _ _ _ h => h) (.inr ⟨by kernel_rfl, rfl⟩) (by assumption) ?rq59
                refine tk 30 ⟨some 96, .load 3 (.tmp 95), 3, "ref.go:57", #[⟨29, .data⟩, ⟨26, .guard⟩], some (26, false)⟩ undef rfl (fun _ _ _ h => h) (.inr ⟨by kernel_rfl, rfl⟩) (by assumption) ?rq60
                refine tk 31 ⟨some 97, .binOp .geq 3 (.tmp 94) (.tmp 96) 3, 4, "ref.go:57", #[⟨28, .data⟩, ⟨30, .data⟩, ⟨26, .guard⟩], some (26, false)⟩ undef rfl (fun _ _ _ h => h) (.inr ⟨by kernel_rfl, rfl⟩) (by assumption) ?rq61
                refine tk 32 ⟨some 98, .pick (.tmp 92) (.const (.bool true)) (.tmp 97), 4, "ref.go:57", #[⟨26, .data⟩, ⟨31, .data⟩], none⟩ (?vq62) rfl (fun _ _ _ h => h) (.inl ⟨by rfl, ?yq62⟩) (by assumption) ?rq62
                case yq62 => intro w hSw; go_simp; try with_reducible rfl
                try simp only [Act.put, List.setIfInBounds_toArray, List.set_cons_zero, List.set_cons_succ]
                refine wpAnyH_done (by kernel_rfl) ?_ _
                refine NoPanic.normal ?_
                try simp only [Act.put, List.setIfInBounds_toArray, List.set_cons_zero, List.set_cons_succ]
                have HA2 : Hid ((16, y.f) = Z) := by show _ = _; have := HA.out; rwa [if_neg (by simp only [Bool.and_eq_true, Bool.or_eq_true, decide_eq_true_eq, beq_iff_eq]; omega)] at this
                clear HA
                have e0 := S1.out.1
                clear S0 S1 S2 G1 G2 G3 GDd hHeld
                generalize W1.drew = W9 at *
                go_wp2
                go_quiet (fail)
                go_wp2
                go_ret2
                refine ⟨?_, below_drewN HBd.out _⟩
                rw [← HA2.out]
                rfl
              · have p2 : 0 ≤ F2 := by omega
                refine tk 10 ⟨some 76, .binOp .lss 3 (.tmp 75) (.const (.int .i64 0)) 3, 4, "ref.go:57", #[⟨9, .data⟩, ⟨5, .guard⟩], some (5, false)⟩ (.bool false) rfl (fun _ _ _ h => h) (.inl ⟨by rfl, ?yq63⟩) (by assumption) ?rq63
                case yq63 => intro w hSw; go_simp; all_goals (simpa using hF2)
                try simp only [Act.put, List.setIfInBounds_toArray, List.set_cons_zero, List.set_cons_succ]
                refine tk 11 ⟨some 77, .pick (.tmp 71) (.const (.bool true)) (.tmp 76), 4, "ref.go:57", #[⟨5, .data⟩, ⟨10, .data⟩], none⟩ (?vq64) rfl (fun _ _ _ h => h) (.inl ⟨by rfl, ?yq64⟩) (by assumption) ?rq64
                case yq64 => intro w hSw; go_simp; try with_reducible rfl
                try simp only [Act.put, List.setIfInBounds_toArray, List.set_cons_zero, List.set_cons_succ]
                refine tk 12 ⟨some 78, .move (.tmp 77), 4, "ref.go:57", #[⟨11, .data⟩, ⟨9, .chain⟩], none⟩ (?vq65) rfl (fun _ _ _ h => h) (.inl ⟨by rfl, ?yq65⟩) (by assumption) ?rq65
                case yq65 => intro w hSw; go_simp; try with_reducible rfl
                try simp only [Act.put, List.setIfInBounds_toArray, List.set_cons_zero, List.set_cons_succ]
                refine tk 13 ⟨some 79, .move (.tmp 0), 33, "ref.go:57", #[⟨12, .guard⟩], some (12, false)⟩ (?vq66) rfl (fun _ _ _ h => h) (.inl ⟨by rfl, ?yq66⟩) (by assumption) ?rq66
                case yq66 => intro w hSw; go_simp; try with_reducible rfl
                try simp only [Act.put, List.setIfInBounds_toArray, List.set_cons_zero, List.set_cons_succ]
                refine tk 14 ⟨some 80, .fieldAddr 76 (.tmp 11) 1, 0, "ref.go:57", #[⟨12, .guard⟩], some (12, false)⟩ (?vq67) rfl (fun _ _ _ h => h) (.inl ⟨by rfl, ?yq67⟩) (by assumption) ?rq67
                case yq67 => intro w hSw; go_simp; try with_reducible rfl
                try simp only [Act.put, List.setIfInBounds_toArray, List.set_cons_zero, List.set_cons_succ]
                refine tk 15 ⟨some 81, .load 3 (.tmp 80), 3, "ref.go:57", #[⟨14, .data⟩, ⟨12, .guard⟩], some (12, false)⟩ (?vq68) rfl (fun _ _ _ h => h) (.inl ⟨by rfl, ?yq68⟩) (by assumption) ?rq68
                case yq68 => intro w hSw; go_simp; try with_reducible rfl
                try simp only [Act.put, List.setIfInBounds_toArray, List.set_cons_zero, List.set_cons_succ]
                refine wpAnyH_ready (rs := [16]) (by kernel_rfl) (by simp) ?_
                refine AllReadyH.cons (o := ⟨some 82, .call { callee := .value (.func 19), args := #[.tmp 79, .tmp 81], argTypes := #[33, 3] }, 3, "ref.go:57", #[⟨13, .data⟩, ⟨15, .data⟩, ⟨12, .chain⟩, ⟨12, .guard⟩], some (12, false)⟩) rfl (fun K hK => ?_) AllReadyH.nil
                go_simp
                go_at_call 19; refine (G3.out _ (Below.refl _ _)).mono ?_; rintro e w' ⟨rfl, hww⟩; cases hww
                try go_wp2_with fail
                refine hK.out _ _ ?hSq69 ?restq69
                case hSq69 => (try dsimp only); first | exact S0.out | exact S1.out | exact S2.out _ (by assumption)
                clear hK K hHeld
                intro hHeld
                try simp only [Act.put, List.setIfInBounds_toArray, List.set_cons_zero, List.set_cons_succ]
                by_cases hF3 : F3 < 0
                · have n3 : ¬ 0 ≤ F3 := by omega
                  refine tk 17 ⟨some 83, .binOp .lss 3 (.tmp 82) (.const (.int .i64 0)) 3, 4, "ref.go:57", #[⟨16, .data⟩, ⟨12, .guard⟩], some (12, false)⟩ (.bool true) rfl (fun _ _ _ h => h) (.inl ⟨by rfl, ?yq70⟩) (by assumption) ?rq70
                  case yq70 => intro w hSw; go_simp; all_goals (simpa using hF3)
                  try simp only [Act.put, List.setIfInBounds_toArray, List.set_cons_zero, List.set_cons_succ]
                  refine tk 18 ⟨some 84, .move (.tmp 83), 4, "ref.go:57", #[⟨17, .data⟩, ⟨16, .chain⟩, ⟨12, .guard⟩], some (12, false)⟩ (?vq71) rfl (fun _ _ _ h => h) (.inl ⟨by rfl, ?yq71⟩) (by assumption) ?rq71
                  case yq71 => intro w hSw; go_simp; try with_reducible rfl
                  try simp only [Act.put, List.setIfInBounds_toArray, List.set_cons_zero, List.set_cons_succ]
                  refine tk 19 ⟨some 85, .fieldAddr 76 (.tmp 11) 1, 0, "ref.go:57", #[⟨18, .guard⟩], some (18, true)⟩ (?vq72) rfl (fun _ _ _ h => h) (.inl ⟨by rfl, ?yq72⟩) (by assumption) ?rq72
                  case yq72 => intro w hSw; go_simp; try with_reducible rfl
                  try simp only [Act.put, List.setIfInBounds_toArray, List.set_cons_zero, List.set_cons_succ]
                  refine tk 20 ⟨some 86, .load 3 (.tmp 85), 3, "ref.go:57", #[⟨19, .data⟩, ⟨18, .guard⟩], some (18, true)⟩ (?vq73) rfl (fun _ _ _ h => h) (.inl ⟨by rfl, ?yq73⟩) (by assumption) ?rq73
                  case yq73 => intro w hSw; go_simp; try with_reducible rfl
                  try simp only [Act.put, List.setIfInBounds_toArray, List.set_cons_zero, List.set_cons_succ]
                  refine tk 21 ⟨some 87, .move (.tmp 0), 33, "ref.go:57", #[⟨18, .guard⟩], some (18, true)⟩ (?vq74) rfl (fun _ _ _ h => h) (.inl ⟨by rfl, ?yq74⟩) (by assumption) ?rq74
                  case yq74 => intro w hSw; go_simp; try with_reducible rfl
                  try simp only [Act.put, List.setIfInBounds_toArray, List.set_cons_zero, List.set_cons_succ]
                  refine wpAnyH_ready (rs := [22]) (by kernel_rfl) (by simp) ?_
                  refine AllReadyH.cons (o := ⟨some 88, .call { callee := .value (.func 45), args := #[.tmp 87], argTypes := #[33] }, 3, "ref.go:57", #[⟨21, .data⟩, ⟨18, .chain⟩, ⟨18, .guard⟩], some (18, true)⟩) rfl (fun K hK => ?_) AllReadyH.nil
                  go_simp
                  go_at_call 45; refine GDd.out.mono ?_; rintro e w2 ⟨rfl, b2⟩
                  try go_wp2_with fail
                  refine hK.out _ _ ?hSq75 ?restq75
                  case hSq75 => (try dsimp only); first | exact S0.out | exact S1.out | exact S2.out _ (by assumption)
                  clear hK K hHeld
                  intro hHeld
                  try simp only [Act.put, List.setIfInBounds_toArray, List.set_cons_zero, List.set_cons_succ]
                  by_cases hE : y.t = E
                  · have TT := True.intro
                    refine tk 23 ⟨some 89, .binOp .neq 3 (.tmp 86) (.tmp 88) 3, 4, "ref.go:57", #[⟨20, .data⟩, ⟨22, .data⟩, ⟨18, .guard⟩], some (18, true)⟩ (.bool false) rfl (fun _ _ _ h => h) (.inl ⟨by rfl, ?yq76⟩) (by assumption) ?rq76
                    case yq76 => intro w hSw; go_simp; all_goals (simpa using hE)
                    try simp only [Act.put, List.setIfInBounds_toArray, List.set_cons_zero, List.set_cons_succ]
                    refine tk 24 ⟨some 90, .pick (.tmp 84) (.tmp 89) (.const (.bool false)), 4, "ref.go:57", #[⟨18, .data⟩, ⟨23, .data⟩, ⟨12, .guard⟩], some (12, false)⟩ (?vq77) rfl (fun _ _ _ h => h) (.inl ⟨by rfl, ?yq77⟩) (by assumption) ?rq77
                    case yq77 => intro w hSw; go_simp; try with_reducible rfl
                    try simp only [Act.put, List.setIfInBounds_toArray, List.set_cons_zero, List.set_cons_succ]
                    refine tk 25 ⟨some 91, .pick (.tmp 78) (.const (.bool true)) (.tmp 90), 4, "ref.go:57", #[⟨12, .data⟩, ⟨24, .data⟩], none⟩ (?vq78) rfl (fun _ _ _ h => h) (.inl ⟨by rfl, ?yq78⟩) (by assumption) ?rq78
                    case yq78 => intro w hSw; go_simp; try with_reducible rfl
                    try simp only [Act.put, List.setIfInBounds_toArray, List.set_cons_zero, List.set_cons_succ]
                    refine tk 26 ⟨some 92, .move (.tmp 91), 4, "ref.go:57", #[⟨25, .data⟩, ⟨22, .chain⟩], none⟩ (?vq79) rfl (fun _ _ _ h => h) (.inl ⟨by rfl, ?yq79⟩) (by assumption) ?rq79
                    case yq79 => intro w hSw; go_simp; try with_reducible rfl
                    try simp only [Act.put, List.setIfInBounds_toArray, List.set_cons_zero, List.set_cons_succ]
                    refine tk 27 ⟨some 93, .fieldAddr 76 (.tmp 11) 0, 0, "ref.go:57", #[⟨26, .guard⟩], some (26, false)⟩ (?vq80) rfl (fun _ _ _ h => h) (.inl ⟨by rfl, ?yq80⟩) (by assumption) ?rq80
                    case yq80 => intro w hSw; go_simp; try with_reducible rfl
                    try simp only [Act.put, List.setIfInBounds_toArray, List.set_cons_zero, List.set_cons_succ]
                    refine tk 28 ⟨some 94, .load 3 (.tmp 93), 3, "ref.go:57", #[⟨27, .data⟩, ⟨26, .guard⟩], some (26, false)⟩ (?vq81) rfl (fun _ _ _ h => h) (.inl ⟨by rfl, ?yq81⟩) (by assumption) ?rq81
                    case yq81 => intro w hSw; go_simp; try with_reducible rfl
                    try simp only [Act.put, List.setIfInBounds_toArray, List.set_cons_zero, List.set_cons_succ]
                    refine tk 29 ⟨some 95, .fieldAddr 76 (.tmp 11) 1, 0, "ref.go:57", #[⟨26, .guard⟩], some (26, false)⟩ (?vq82) rfl (fun _ _ _ h => h) (.inl ⟨by rfl, ?yq82⟩) (by assumption) ?rq82
                    case yq82 => intro w hSw; go_simp; try with_reducible rfl
                    try simp only [Act.put, List.setIfInBounds_toArray, List.set_cons_zero, List.set_cons_succ]
                    refine tk 30 ⟨some 96, .load 3 (.tmp 95), 3, "ref.go:57", #[⟨29, .data⟩, ⟨26, .guard⟩], some (26, false)⟩ (?vq83) rfl (fun _ _ _ h => h) (.inl ⟨by rfl, ?yq83⟩) (by assumption) ?rq83
                    case yq83 => intro w hSw; go_simp; try with_reducible rfl
                    try simp only [Act.put, List.setIfInBounds_toArray, List.set_cons_zero, List.set_cons_succ]
                    by_cases hG : y.f < y.t
                    · have hG' : ¬ y.t ≤ y.f := by omega
                      refine tk 31 ⟨some 97, .binOp .geq 3 (.tmp 94) (.tmp 96) 3, 4, "ref.go:57", #[⟨28, .data⟩, ⟨30, .data⟩, ⟨26, .guard⟩], some (26, false)⟩ (.bool false) rfl (fun _ _ _ h => h) (.inl ⟨by rfl, ?yq84⟩) (by assumption) ?rq84
                      case yq84 => intro w hSw; go_simp; all_goals (first | simpa using hG' | simpa [hE] using hG')
                      try simp only [Act.put, List.setIfInBounds_toArray, List.set_cons_zero, List.set_cons_succ]
                      refine tk 32 ⟨some 98, .pick (.tmp 92) (.const (.bool true)) (.tmp 97), 4, "ref.go:57", #[⟨26, .data⟩, ⟨31, .data⟩], none⟩ (?vq85) rfl (fun _ _ _ h => h) (.inl ⟨by rfl, ?yq85⟩) (by assumption) ?rq85
                      case yq85 => intro w hSw; go_simp; try with_reducible rfl
                      try simp only [Act.put, List.setIfInBounds_toArray, List.set_cons_zero, List.set_cons_succ]
                      refine wpAnyH_done (by kernel_rfl) ?_ _
                      refine NoPanic.normal ?_
                      try simp only [Act.put, List.setIfInBounds_toArray, List.set_cons_zero, List.set_cons_succ]
                      have HA2 : Hid (handF l FZ (h.drop (k + 1)) = Z) := by show _ = _; have := HA.out; rwa [if_pos (by simp only [Bool.and_eq_true, Bool.or_eq_true, decide_eq_true_eq, beq_iff_eq]; omega)] at this
                      clear HA
                      have HBe : Hid (Below w.heap.size w w2) := HBd.out.trans (b2.mono HBd.out.size)
                      have e0 := (S2.out w2 b2).1
                      clear b2
                      clear S0 S1 S2 G1 G2 G3 GDd hHeld
                      go_wp2
                      exact ⟨⟨k + 1, by omega, by go_num, HBe.out, HA2.out⟩, by simp [intOf]; omega⟩
                    · have hG' : y.t ≤ y.f := by omega
                      refine tk 31 ⟨some 97, .binOp .geq 3 (.tmp 94) (.tmp 96) 3, 4, "ref.go:57", #[⟨28, .data⟩, ⟨30, .data⟩, ⟨26, .guard⟩], some (26, false)⟩ (.bool true) rfl (fun _ _ _ h => h) (.inl ⟨by rfl, ?yq86⟩) (by assumption) ?rq86
                      case yq86 => intro w hSw; go_simp; all_goals (first | simpa using hG' | simpa [hE] using hG')
                      try simp only [Act.put, List.setIfInBounds_toArray, List.set_cons_zero, List.set_cons_succ]
                      refine tk 32 ⟨some 98, .pick (.tmp 92) (.const (.bool true)) (.tmp 97), 4, "ref.go:57", #[⟨26, .data⟩, ⟨31, .data⟩], none⟩ (?vq87) rfl (fun _ _ _ h => h) (.inl ⟨by rfl, ?yq87⟩) (by assumption) ?rq87
                      case yq87 => intro w hSw; go_simp; try with_reducible rfl
                      try simp only [Act.put, List.setIfInBounds_toArray, List.set_cons_zero, List.set_cons_succ]
                      refine wpAnyH_done (by kernel_rfl) ?_ _
                      refine NoPanic.normal ?_
                      try simp only [Act.put, List.setIfInBounds_toArray, List.set_cons_zero, List.set_cons_succ]
                      have HA2 : Hid ((16, y.f) = Z) := by show _ = _; have := HA.out; rwa [if_neg (by simp only [Bool.and_eq_true, Bool.or_eq_true, decide_eq_true_eq, beq_iff_eq]; omega)] at this
                      clear HA
                      have HBe : Hid (Below w.heap.size w w2) := HBd.out.trans (b2.mono HBd.out.size)
                      have e0 := (S2.out w2 b2).1
                      clear b2
                      clear S0 S1 S2 G1 G2 G3 GDd hHeld
                      go_wp2
                      go_quiet (fail)
                      go_wp2
                      go_ret2
                      refine ⟨?_, below_drewN HBe.out _⟩
                      rw [← HA2.out]
                      rfl
                  · have TT := True.intro
                    refine tk 23 ⟨some 89, .binOp .neq 3 (.tmp 86) (.tmp 88) 3, 4, "ref.go:57", #[⟨20, .data⟩, ⟨22, .data⟩, ⟨18, .guard⟩], some (18, true)⟩ (.bool true) rfl (fun _ _ _ h => h) (.inl ⟨by rfl, ?yq88⟩) (by assumption) ?rq88
                    case yq88 => intro w hSw; go_simp; all_goals (simpa using hE)
                    try simp only [Act.put, List.setIfInBounds_toArray, List.set_cons_zero, List.set_cons_succ]
                    refine tk 24 ⟨some 90, .pick (.tmp 84) (.tmp 89) (.const (.bool false)), 4, "ref.go:57", #[⟨18, .data⟩, ⟨23, .data⟩, ⟨12, .guard⟩], some (12, false)⟩ (?vq89) rfl (fun _ _ _ h => h) (.inl ⟨by rfl, ?yq89⟩) (by assumption) ?rq89
                    case yq89 => intro w hSw; go_simp; try with_reducible rfl
                    try simp only [Act.put, List.setIfInBounds_toArray, List.set_cons_zero, List.set_cons_succ]
                    refine tk 25 ⟨some 91, .pick (.tmp 78) (.const (.bool true)) (.tmp 90), 4, "ref.go:57", #[⟨12, .data⟩, ⟨24, .data⟩], none⟩ (?vq90) rfl (fun _ _ _ h => h) (.inl ⟨by rfl, ?yq90⟩) (by assumption) ?rq90
                    case yq90 => intro w hSw; go_simp; try with_reducible rfl
                    try simp only [Act.put, List.setIfInBounds_toArray, List.set_cons_zero, List.set_cons_succ]
                    refine tk 26 ⟨some 92, .move (.tmp 91), 4, "ref.go:57", #[⟨25, .data⟩, ⟨22, .chain⟩], none⟩ (?vq91) rfl (fun _ _ _ h => h) (.inl ⟨by rfl, ?yq91⟩) (by assumption) ?rq91
                    case yq91 => intro w hSw; go_simp; try with_reducible rfl
                    try simp only [Act.put, List.setIfInBounds_toArray, List.set_cons_zero, List.set_cons_succ]
                    refine tk 27 ⟨some 93, .fieldAddr 76 (.tmp 11) 0, 0, "ref.go:57", #[⟨26, .guard⟩], some (26, false)⟩ undef rfl (fun _ _ _ h => h) (.inr ⟨by kernel_rfl, rfl⟩) (by assumption) ?rq92
                    refine tk 28 ⟨some 94, .load 3 (.tmp 93), 3, "ref.go:57", #[⟨27, .data⟩, ⟨26, .guard⟩], some (26, false)⟩ undef rfl (fun _ _ _ h => h) (.inr ⟨by kernel_rfl, rfl⟩) (by assumption) ?rq93
                    refine tk 29 ⟨some 95, .fieldAddr 76 (.tmp 11) 1, 0, "ref.go:57", #[⟨26, .guard⟩], some (26, false)⟩ undef rfl (fun _ _ _ h => h) (.inr ⟨by kernel_rfl, rfl⟩) (by assumption) ?rq94
                    refine tk 30 ⟨some 96, .load 3 (.tmp 95), 3, "ref.go:57", #[⟨29, .data⟩, ⟨26, .guard⟩], some (26, false)⟩ undef rfl (fun _ _ _ h => h) (.inr ⟨by kernel_rfl, rfl⟩) (by assumption) ?rq95
                    refine tk 31 ⟨some 97, .binOp .geq 3 (.tmp 94) (.tmp 96) 3, 4, "ref.go:57", #[⟨28, .data⟩, ⟨30, .data⟩, ⟨26, .guard⟩], some (26, false)⟩ undef rfl (fun _ _ _ h => h) (.inr ⟨by kernel_rfl, rfl⟩) (by assumption) ?rq96
                    refine tk 32 ⟨some 98, .pick (.tmp 92) (.const (.bool true)) (.tmp 97), 4, "ref.go:57", #[⟨26, .data⟩, ⟨31, .data⟩], none⟩ (?vq97) rfl (fun _ _ _ h => h) (.inl ⟨by rfl, ?yq97⟩) (by assumption) ?rq97
                    case yq97 => intro w hSw; go_simp; try with_reducible rfl
                    try simp only [Act.put, List.setIfInBounds_toArray, List.set_cons_zero, List.set_cons_succ]
                    refine wpAnyH_done (by kernel_rfl) ?_ _
                    refine NoPanic.normal ?_
                    try simp only [Act.put, List.setIfInBounds_toArray, List.set_cons_zero, List.set_cons_succ]
                    have HA2 : Hid ((16, y.f) = Z) := by show _ = _; have := HA.out; rwa [if_neg (by simp only [Bool.and_eq_true, Bool.or_eq_true, decide_eq_true_eq, beq_iff_eq]; omega)] at this
                    clear HA
                    have HBe : Hid (Below w.heap.size w w2) := HBd.out.trans (b2.mono HBd.out.size)
                    have e0 := (S2.out w2 b2).1
                    clear b2
                    clear S0 S1 S2 G1 G2 G3 GDd hHeld
                    go_wp2
                    go_quiet (fail)
                    go_wp2
                    go_ret2
                    refine ⟨?_, below_drewN HBe.out _⟩
                    rw [← HA2.out]
                    rfl
                · have p3 : 0 ≤ F3 := by omega
                  refine tk 17 ⟨some 83, .binOp .lss 3 (.tmp 82) (.const (.int .i64 0)) 3, 4, "ref.go:57", #[⟨16, .data⟩, ⟨12, .guard⟩], some (12, false)⟩ (.bool false) rfl (fun _ _ _ h => h) (.inl ⟨by rfl, ?yq98⟩) (by assumption) ?rq98
                  case yq98 => intro w hSw; go_simp; all_goals (simpa using hF3)
                  try simp only [Act.put, List.setIfInBounds_toArray, List.set_cons_zero, List.set_cons_succ]
                  refine tk 18 ⟨some 84, .move (.tmp 83), 4, "ref.go:57", #[⟨17, .data⟩, ⟨16, .chain⟩, ⟨12, .guard⟩], some (12, false)⟩ (?vq99) rfl (fun _ _ _ h => h) (.inl ⟨by rfl, ?yq99⟩) (by assumption) ?rq99
                  case yq99 => intro w hSw; go_simp; try with_reducible rfl
                  try simp only [Act.put, List.setIfInBounds_toArray, List.set_cons_zero, List.set_cons_succ]
                  refine tk 19 ⟨some 85, .fieldAddr 76 (.tmp 11) 1, 0, "ref.go:57", #[⟨18, .guard⟩], some (18, true)⟩ undef rfl (fun _ _ _ h => h) (.inr ⟨by kernel_rfl, rfl⟩) (by assumption) ?rq100
                  refine tk 20 ⟨some 86, .load 3 (.tmp 85), 3, "ref.go:57", #[⟨19, .data⟩, ⟨18, .guard⟩], some (18, true)⟩ undef rfl (fun _ _ _ h => h) (.inr ⟨by kernel_rfl, rfl⟩) (by assumption) ?rq101
                  refine tk 21 ⟨some 87, .move (.tmp 0), 33, "ref.go:57", #[⟨18, .guard⟩], some (18, true)⟩ undef rfl (fun _ _ _ h => h) (.inr ⟨by kernel_rfl, rfl⟩) (by assumption) ?rq102
                  refine tk 22 ⟨some 88, .call { callee := .value (.func 45), args := #[.tmp 87], argTypes := #[33] }, 3, "ref.go:57", #[⟨21, .data⟩, ⟨18, .chain⟩, ⟨18, .guard⟩], some (18, true)⟩ undef rfl (fun _ _ _ h => h) (.inr ⟨by kernel_rfl, rfl⟩) (by assumption) ?rq103
                  refine tk 23 ⟨some 89, .binOp .neq 3 (.tmp 86) (.tmp 88) 3, 4, "ref.go:57", #[⟨20, .data⟩, ⟨22, .data⟩, ⟨18, .guard⟩], some (18, true)⟩ undef rfl (fun _ _ _ h => h) (.inr ⟨by kernel_rfl, rfl⟩) (by assumption) ?rq104
                  refine tk 24 ⟨some 90, .pick (.tmp 84) (.tmp 89) (.const (.bool false)), 4, "ref.go:57", #[⟨18, .data⟩, ⟨23, .data⟩, ⟨12, .guard⟩], some (12, false)⟩ (?vq105) rfl (fun _ _ _ h => h) (.inl ⟨by rfl, ?yq105⟩) (by assumption) ?rq105
                  case yq105 => intro w hSw; go_simp; try with_reducible rfl
                  try simp only [Act.put, List.setIfInBounds_toArray, List.set_cons_zero, List.set_cons_succ]
                  refine tk 25 ⟨some 91, .pick (.tmp 78) (.const (.bool true)) (.tmp 90), 4, "ref.go:57", #[⟨12, .data⟩, ⟨24, .data⟩], none⟩ (?vq106) rfl (fun _ _ _ h => h) (.inl ⟨by rfl, ?yq106⟩) (by assumption) ?rq106
                  case yq106 => intro w hSw; go_simp; try with_reducible rfl
                  try simp only [Act.put, List.setIfInBounds_toArray, List.set_cons_zero, List.set_cons_succ]
                  refine tk 26 ⟨some 92, .move (.tmp 91), 4, "ref.go:57", #[⟨25, .data⟩, ⟨22, .chain⟩], none⟩ (?vq107) rfl (fun _ _ _ h => h) (.inl ⟨by rfl, ?yq107⟩) (by assumption) ?rq107
                  case yq107 => intro w hSw; go_simp; try with_reducible rfl
                  try simp only [Act.put, List.setIfInBounds_toArray, List.set_cons_zero, List.set_cons_succ]
                  refine tk 27 ⟨some 93, .fieldAddr 76 (.tmp 11) 0, 0, "ref.go:57", #[⟨26, .guard⟩], some (26, false)⟩ (?vq108) rfl (fun _ _ _ h => h) (.inl ⟨by rfl, ?yq108⟩) (by assumption) ?rq108
                  case yq108 => intro w hSw; go_simp; try with_reducible rfl
                  try simp only [Act.put, List.setIfInBounds_toArray, List.set_cons_zero, List.set_cons_succ]
                  refine tk 28 ⟨some 94, .load 3 (.tmp 93), 3, "ref.go:57", #[⟨27, .data⟩, ⟨26, .guard⟩], some (26, false)⟩ (?vq109) rfl (fun _ _ _ h => h) (.inl ⟨by rfl, ?yq109⟩) (by assumption) ?rq109
                  case yq109 => intro w hSw; go_simp; try with_reducible rfl
                  try simp only [Act.put, List.setIfInBounds_toArray, List.set_cons_zero, List.set_cons_succ]
                  refine tk 29 ⟨some 95, .fieldAddr 76 (.tmp 11) 1, 0, "ref.go:57", #[⟨26, .guard⟩], some (26, false)⟩ (?vq110) rfl (fun _ _ _ h => h) (.inl ⟨by rfl, ?yq110⟩) (by assumption) ?rq110
                  case yq110 => intro w hSw; go_simp; try with_reducible rfl
                  try simp only [Act.put, List.setIfInBounds_toArray, List.set_cons_zero, List.set_cons_succ]
                  refine tk 30 ⟨some 96, .load 3 (.tmp 95), 3, "ref.go:57", #[⟨29, .data⟩, ⟨26, .guard⟩], some (26, false)⟩ (?vq111) rfl (fun _ _ _ h => h) (.inl ⟨by rfl, ?yq111⟩) (by assumption) ?rq111
                  case yq111 => intro w hSw; go_simp; try with_reducible rfl
                  try simp only [Act.put, List.setIfInBounds_toArray, List.set_cons_zero, List.set_cons_succ]
                  by_cases hG : y.f < y.t
                  · have hG' : ¬ y.t ≤ y.f := by omega
                    refine tk 31 ⟨some 97, .binOp .geq 3 (.tmp 94) (.tmp 96) 3, 4, "ref.go:57", #[⟨28, .data⟩, ⟨30, .data⟩, ⟨26, .guard⟩], some (26, false)⟩ (.bool false) rfl (fun _ _ _ h => h) (.inl ⟨by rfl, ?yq112⟩) (by assumption) ?rq112
                    case yq112 => intro w hSw; go_simp; all_goals (first | simpa using hG' | simpa [hE] using hG')
                    try simp only [Act.put, List.setIfInBounds_toArray, List.set_cons_zero, List.set_cons_succ]
                    refine tk 32 ⟨some 98, .pick (.tmp 92) (.const (.bool true)) (.tmp 97), 4, "ref.go:57", #[⟨26, .data⟩, ⟨31, .data⟩], none⟩ (?vq113) rfl (fun _ _ _ h => h) (.inl ⟨by rfl, ?yq113⟩) (by assumption) ?rq113
                    case yq113 => intro w hSw; go_simp; try with_reducible rfl
                    try simp only [Act.put, List.setIfInBounds_toArray, List.set_cons_zero, List.set_cons_succ]
                    refine wpAnyH_done (by kernel_rfl) ?_ _
                    refine NoPanic.normal ?_
                    try simp only [Act.put, List.setIfInBounds_toArray, List.set_cons_zero, List.set_cons_succ]
                    have HA2 : Hid (handF l FZ (h.drop (k + 1)) = Z) := by show _ = _; have := HA.out; rwa [if_pos (by simp only [Bool.and_eq_true, Bool.or_eq_true, decide_eq_true_eq, beq_iff_eq]; omega)] at this
                    clear HA
                    have e0 := S1.out.1
                    clear S0 S1 S2 G1 G2 G3 GDd hHeld
                    generalize W1.drew = W9 at *
                    go_wp2
                    exact ⟨⟨k + 1, by omega, by go_num, HBd.out, HA2.out⟩, by simp [intOf]; omega⟩
                  · have hG' : y.t ≤ y.f := by omega
                    refine tk 31 ⟨some 97, .binOp .geq 3 (.tmp 94) (.tmp 96) 3, 4, "ref.go:57", #[⟨28, .data⟩, ⟨30, .data⟩, ⟨26, .guard⟩], some (26, false)⟩ (.bool true) rfl (fun _ _ _ h => h) (.inl ⟨by rfl, ?yq114⟩) (by assumption) ?rq114
                    case yq114 => intro w hSw; go_simp; all_goals (first | simpa using hG' | simpa [hE] using hG')
                    try simp only [Act.put, List.setIfInBounds_toArray, List.set_cons_zero, List.set_cons_succ]
                    refine tk 32 ⟨some 98, .pick (.tmp 92) (.const (.bool true)) (.tmp 97), 4, "ref.go:57", #[⟨26, .data⟩, ⟨31, .data⟩], none⟩ (?vq115) rfl (fun _ _ _ h => h) (.inl ⟨by rfl, ?yq115⟩) (by assumption) ?rq115
                    case yq115 => intro w hSw; go_simp; try with_reducible rfl
                    try simp only [Act.put, List.setIfInBounds_toArray, List.set_cons_zero, List.set_cons_succ]
                    refine wpAnyH_done (by kernel_rfl) ?_ _
                    refine NoPanic.normal ?_
                    try simp only [Act.put, List.setIfInBounds_toArray, List.set_cons_zero, List.set_cons_succ]
                    have HA2 : Hid ((16, y.f) = Z) := by show _ = _; have := HA.out; rwa [if_neg (by simp only [Bool.and_eq_true, Bool.or_eq_true, decide_eq_true_eq, beq_iff_eq]; omega)] at this
                    clear HA
                    have e0 := S1.out.1
                    clear S0 S1 S2 G1 G2 G3 GDd hHeld
                    generalize W1.drew = W9 at *
                    go_wp2
                    go_quiet (fail)
                    go_wp2
                    go_ret2
                    refine ⟨?_, below_drewN HBd.out _⟩
                    rw [← HA2.out]
                    rfl
          · have hlt' : ¬ (k : Int) < (h.length : Int) := by omega
            obtain rfl : k = h.length := by omega
            rw [List.drop_length] at HA
            have HA2 : Hid (FZ = Z) := HA.out
            clear HA GD2 HU hlt
            go_wp2
            go_loopw [12, 13] (fun i _ wr => ∃ k : Nat, k ≤ fr.length ∧ i = .int .i64 (k : Int) ∧ Below w.heap.size w wr ∧ framF l (prevZ fr k) (fr.drop k) = FZ) (fun i _ _ => fr.length - (intOf i).toNat)
            case atStart => exact ⟨0, Nat.zero_le _, rfl, HB.out, HF0.out⟩
            case round =>
              clear HB HF0 hz hk hlt'
              obtain ⟨k, hk, rfl, hb, hA⟩ := hrel
              have HB := hidIt hb
              have HA := hidIt hA
              have hz := hb.size
              clear hb hA
              by_cases hlt : k < fr.length
              · have hlt' : (k : Int) < (fr.length : Int) := by omega
                obtain ⟨y, hy⟩ : ∃ y, fr[k]? = some y := ⟨fr[k], List.getElem?_eq_getElem hlt⟩
                obtain ⟨g3, off3, rfl, c0, c1, c2⟩ := (HF.out.below HB.out).row hy
                rw [drop_at hy, framF_cons] at HA
                have hnext : prevZ fr (k + 1) = some y.p := by unfold prevZ; rw [if_neg (by omega), Nat.add_sub_cancel, hy]; rfl
                rw [← hnext] at HA
                have G2 := hidIt (GF.out y.p _ HB.out)
                clear hnext
                by_cases hf : findZ l y.p < 0
                · rw [if_pos hf] at HA
                  generalize findZ l y.p = F at *
                  clear hy
                  go_wp2_with (first | (go_at_call 19; refine G2.out.mono ?_; rintro e w' ⟨rfl, hww⟩; cases hww))
                  go_ret2
                  refine ⟨?_, HB.out⟩
                  rw [← HA2.out, ← HA.out]
                  rfl
                · rw [if_neg hf] at HA
                  generalize findZ l y.p = F at *
                  by_cases hk0 : k = 0
                  · have hp : prevZ fr k = none := by unfold prevZ; rw [if_pos hk0]
                    rw [hp] at HA
                    have HA3 : Hid (framF l (prevZ fr (k + 1)) (fr.drop (k + 1)) = FZ) := HA.out
                    have hk0' : decide ((0 : Int) < (k : Int)) = false := by simpa using hk0
                    have hk0n : decide (0 < k) = false := by simpa using hk0
                    have hk0m : ¬ 0 < k := by omega
                    clear HA hp hk0 hy HF
                    go_wp2_with (first | (go_at_call 19; refine G2.out.mono ?_; rintro e w' ⟨rfl, hww⟩; cases hww))
                    exact ⟨⟨k + 1, by omega, by go_num, HB.out, HA3.out⟩, by simp [intOf]; omega⟩
                  · obtain ⟨z, hz3⟩ : ∃ z, fr[k - 1]? = some z := ⟨fr[k - 1], List.getElem?_eq_getElem (by omega)⟩
                    obtain ⟨g', off', e', y0, y1, y2⟩ := (HF.out.below HB.out).row hz3
                    cases e'
                    have hp : prevZ fr k = some z.p := by unfold prevZ; rw [if_neg hk0, hz3]; rfl
                    rw [hp] at HA
                    have HA3 : Hid ((if decide (y.p ≤ z.p) = true then ((21, y.p) : Int × Int) else framF l (prevZ fr (k + 1)) (fr.drop (k + 1))) = FZ) := HA.out
                    clear HA hp hz3 hy HF
                    obtain ⟨m, rfl⟩ : ∃ m, k = m + 1 := ⟨k - 1, by omega⟩
                    rw [show m + 1 - 1 = m by omega] at y0
                    have hkm : (0 : Int) < ((m + 1 : Nat) : Int) := by omega
                    by_cases hle : y.p ≤ z.p
                    · rw [decide_eq_true hle, if_pos rfl] at HA3
                      go_wp2_with (first | (go_at_call 19; refine G2.out.mono ?_; rintro e w' ⟨rfl, hww⟩; cases hww))
                      go_ret2
                      refine ⟨?_, HB.out⟩
                      rw [← HA2.out, ← HA3.out]
                      rfl
                    · rw [decide_eq_false hle, if_neg (by decide)] at HA3
                      go_wp2_with (first | (go_at_call 19; refine G2.out.mono ?_; rintro e w' ⟨rfl, hww⟩; cases hww))
                      exact ⟨⟨m + 1 + 1, by omega, by go_num, HB.out, HA3.out⟩, by simp [intOf]; omega⟩
              · have hlt' : ¬ (k : Int) < (fr.length : Int) := by omega
                obtain rfl : k = fr.length := by omega
                rw [List.drop_length] at HA
                have HA3 : Hid (((0, 0) : Int × Int) = FZ) := HA.out
                clear HA
                go_wp2
                go_ret2
                refine ⟨?_, HB.out⟩
                rw [← HA2.out, ← HA3.out]
                rfl
end Go.Proofs.Ytbmfkbgncjldjaa
