/- PoolWrites, walked. -/
import Derived.Test.YtjnaiekdbigikaaDoorRW
import Derived.Test.YtjnaiekdbigikaaDoorRG
import Derived.Test.YtjnaiekdbigikaaDoorBK
import Derived.Test.YtjnaiekdbigikaaDoorPN
import Derived.Deep.RegionWith
import Derived.Deep.CutRange
import Derived.Deep.QuietTactic
import Derived.BigQuiet
import Derived.Deep.RegionHeld3
namespace Go.Proofs.YtjnaiekdbigikaaDoor
open Go.RowKit

theorem wstep_below {pw C : Nat} {v v' : Value} {w w' : World} (st : WStep pw v w v' w') (hp : C ≤ pw) (hC : C ≤ w.heap.size) (hv : ∀ k, v.ownBlock = some k → C ≤ k) : Below C w w' :=
  ⟨st.os, st.tape, st.output, st.size, fun k hk => st.block k (by omega) (by omega) (fun e => by have := hv k e.symm; omega)⟩

set_option maxRecDepth 8000 in
set_option maxHeartbeats 16000000 in
theorem writes_any (v : Value) (l0 : List CD) (c : CD) (n kind : Int) (w : World) (hT : Tabs w) (hv0 : CView w v l0) (hs0 : ∀ c ∈ l0, c.Small) (hc : c.Ok) (hcs : c.Small) :
    Calls Tryd.prog 4 #[v, c.val, .int .i64 n, .int .i64 kind] w fun e w' => e = .returned (.bool true) ∧ Below w.heap.size w w' := by
  have h2 := hT.size
  have hbx := box_at w c
  have b1 : Below w.heap.size w (w.alloc (.cells #[.int .i64 c.kind, .int .i32 c.n, .string c.cls, .string c.nm, .string c.dsc] 30)) := (Below.refl _ _).alloc (Nat.le_refl _) _
  have hz1' : (w.alloc (.cells #[.int .i64 c.kind, .int .i32 c.n, .string c.cls, .string c.nm, .string c.dsc] 30)).heap.size = w.heap.size + 1 := by simp
  have hv1 := hv0.below b1
  obtain ⟨ao, cap, rfl, hcap, hm, hok0, _⟩ := id hv1
  unfold maxLen at hm
  obtain ⟨l, hl300, hvl, hsm, hln⟩ : ∃ l : List CD, l.length ≤ 300 ∧ CView (w.alloc (.cells #[.int .i64 c.kind, .int .i32 c.n, .string c.cls, .string c.nm, .string c.dsc] 30)) (.slice ao l.length cap) l ∧ (∀ c ∈ l, c.Small) ∧ ((300 < l0.length ∧ l.length = 300) ∨ (l0.length ≤ 300 ∧ l.length = l0.length)) := by
    by_cases h : 300 < l0.length
    · have e : (l0.take 300).length = 300 := by rw [List.length_take]; omega
      refine ⟨l0.take 300, by omega, ?_, fun c hc => hs0 c (List.mem_of_mem_take hc), .inl ⟨h, e⟩⟩
      rw [e]
      exact gview_take hv1 (by omega)
    · exact ⟨l0, by omega, hv1, hs0, .inr ⟨by omega, rfl⟩⟩
  have HN := fun n w => D.hidIt (number_any n w)
  unfold numC CD.val at HN
  have HRt := fun w => D.hidIt (right_any c w hc.toFits)
  have HRr := fun w => D.hidIt (rright_any c w hcs)
  unfold CD.val at HRt HRr
  clear hv0 hs0
  unfold CD.val
  go_enter Tryd.func4, Tryd.ntmps4
  go_upto_if 28 with fail
  go_cut [0] from 26 to 30 (fun s0 wx => s0 = .slice ao l.length cap ∧ wx = w.alloc (.cells #[.int .i64 c.kind, .int .i32 c.n, .string c.cls, .string c.nm, .string c.dsc] 30))
  case first =>
    rcases hln with ⟨h1, h2⟩ | ⟨h1, h2⟩
    · have h1' : (300 : Int) < (l0.length : Int) := by omega
      have h3 : (300 : Int) ≤ (cap : Int) := by omega
      have H2 := D.hidIt h2
      clear h2
      go_wp2
      go_meet
      exact ⟨by rw [H2.out], rfl⟩
    · have h1' : ¬ (300 : Int) < (l0.length : Int) := by omega
      have H2 := D.hidIt h2
      clear h2
      go_wp2
      go_meet
      exact ⟨by rw [H2.out], rfl⟩
  case rest =>
    obtain ⟨rfl, hwc⟩ := hcut
    rw [← hwc] at hbx b1 hvl
    have hz1 : wc.heap.size = w.heap.size + 1 := by rw [hwc]; exact hz1'
    clear hwc hz1' hln hv1 hok0 hcap
    have hok := hvl.ok
    go_wp2_with fail
    refine (HN _ _).out.mono ?_
    rintro e w2 ⟨rfl, b2⟩
    have z2 := b2.size
    have ok77 := numC_ok 77 (by omega) (by omega)
    have HRo := D.hidIt (croomy_any _ l (numC 77) w2 (hvl.below b2) (by omega))
    unfold numC CD.val at HRo
    go_wp2_with fail
    refine HRo.out.mono ?_
    rintro e w3 ⟨b3, rfl, o3⟩
    have z3 := b3.size
    clear HRo
    have hfu : CView w3 (.slice (some ⟨w2.heap.size + 1, 0, none⟩) (l.length + 80) (l.length + 80)) (roomyC l (numC 77)) := by
      have hk : ∀ x ∈ roomyC l (numC 77), x.Ok := by
        intro x hx
        rcases List.mem_append.1 hx with hx | hx
        · exact hok x hx
        · rw [List.eq_of_mem_replicate hx]; exact ok77
      have := CView.of_own (by rw [roomyC_len]; exact o3) hk
      exact this
    have hg3 : w2.heap.size + 1 < w3.heap.size := (o3.lt _ rfl).2
    have hmv : CView w3 (.slice (some ⟨w2.heap.size + 1, 0, none⟩) l.length (l.length + 80)) l := by
      have := gview_take (n := l.length) (by rw [roomyC_len]; exact hfu) (by rw [roomyC_len]; omega)
      rwa [show (roomyC l (numC 77)).take l.length = l by unfold roomyC; exact List.take_left] at this
    have hlv := (hvl.below b2).below b3
    have hb3 := (hbx.below b2).below b3
    have B3 : Below w.heap.size w w3 := b1.trans ((b2.mono (by omega)).trans (b3.mono (by omega)))
    clear hvl hbx b1 b2 b3 o3
    have hle80 : (l.length : Int) ≤ (l.length : Int) + 80 := by omega
    go_wp2_with fail
    refine (newW_any w3).mono ?_
    rintro e w4 ⟨rfl, hw4⟩
    have W4 : IsW w3.heap.size w3.heap.size w4 (.slice none 0 0) [] := by rw [hw4]; exact newW_is w3 _
    have b4 : Below w3.heap.size w3 w4 := by rw [hw4]; exact (Below.refl _ _).alloc (Nat.le_refl _) _
    have z4 : w4.heap.size = w3.heap.size + 1 := by rw [hw4]; simp
    clear hw4
    have HWr := D.hidIt (write_any w3.heap.size w3.heap.size (.slice none 0 0) _ [] l w4 W4 (by omega) (by omega) (by simp) ((hT.below B3).below b4) (hmv.below b4) (fun k hk => by
      simp [Value.ownBlock] at hk
      exact ⟨by omega, by simp [Value.ownBlock]⟩))
    rw [List.nil_append] at HWr
    go_wp2_with fail
    refine HWr.out.mono ?_
    rintro e w5 ⟨rfl, v5, W5, st5⟩
    have z5 := st5.size
    have b5 : Below w3.heap.size w3 w5 := b4.trans (wstep_below st5 (Nat.le_refl _) (by omega) (fun k hk => by simp [Value.ownBlock] at hk))
    clear HWr st5 b4 W4
    have hlv5 := hlv.below b5
    have HRw := D.hidIt (rwrite_any _ l w5 hlv5 hsm)
    go_wp2_with fail
    refine HRw.out.mono ?_
    rintro e w6 ⟨b6, u6, rfl, o6⟩
    have z6 := b6.size
    obtain ⟨uo6, ucap6, rfl⟩ := own_slice o6
    have W6 := W5.below b6
    have b36 : Below w3.heap.size w3 w6 := b5.trans (b6.mono (by omega))
    have hwb : AllBytes (wput l) := by
      unfold wput
      split
      · exact (be_bytes _ _).append (ents_bytes _)
      · exact AllBytes.nil
    have hwl : (wput l).length ≤ 1000000 := by
      unfold wput
      split
      · unfold poolZ
        have := ents_len l
        rw [List.length_append, be_len]; omega
      · simp
    have V6 := View.of_own o6 hwb
    clear HRw hlv5 b5 W5 o6 b6
    have hWC3 : wcode l = 0 ∨ wcode l = 4 ∨ wcode l = 14 := by
      unfold wcode
      split
      · exact .inr (.inl rfl)
      · split
        · exact .inl rfl
        · exact .inr (.inr rfl)
    generalize wput l = WP at *
    generalize wcode l = WC at *
    generalize hWPn : WP.length = wpn at *
    go_upto_region 10 with fail
    go_cut [63] from 49 to 63 (fun s wx => s = .bool false ∧ Below w6.heap.size w6 wx)
    case first =>
      rcases hWC3 with rfl | rfl | rfl
      · have W6d : IsW w3.heap.size w3.heap.size w6.drew v5 WP := ⟨W6.at_, W6.own⟩
        have HD := D.hidIt (done_any _ _ _ _ _ W6d hwb (by omega))
        have V6d : View w6.drew (.slice uo6 wpn ucap6) WP := V6
        have c6 := run_string V6d
        have mkS : Hid (∀ W, Below w6.heap.size w6 W → (convert 34 9 (.slice uo6 wpn ucap6)).run Tryd.prog W = .ok (.string (strOfNums WP)) W) := fun W hb => run_string (V6.below hb)
        have hB6 : Below w6.heap.size w6 w6.drew := gdrewed (Below.refl _ w6)
        clear b36 hlv hb3 hmv hfu hok hsm hT B3 HRt HRr HN W6 V6 c6
        go_wp2_with fail
        refine wp_region_noPanic ?_
        refine wp_region_held_drew (S := (fun w' => (convert 34 9 (.slice uo6 wpn ucap6)).run Tryd.prog w' = .ok (.string (strOfNums WP)) w')) (by kernel_rfl) ?_ (fun hHeld => ?_)
        · (try dsimp only); exact mkS.out _ (by assumption)
        refine wpAnyH_take (i := 0) (oi := { dst := some 49, op := Go.Op.move (Go.Operand.tmp 12), type := 24, pos := "law.go:56", after := #[], guard := none }) (v := ?va1) rfl (by kernel_rfl) (by kernel_rfl) (by kernel_rfl) (fun _ _ _ h => h) (Or.inl ⟨by rfl, ?hya1⟩) (by assumption) ?resta1
        case hya1 => intro w hSw; (try dsimp only at hSw); (try obtain ⟨hSa, hSb, hSc⟩ := hSw); go_simp; try with_reducible rfl
        try simp only [Act.put, List.setIfInBounds_toArray, List.set_cons_zero, List.set_cons_succ]
        refine wpAnyH_take (i := 1) (oi := { dst := some 50, op := Go.Op.move (Go.Operand.tmp 14), type := 3, pos := "law.go:56", after := #[], guard := none }) (v := ?va2) rfl (by kernel_rfl) (by kernel_rfl) (by kernel_rfl) (fun _ _ _ h => h) (Or.inl ⟨by rfl, ?hya2⟩) (by assumption) ?resta2
        case hya2 => intro w hSw; (try dsimp only at hSw); (try obtain ⟨hSa, hSb, hSc⟩ := hSw); go_simp; try with_reducible rfl
        try simp only [Act.put, List.setIfInBounds_toArray, List.set_cons_zero, List.set_cons_succ]
        refine wpAnyH_take (i := 2) (oi := { dst := some 51, op := Go.Op.binOp Go.BinOp.neq 3 (Go.Operand.tmp 49) (Go.Operand.tmp 50) 3, type := 4, pos := "law.go:56", after := #[{ on := 0, ground := Go.Ground.data }, { on := 1, ground := Go.Ground.data }], guard := none }) (v := ?va3) rfl (by kernel_rfl) (by kernel_rfl) (by kernel_rfl) (fun _ _ _ h => h) (Or.inl ⟨by rfl, ?hya3⟩) (by assumption) ?resta3
        case hya3 => intro w hSw; (try dsimp only at hSw); (try obtain ⟨hSa, hSb, hSc⟩ := hSw); go_simp; try with_reducible rfl
        try simp only [Act.put, List.setIfInBounds_toArray, List.set_cons_zero, List.set_cons_succ]
        refine wpAnyH_take (i := 3) (oi := { dst := some 52, op := Go.Op.move (Go.Operand.tmp 51), type := 4, pos := "law.go:56", after := #[{ on := 2, ground := Go.Ground.data }], guard := none }) (v := ?va4) rfl (by kernel_rfl) (by kernel_rfl) (by kernel_rfl) (fun _ _ _ h => h) (Or.inl ⟨by rfl, ?hya4⟩) (by assumption) ?resta4
        case hya4 => intro w hSw; (try dsimp only at hSw); (try obtain ⟨hSa, hSb, hSc⟩ := hSw); go_simp; try with_reducible rfl
        try simp only [Act.put, List.setIfInBounds_toArray, List.set_cons_zero, List.set_cons_succ]
        refine wpAnyH_take (i := 4) (oi := { dst := some 53, op := Go.Op.move (Go.Operand.tmp 12), type := 24, pos := "law.go:56", after := #[{ on := 3, ground := Go.Ground.guard }], guard := some (3, false) }) (v := ?va5) rfl (by kernel_rfl) (by kernel_rfl) (by kernel_rfl) (fun _ _ _ h => h) (Or.inl ⟨by rfl, ?hya5⟩) (by assumption) ?resta5
        case hya5 => intro w hSw; (try dsimp only at hSw); (try obtain ⟨hSa, hSb, hSc⟩ := hSw); go_simp; try with_reducible rfl
        try simp only [Act.put, List.setIfInBounds_toArray, List.set_cons_zero, List.set_cons_succ]
        refine wpAnyH_take (i := 5) (oi := { dst := some 54, op := Go.Op.binOp Go.BinOp.eql 24 (Go.Operand.tmp 53) (Go.Operand.const (Go.Value.int Go.IntKind.i64 0)) 24, type := 4, pos := "law.go:56", after := #[{ on := 4, ground := Go.Ground.data }, { on := 3, ground := Go.Ground.guard }], guard := some (3, false) }) (v := ?va6) rfl (by kernel_rfl) (by kernel_rfl) (by kernel_rfl) (fun _ _ _ h => h) (Or.inl ⟨by rfl, ?hya6⟩) (by assumption) ?resta6
        case hya6 => intro w hSw; (try dsimp only at hSw); (try obtain ⟨hSa, hSb, hSc⟩ := hSw); go_simp; try with_reducible rfl
        try simp only [Act.put, List.setIfInBounds_toArray, List.set_cons_zero, List.set_cons_succ]
        refine wpAnyH_take (i := 6) (oi := { dst := some 55, op := Go.Op.move (Go.Operand.tmp 54), type := 4, pos := "law.go:56", after := #[{ on := 5, ground := Go.Ground.data }, { on := 3, ground := Go.Ground.chain }, { on := 3, ground := Go.Ground.guard }], guard := some (3, false) }) (v := ?va7) rfl (by kernel_rfl) (by kernel_rfl) (by kernel_rfl) (fun _ _ _ h => h) (Or.inl ⟨by rfl, ?hya7⟩) (by assumption) ?resta7
        case hya7 => intro w hSw; (try dsimp only at hSw); (try obtain ⟨hSa, hSb, hSc⟩ := hSw); go_simp; try with_reducible rfl
        try simp only [Act.put, List.setIfInBounds_toArray, List.set_cons_zero, List.set_cons_succ]
        refine wpAnyH_take (i := 7) (oi := { dst := some 56, op := Go.Op.move (Go.Operand.tmp 11), type := 22, pos := "law.go:56", after := #[{ on := 6, ground := Go.Ground.guard }], guard := some (6, true) }) (v := ?va8) rfl (by kernel_rfl) (by kernel_rfl) (by kernel_rfl) (fun _ _ _ h => h) (Or.inl ⟨by rfl, ?hya8⟩) (by assumption) ?resta8
        case hya8 => intro w hSw; (try dsimp only at hSw); (try obtain ⟨hSa, hSb, hSc⟩ := hSw); go_simp; try with_reducible rfl
        try simp only [Act.put, List.setIfInBounds_toArray, List.set_cons_zero, List.set_cons_succ]
        refine wpAnyH_take (i := 10) (oi := { dst := some 59, op := Go.Op.move (Go.Operand.tmp 13), type := 34, pos := "law.go:56", after := #[{ on := 6, ground := Go.Ground.guard }], guard := some (6, true) }) (v := ?va9) rfl (by kernel_rfl) (by kernel_rfl) (by kernel_rfl) (fun _ _ _ h => h) (Or.inl ⟨by rfl, ?hya9⟩) (by assumption) ?resta9
        case hya9 => intro w hSw; (try dsimp only at hSw); (try obtain ⟨hSa, hSb, hSc⟩ := hSw); go_simp; try with_reducible rfl
        try simp only [Act.put, List.setIfInBounds_toArray, List.set_cons_zero, List.set_cons_succ]
        refine wpAnyH_take (i := 11) (oi := { dst := some 60, op := Go.Op.convert 34 9 (Go.Operand.tmp 59), type := 9, pos := "law.go:56", after := #[{ on := 10, ground := Go.Ground.data }, { on := 6, ground := Go.Ground.guard }], guard := some (6, true) }) (v := ?va10) rfl (by kernel_rfl) (by kernel_rfl) (by kernel_rfl) (fun _ _ _ h => h) (Or.inl ⟨by rfl, ?hya10⟩) (by assumption) ?resta10
        case hya10 => intro w hSw; (try dsimp only at hSw); (try obtain ⟨hSa, hSb, hSc⟩ := hSw); go_simp; try with_reducible rfl
        try simp only [Act.put, List.setIfInBounds_toArray, List.set_cons_zero, List.set_cons_succ]
        refine wpAnyH_ready (rs := [8]) (by kernel_rfl) (by simp) ?_
        refine AllReadyH.cons (o := { dst := some 57, op := Go.Op.call { callee := Go.Callee.value (Go.Operand.func 14), args := #[Go.Operand.tmp 56], argTypes := #[22] }, type := 34, pos := "law.go:56", after := #[{ on := 7, ground := Go.Ground.data }, { on := 6, ground := Go.Ground.chain }, { on := 6, ground := Go.Ground.guard }], guard := some (6, true) }) rfl (fun K hK => ?_) AllReadyH.nil
        go_simp
        refine HD.out.mono ?_; rintro e w7 ⟨b7, v7, rfl, o7⟩; have hB7 : Below w6.heap.size w6 w7 := hB6.trans b7; have c7 := run_string (View.of_own o7 hwb); obtain ⟨uo7, ucap7, rfl⟩ := own_slice o7; rw [hWPn] at c7
        try go_wp2_with fail
        refine hK.out _ _ ?hSa11 ?resta11
        case hSa11 => (try dsimp only); exact mkS.out _ (by assumption)
        clear hK K hHeld
        intro hHeld
        try simp only [Act.put, List.setIfInBounds_toArray, List.set_cons_zero, List.set_cons_succ]
        refine wpAnyH_ready (rs := [9]) (by kernel_rfl) (by simp) ?_
        refine AllReadyH.cons (o := { dst := some 58, op := Go.Op.convert 34 9 (Go.Operand.tmp 57), type := 9, pos := "law.go:56", after := #[{ on := 8, ground := Go.Ground.data }, { on := 6, ground := Go.Ground.guard }], guard := some (6, true) }) rfl (fun K hK => ?_) AllReadyH.nil
        go_simp
        try go_wp2_with fail
        refine hK.out _ _ ?hSa12 ?resta12
        case hSa12 => (try dsimp only); exact mkS.out _ (by assumption)
        clear hK K hHeld
        intro hHeld
        try simp only [Act.put, List.setIfInBounds_toArray, List.set_cons_zero, List.set_cons_succ]
        refine wpAnyH_take (i := 12) (oi := { dst := some 61, op := Go.Op.binOp Go.BinOp.neq 9 (Go.Operand.tmp 58) (Go.Operand.tmp 60) 9, type := 4, pos := "law.go:56", after := #[{ on := 9, ground := Go.Ground.data }, { on := 11, ground := Go.Ground.data }, { on := 6, ground := Go.Ground.guard }], guard := some (6, true) }) (v := ?va13) rfl (by kernel_rfl) (by kernel_rfl) (by kernel_rfl) (fun _ _ _ h => h) (Or.inl ⟨by rfl, ?hya13⟩) (by assumption) ?resta13
        case hya13 => intro w hSw; (try dsimp only at hSw); (try obtain ⟨hSa, hSb, hSc⟩ := hSw); go_simp; try with_reducible rfl
        try simp only [Act.put, List.setIfInBounds_toArray, List.set_cons_zero, List.set_cons_succ]
        refine wpAnyH_take (i := 13) (oi := { dst := some 62, op := Go.Op.pick (Go.Operand.tmp 55) (Go.Operand.tmp 61) (Go.Operand.const (Go.Value.bool false)), type := 4, pos := "law.go:56", after := #[{ on := 6, ground := Go.Ground.data }, { on := 12, ground := Go.Ground.data }, { on := 3, ground := Go.Ground.guard }], guard := some (3, false) }) (v := ?va14) rfl (by kernel_rfl) (by kernel_rfl) (by kernel_rfl) (fun _ _ _ h => h) (Or.inl ⟨by rfl, ?hya14⟩) (by assumption) ?resta14
        case hya14 => intro w hSw; (try dsimp only at hSw); (try obtain ⟨hSa, hSb, hSc⟩ := hSw); go_simp; try with_reducible rfl
        try simp only [Act.put, List.setIfInBounds_toArray, List.set_cons_zero, List.set_cons_succ]
        refine wpAnyH_take (i := 14) (oi := { dst := some 63, op := Go.Op.pick (Go.Operand.tmp 52) (Go.Operand.const (Go.Value.bool true)) (Go.Operand.tmp 62), type := 4, pos := "law.go:56", after := #[{ on := 3, ground := Go.Ground.data }, { on := 13, ground := Go.Ground.data }], guard := none }) (v := ?va15) rfl (by kernel_rfl) (by kernel_rfl) (by kernel_rfl) (fun _ _ _ h => h) (Or.inl ⟨by rfl, ?hya15⟩) (by assumption) ?resta15
        case hya15 => intro w hSw; (try dsimp only at hSw); (try obtain ⟨hSa, hSb, hSc⟩ := hSw); go_simp; try with_reducible rfl
        try simp only [Act.put, List.setIfInBounds_toArray, List.set_cons_zero, List.set_cons_succ]
        refine wpAnyH_done (by kernel_rfl) ?_ _
        refine NoPanic.normal ?_
        go_wp2_with fail
        go_meet
        exact ⟨rfl, hB7⟩
      · clear V6 W6 b36 hlv hb3 hmv hfu hok hsm hT B3 HRt HRr HN
        go_wp2_with fail
        go_quiet (fail)
        go_wp2_with fail
        go_meet
        exact ⟨rfl, below_drewN (Below.refl _ w6) _⟩
      · clear V6 W6 b36 hlv hb3 hmv hfu hok hsm hT B3 HRt HRr HN
        go_wp2_with fail
        go_quiet (fail)
        go_wp2_with fail
        go_meet
        exact ⟨rfl, below_drewN (Below.refl _ w6) _⟩
    case rest =>
      obtain ⟨rfl, b7⟩ := hcut
      clear hWC3 hwb hwl hWPn W6 V6
      have b37 := b36.trans (b7.mono (by omega))
      have z7 := b7.size
      have hge : (getZ l n kind).2 = 0 ∨ (getZ l n kind).2 = 14 := by
        unfold getZ
        split
        · split
          · exact .inl rfl
          · exact .inr rfl
        · exact .inr rfl
      have HG1 := fun W (h : CView W (.slice (some ⟨w2.heap.size + 1, 0, none⟩) l.length (l.length + 80)) l) => D.hidIt (get_any _ l n kind W h)
      have HG2 := fun W (h : CView W (.slice ao l.length cap) l) => D.hidIt (rget_any _ l n kind W h)
      generalize (getZ l n kind).1 = gc at *
      generalize (getZ l n kind).2 = ge at *
      unfold CD.val at HG1 HG2
      go_wp2_with fail
      refine (HG1 _ (hmv.below b37)).out.mono ?_
      rintro e w8 ⟨rfl, b8⟩
      have z8 := b8.size
      have b9 : Below w8.heap.size w8 (w8.alloc (.cells #[.int .i64 gc.kind, .int .i32 gc.n, .string gc.cls, .string gc.nm, .string gc.dsc] 30)) := (Below.refl _ _).alloc (Nat.le_refl _) _
      have x9 := box_at w8 gc
      have z9 : (w8.alloc (.cells #[.int .i64 gc.kind, .int .i32 gc.n, .string gc.cls, .string gc.nm, .string gc.dsc] 30)).heap.size = w8.heap.size + 1 := by simp
      have b39 : Below w3.heap.size w3 (w8.alloc (.cells #[.int .i64 gc.kind, .int .i32 gc.n, .string gc.cls, .string gc.nm, .string gc.dsc] 30)) := b37.trans ((b8.mono (by omega)).trans (b9.mono (by omega)))
      go_wp2_with fail
      generalize w8.alloc (.cells #[.int .i64 gc.kind, .int .i32 gc.n, .string gc.cls, .string gc.nm, .string gc.dsc] 30) = w9 at *
      refine (HG2 _ (hlv.below b39)).out.mono ?_
      rintro e w10 ⟨rfl, b10⟩
      have z10 := b10.size
      have b11 : Below w10.heap.size w10 (w10.alloc (.cells #[.int .i64 gc.kind, .int .i32 gc.n, .string gc.cls, .string gc.nm, .string gc.dsc] 30)) := (Below.refl _ _).alloc (Nat.le_refl _) _
      have y11 := box_at w10 gc
      have z11 : (w10.alloc (.cells #[.int .i64 gc.kind, .int .i32 gc.n, .string gc.cls, .string gc.nm, .string gc.dsc] 30)).heap.size = w10.heap.size + 1 := by simp
      have b311 : Below w3.heap.size w3 (w10.alloc (.cells #[.int .i64 gc.kind, .int .i32 gc.n, .string gc.cls, .string gc.nm, .string gc.dsc] 30)) := b39.trans ((b10.mono (by omega)).trans (b11.mono (by omega)))
      have x11 := (x9.below b10).below b11
      generalize hW11 : w10.alloc (.cells #[.int .i64 gc.kind, .int .i32 gc.n, .string gc.cls, .string gc.nm, .string gc.dsc] 30) = w11 at *
      have c11 := hb3.below b311
      have HA1 := D.hidIt (add_any _ l c w11 (hmv.below b311) hc (by omega))
      have HA2 := fun W (h : CView W (.slice ao l.length cap) l) => D.hidIt (radd_any _ l c W h hcs (by omega))
      have hazk : ∀ x ∈ (addZ l c).1, x.Ok := by
        unfold addZ
        split
        · split
          · exact hok
          · split
            · intro x hx; cases hx
            · intro x hx
              rcases List.mem_append.1 hx with hx | hx
              · exact hok x hx
              · simp at hx; subst hx; exact hc
        · intro x hx; cases hx
      generalize (addZ l c).1 = al at *
      generalize (addZ l c).2.1 = an at *
      generalize (addZ l c).2.2 = ae at *
      unfold CD.val at HA1 HA2
      obtain ⟨c0, c1, c2, c3, c4⟩ := id c11
      subst hW11
      go_wp2_with fail
      refine HA1.out.mono ?_
      rintro e w12 ⟨b12, v12, rfl, o12⟩
      have P12 := CView.of_own o12 hazk
      obtain ⟨pao, pcap, rfl⟩ := cown_slice o12
      generalize hW11 : w10.alloc (.cells #[.int .i64 gc.kind, .int .i32 gc.n, .string gc.cls, .string gc.nm, .string gc.dsc] 30) = w11 at *
      have z12 := b12.size
      have b312 := b311.trans (b12.mono (by omega))
      have c12 := c11.below b12
      clear c0 c1 c2 c3 c4 HA1 o12
      obtain ⟨c0, c1, c2, c3, c4⟩ := id c12
      go_wp2_with fail
      refine (HA2 _ (hlv.below b312)).out.mono ?_
      rintro e w13 ⟨b13, v13, rfl, o13⟩
      have Q13 := CView.of_own o13 hazk
      obtain ⟨qao, qcap, rfl⟩ := cown_slice o13
      have z13 := b13.size
      have b313 := b312.trans (b13.mono (by omega))
      have P13 := P12.below b13
      have X13 := (x11.below b12).below b13
      have Y13 := (y11.below b12).below b13
      have C13 := c12.below b13
      have L13 := hlv.below b313
      have F13 := hfu.below b313
      have B13 := B3.trans (b313.mono (by omega))
      have T13 := hT.below B13
      have z3w := B3.size
      have yw := B13.size
      clear c0 c1 c2 c3 c4 o13 HA2 HG1 HG2 P12 x11 y11 c12 c11 x9 hb3 hfu hmv hlv b36 b37 b39 b311 b312 b12 b13 b8 b9 b10 b11 b7
      obtain ⟨_, _, ee, hcl, _, _, hlL⟩ := id L13
      cases ee
      go_wp2_with fail
      go_loopw [25] (fun i wr => ∃ k : Nat, i = .int .i64 (k : Int) ∧ k ≤ l.length ∧ Below w13.heap.size w13 wr) (fun i _ => l.length - (intOf i).toNat)
      case atStart => exact ⟨0, rfl, by omega, Below.refl _ _⟩
      case round =>
        obtain ⟨k, rfl, hk, hbw⟩ := hrel
        have hBd : Below w13.heap.size w13 wr.drew := gdrewed hbw
        by_cases hlt : k < l.length
        · have hlt' : (k : Int) < (l.length : Int) := by omega
          obtain ⟨g, off, rfl, hla⟩ : ∃ g off, ao = some ⟨g, off, none⟩ ∧ CLies w13 g off l := by
            rcases hlL with e | h
            · rw [e] at hlt; simp at hlt
            · exact h
          have hd := hla k l[k] (by simp [hlt])
          have hokd := hok l[k] (by simp)
          have hsmd := hsm l[k] (by simp)
          generalize l[k] = d at *
          have HQ1 := fun w => D.hidIt (right_any d w hokd.toFits)
          have HQ2 := fun w => D.hidIt (rright_any d w hsmd)
          unfold CD.val at HQ1 HQ2
          generalize rightB d = rb at *
          have mkL : Hid (∀ w', Below w13.heap.size w13 w' → w'.cell? ⟨g, off + k * 5, none⟩ = some (.int .i64 d.kind) ∧ w'.cell? ⟨g, off + k * 5 + 1, none⟩ = some (.int .i32 d.n) ∧ w'.cell? ⟨g, off + k * 5 + 2, none⟩ = some (.string d.cls) ∧ w'.cell? ⟨g, off + k * 5 + 3, none⟩ = some (.string d.nm) ∧ w'.cell? ⟨g, off + k * 5 + 4, none⟩ = some (.string d.dsc)) := fun w' hb => ⟨(hd.below hb).c0, (hd.below hb).c1, (hd.below hb).c2, (hd.below hb).c3, (hd.below hb).c4⟩
          clear hla hlL hd P13 Q13 X13 Y13 C13 L13 F13 B13 T13 HRt HRr HN
          go_wp2_with fail
          refine wp_region_noPanic ?_
          refine wp_region_held_drew (S := (fun w' => w'.cell? ⟨g, off + k * 5, none⟩ = some (.int .i64 d.kind) ∧ w'.cell? ⟨g, off + k * 5 + 1, none⟩ = some (.int .i32 d.n) ∧ w'.cell? ⟨g, off + k * 5 + 2, none⟩ = some (.string d.cls) ∧ w'.cell? ⟨g, off + k * 5 + 3, none⟩ = some (.string d.nm) ∧ w'.cell? ⟨g, off + k * 5 + 4, none⟩ = some (.string d.dsc))) (by kernel_rfl) ?_ (fun hHeld => ?_)
          · (try dsimp only); exact mkL.out _ (by assumption)
          refine wpAnyH_take (i := 0) (oi := { dst := some 98, op := Go.Op.move (Go.Operand.tmp 0), type := 26, pos := "law.go:64", after := #[], guard := none }) (v := ?vb1) rfl (by kernel_rfl) (by kernel_rfl) (by kernel_rfl) (fun _ _ _ h => h) (Or.inl ⟨by rfl, ?hyb1⟩) (by assumption) ?restb1
          case hyb1 => intro w hSw; (try dsimp only at hSw); go_simp; try with_reducible rfl
          try simp only [Act.put, List.setIfInBounds_toArray, List.set_cons_zero, List.set_cons_succ]
          refine wpAnyH_take (i := 1) (oi := { dst := some 99, op := Go.Op.move (Go.Operand.tmp 25), type := 3, pos := "law.go:64", after := #[], guard := none }) (v := ?vb2) rfl (by kernel_rfl) (by kernel_rfl) (by kernel_rfl) (fun _ _ _ h => h) (Or.inl ⟨by rfl, ?hyb2⟩) (by assumption) ?restb2
          case hyb2 => intro w hSw; (try dsimp only at hSw); go_simp; try with_reducible rfl
          try simp only [Act.put, List.setIfInBounds_toArray, List.set_cons_zero, List.set_cons_succ]
          refine wpAnyH_take (i := 2) (oi := { dst := some 100, op := Go.Op.indexAddr 26 (Go.Operand.tmp 98) (Go.Operand.tmp 99), type := 0, pos := "law.go:64", after := #[{ on := 0, ground := Go.Ground.data }, { on := 1, ground := Go.Ground.data }], guard := none }) (v := ?vb3) rfl (by kernel_rfl) (by kernel_rfl) (by kernel_rfl) (fun _ _ _ h => h) (Or.inl ⟨by rfl, ?hyb3⟩) (by assumption) ?restb3
          case hyb3 => intro w hSw; (try dsimp only at hSw); go_simp; try with_reducible rfl
          try simp only [Act.put, List.setIfInBounds_toArray, List.set_cons_zero, List.set_cons_succ]
          refine wpAnyH_take (i := 3) (oi := { dst := some 101, op := Go.Op.load 30 (Go.Operand.tmp 100), type := 30, pos := "law.go:64", after := #[{ on := 2, ground := Go.Ground.data }], guard := none }) (v := ?vb4) rfl (by kernel_rfl) (by kernel_rfl) (by kernel_rfl) (fun _ _ _ h => h) (Or.inl ⟨by rfl, ?hyb4⟩) (by assumption) ?restb4
          case hyb4 => intro w hSw; (try dsimp only at hSw); go_simp; try with_reducible rfl
          try simp only [Act.put, List.setIfInBounds_toArray, List.set_cons_zero, List.set_cons_succ]
          refine wpAnyH_take (i := 5) (oi := { dst := some 103, op := Go.Op.move (Go.Operand.tmp 0), type := 26, pos := "law.go:64", after := #[], guard := none }) (v := ?vb5) rfl (by kernel_rfl) (by kernel_rfl) (by kernel_rfl) (fun _ _ _ h => h) (Or.inl ⟨by rfl, ?hyb5⟩) (by assumption) ?restb5
          case hyb5 => intro w hSw; (try dsimp only at hSw); go_simp; try with_reducible rfl
          try simp only [Act.put, List.setIfInBounds_toArray, List.set_cons_zero, List.set_cons_succ]
          refine wpAnyH_take (i := 6) (oi := { dst := some 104, op := Go.Op.move (Go.Operand.tmp 25), type := 3, pos := "law.go:64", after := #[], guard := none }) (v := ?vb6) rfl (by kernel_rfl) (by kernel_rfl) (by kernel_rfl) (fun _ _ _ h => h) (Or.inl ⟨by rfl, ?hyb6⟩) (by assumption) ?restb6
          case hyb6 => intro w hSw; (try dsimp only at hSw); go_simp; try with_reducible rfl
          try simp only [Act.put, List.setIfInBounds_toArray, List.set_cons_zero, List.set_cons_succ]
          refine wpAnyH_take (i := 7) (oi := { dst := some 105, op := Go.Op.indexAddr 26 (Go.Operand.tmp 103) (Go.Operand.tmp 104), type := 0, pos := "law.go:64", after := #[{ on := 5, ground := Go.Ground.data }, { on := 6, ground := Go.Ground.data }], guard := none }) (v := ?vb7) rfl (by kernel_rfl) (by kernel_rfl) (by kernel_rfl) (fun _ _ _ h => h) (Or.inl ⟨by rfl, ?hyb7⟩) (by assumption) ?restb7
          case hyb7 => intro w hSw; (try dsimp only at hSw); go_simp; try with_reducible rfl
          try simp only [Act.put, List.setIfInBounds_toArray, List.set_cons_zero, List.set_cons_succ]
          refine wpAnyH_take (i := 8) (oi := { dst := some 106, op := Go.Op.load 30 (Go.Operand.tmp 105), type := 30, pos := "law.go:64", after := #[{ on := 7, ground := Go.Ground.data }], guard := none }) (v := ?vb8) rfl (by kernel_rfl) (by kernel_rfl) (by kernel_rfl) (fun _ _ _ h => h) (Or.inl ⟨by rfl, ?hyb8⟩) (by assumption) ?restb8
          case hyb8 => intro w hSw; (try dsimp only at hSw); go_simp; try with_reducible rfl
          try simp only [Act.put, List.setIfInBounds_toArray, List.set_cons_zero, List.set_cons_succ]
          refine wpAnyH_ready (rs := [4]) (by kernel_rfl) (by simp) ?_
          refine AllReadyH.cons (o := { dst := some 102, op := Go.Op.call { callee := Go.Callee.value (Go.Operand.func 21), args := #[Go.Operand.tmp 101], argTypes := #[30] }, type := 4, pos := "law.go:64", after := #[{ on := 3, ground := Go.Ground.data }], guard := none }) rfl (fun K hK => ?_) AllReadyH.nil
          go_simp
          refine (HQ1 _).out.mono ?_; rintro e wa ⟨rfl, ba⟩; have hBa : Below w13.heap.size w13 wa := hBd.trans (ba.mono hBd.size)
          try go_wp2_with fail
          refine hK.out _ _ ?hSb9 ?restb9
          case hSb9 => (try dsimp only); exact mkL.out _ (by assumption)
          clear hK K hHeld
          intro hHeld
          try simp only [Act.put, List.setIfInBounds_toArray, List.set_cons_zero, List.set_cons_succ]
          refine wpAnyH_ready (rs := [9]) (by kernel_rfl) (by simp) ?_
          refine AllReadyH.cons (o := { dst := some 107, op := Go.Op.call { callee := Go.Callee.value (Go.Operand.func 22), args := #[Go.Operand.tmp 106], argTypes := #[30] }, type := 4, pos := "law.go:64", after := #[{ on := 8, ground := Go.Ground.data }, { on := 4, ground := Go.Ground.chain }], guard := none }) rfl (fun K hK => ?_) AllReadyH.nil
          go_simp
          refine (HQ2 _).out.mono ?_; rintro e wb ⟨rfl, bb⟩; have hBb : Below w13.heap.size w13 wb := hBa.trans (bb.mono hBa.size)
          try go_wp2_with fail
          refine hK.out _ _ ?hSb10 ?restb10
          case hSb10 => (try dsimp only); exact mkL.out _ (by assumption)
          clear hK K hHeld
          intro hHeld
          try simp only [Act.put, List.setIfInBounds_toArray, List.set_cons_zero, List.set_cons_succ]
          refine wpAnyH_take (i := 10) (oi := { dst := some 108, op := Go.Op.binOp Go.BinOp.neq 4 (Go.Operand.tmp 102) (Go.Operand.tmp 107) 4, type := 4, pos := "law.go:64", after := #[{ on := 4, ground := Go.Ground.data }, { on := 9, ground := Go.Ground.data }], guard := none }) (v := ?vb11) rfl (by kernel_rfl) (by kernel_rfl) (by kernel_rfl) (fun _ _ _ h => h) (Or.inl ⟨by rfl, ?hyb11⟩) (by assumption) ?restb11
          case hyb11 => intro w hSw; (try dsimp only at hSw); go_simp; try with_reducible rfl
          try simp only [Act.put, List.setIfInBounds_toArray, List.set_cons_zero, List.set_cons_succ]
          refine wpAnyH_done (by kernel_rfl) ?_ _
          refine NoPanic.normal ?_
          go_wp2
          exact ⟨⟨k + 1, by go_num, by omega, hBb⟩, by simp [intOf]; omega⟩
        · have hlt' : ¬ (k : Int) < (l.length : Int) := by omega
          have HIn := fun W (h1 : CView W (.slice (some ⟨w2.heap.size + 1, 0, none⟩) (l.length + 80) (l.length + 80)) (roomyC l (numC 77))) (h2 : CView W (.slice ao l.length cap) l) => D.hidIt (cintact_any _ _ l (numC 77) W h1 h2)
          unfold numC CD.val at HIn
          have mkF : Hid (∀ w', Below w13.heap.size w13 w' → (w'.cell? ⟨w8.heap.size, 0, none⟩ = some (.int .i64 gc.kind) ∧ w'.cell? ⟨w8.heap.size, 1, none⟩ = some (.int .i32 gc.n) ∧ w'.cell? ⟨w8.heap.size, 2, none⟩ = some (.string gc.cls) ∧ w'.cell? ⟨w8.heap.size, 3, none⟩ = some (.string gc.nm) ∧ w'.cell? ⟨w8.heap.size, 4, none⟩ = some (.string gc.dsc)) ∧ (w'.cell? ⟨w10.heap.size, 0, none⟩ = some (.int .i64 gc.kind) ∧ w'.cell? ⟨w10.heap.size, 1, none⟩ = some (.int .i32 gc.n) ∧ w'.cell? ⟨w10.heap.size, 2, none⟩ = some (.string gc.cls) ∧ w'.cell? ⟨w10.heap.size, 3, none⟩ = some (.string gc.nm) ∧ w'.cell? ⟨w10.heap.size, 4, none⟩ = some (.string gc.dsc)) ∧ w'.cell? ⟨w.heap.size, 0, none⟩ = some (.int .i64 c.kind) ∧ w'.cell? ⟨w.heap.size, 1, none⟩ = some (.int .i32 c.n) ∧ w'.cell? ⟨w.heap.size, 2, none⟩ = some (.string c.cls) ∧ w'.cell? ⟨w.heap.size, 3, none⟩ = some (.string c.nm) ∧ w'.cell? ⟨w.heap.size, 4, none⟩ = some (.string c.dsc)) := fun w' hb =>
            ⟨⟨(X13.below hb).c0, (X13.below hb).c1, (X13.below hb).c2, (X13.below hb).c3, (X13.below hb).c4⟩, ⟨(Y13.below hb).c0, (Y13.below hb).c1, (Y13.below hb).c2, (Y13.below hb).c3, (Y13.below hb).c4⟩, (C13.below hb).c0, (C13.below hb).c1, (C13.below hb).c2, (C13.below hb).c3, (C13.below hb).c4⟩
          generalize rightB c = rbc at *
          clear X13 Y13 C13 hlL
          rcases hge with rfl | rfl
          · go_wp2_with fail
            refine wp_region_noPanic ?_
            refine wp_region_held_drew (S := (fun w' => (w'.cell? ⟨w8.heap.size, 0, none⟩ = some (.int .i64 gc.kind) ∧ w'.cell? ⟨w8.heap.size, 1, none⟩ = some (.int .i32 gc.n) ∧ w'.cell? ⟨w8.heap.size, 2, none⟩ = some (.string gc.cls) ∧ w'.cell? ⟨w8.heap.size, 3, none⟩ = some (.string gc.nm) ∧ w'.cell? ⟨w8.heap.size, 4, none⟩ = some (.string gc.dsc)) ∧ (w'.cell? ⟨w10.heap.size, 0, none⟩ = some (.int .i64 gc.kind) ∧ w'.cell? ⟨w10.heap.size, 1, none⟩ = some (.int .i32 gc.n) ∧ w'.cell? ⟨w10.heap.size, 2, none⟩ = some (.string gc.cls) ∧ w'.cell? ⟨w10.heap.size, 3, none⟩ = some (.string gc.nm) ∧ w'.cell? ⟨w10.heap.size, 4, none⟩ = some (.string gc.dsc)) ∧ w'.cell? ⟨w.heap.size, 0, none⟩ = some (.int .i64 c.kind) ∧ w'.cell? ⟨w.heap.size, 1, none⟩ = some (.int .i32 c.n) ∧ w'.cell? ⟨w.heap.size, 2, none⟩ = some (.string c.cls) ∧ w'.cell? ⟨w.heap.size, 3, none⟩ = some (.string c.nm) ∧ w'.cell? ⟨w.heap.size, 4, none⟩ = some (.string c.dsc))) (by kernel_rfl) ?_ (fun hHeld => ?_)
            · (try dsimp only); exact mkF.out _ (by assumption)
            refine wpAnyH_take (i := 0) (oi := { dst := some 109, op := Go.Op.load 30 (Go.Operand.tmp 15), type := 30, pos := "law.go:68", after := #[], guard := none }) (v := ?vd1) rfl (by kernel_rfl) (by kernel_rfl) (by kernel_rfl) (fun _ _ _ h => h) (Or.inl ⟨by rfl, ?hyd1⟩) (by assumption) ?restd1
            case hyd1 => intro w hSw; (try dsimp only at hSw); go_simp; try with_reducible rfl
            try simp only [Act.put, List.setIfInBounds_toArray, List.set_cons_zero, List.set_cons_succ]
            refine wpAnyH_take (i := 1) (oi := { dst := some 110, op := Go.Op.load 30 (Go.Operand.tmp 17), type := 30, pos := "law.go:68", after := #[], guard := none }) (v := ?vd2) rfl (by kernel_rfl) (by kernel_rfl) (by kernel_rfl) (fun _ _ _ h => h) (Or.inl ⟨by rfl, ?hyd2⟩) (by assumption) ?restd2
            case hyd2 => intro w hSw; (try dsimp only at hSw); go_simp; try with_reducible rfl
            try simp only [Act.put, List.setIfInBounds_toArray, List.set_cons_zero, List.set_cons_succ]
            refine wpAnyH_take (i := 2) (oi := { dst := some 111, op := Go.Op.binOp Go.BinOp.eql 30 (Go.Operand.tmp 109) (Go.Operand.tmp 110) 30, type := 4, pos := "law.go:68", after := #[{ on := 0, ground := Go.Ground.data }, { on := 1, ground := Go.Ground.data }], guard := none }) (v := ?vd3) rfl (by kernel_rfl) (by kernel_rfl) (by kernel_rfl) (fun _ _ _ h => h) (Or.inl ⟨by rfl, ?hyd3⟩) (by assumption) ?restd3
            case hyd3 => intro w hSw; (try dsimp only at hSw); go_simp; try with_reducible rfl
            try simp only [Act.put, List.setIfInBounds_toArray, List.set_cons_zero, List.set_cons_succ]
            refine wpAnyH_take (i := 3) (oi := { dst := some 112, op := Go.Op.move (Go.Operand.tmp 111), type := 4, pos := "law.go:68", after := #[{ on := 2, ground := Go.Ground.data }], guard := none }) (v := ?vd4) rfl (by kernel_rfl) (by kernel_rfl) (by kernel_rfl) (fun _ _ _ h => h) (Or.inl ⟨by rfl, ?hyd4⟩) (by assumption) ?restd4
            case hyd4 => intro w hSw; (try dsimp only at hSw); go_simp; try with_reducible rfl
            try simp only [Act.put, List.setIfInBounds_toArray, List.set_cons_zero, List.set_cons_succ]
            refine wpAnyH_take (i := 4) (oi := { dst := some 113, op := Go.Op.move (Go.Operand.tmp 16), type := 24, pos := "law.go:68", after := #[{ on := 3, ground := Go.Ground.guard }], guard := some (3, true) }) (v := ?vd5) rfl (by kernel_rfl) (by kernel_rfl) (by kernel_rfl) (fun _ _ _ h => h) (Or.inl ⟨by rfl, ?hyd5⟩) (by assumption) ?restd5
            case hyd5 => intro w hSw; (try dsimp only at hSw); go_simp; try with_reducible rfl
            try simp only [Act.put, List.setIfInBounds_toArray, List.set_cons_zero, List.set_cons_succ]
            refine wpAnyH_take (i := 5) (oi := { dst := some 114, op := Go.Op.binOp Go.BinOp.eql 24 (Go.Operand.tmp 113) (Go.Operand.const (Go.Value.int Go.IntKind.i64 0)) 24, type := 4, pos := "law.go:68", after := #[{ on := 4, ground := Go.Ground.data }, { on := 3, ground := Go.Ground.guard }], guard := some (3, true) }) (v := ?vd6) rfl (by kernel_rfl) (by kernel_rfl) (by kernel_rfl) (fun _ _ _ h => h) (Or.inl ⟨by rfl, ?hyd6⟩) (by assumption) ?restd6
            case hyd6 => intro w hSw; (try dsimp only at hSw); go_simp; try with_reducible rfl
            try simp only [Act.put, List.setIfInBounds_toArray, List.set_cons_zero, List.set_cons_succ]
            refine wpAnyH_take (i := 6) (oi := { dst := some 115, op := Go.Op.move (Go.Operand.tmp 18), type := 4, pos := "law.go:68", after := #[{ on := 3, ground := Go.Ground.guard }], guard := some (3, true) }) (v := ?vd7) rfl (by kernel_rfl) (by kernel_rfl) (by kernel_rfl) (fun _ _ _ h => h) (Or.inl ⟨by rfl, ?hyd7⟩) (by assumption) ?restd7
            case hyd7 => intro w hSw; (try dsimp only at hSw); go_simp; try with_reducible rfl
            try simp only [Act.put, List.setIfInBounds_toArray, List.set_cons_zero, List.set_cons_succ]
            refine wpAnyH_take (i := 7) (oi := { dst := some 116, op := Go.Op.binOp Go.BinOp.eql 4 (Go.Operand.tmp 114) (Go.Operand.tmp 115) 4, type := 4, pos := "law.go:68", after := #[{ on := 5, ground := Go.Ground.data }, { on := 6, ground := Go.Ground.data }, { on := 3, ground := Go.Ground.guard }], guard := some (3, true) }) (v := ?vd8) rfl (by kernel_rfl) (by kernel_rfl) (by kernel_rfl) (fun _ _ _ h => h) (Or.inl ⟨by rfl, ?hyd8⟩) (by assumption) ?restd8
            case hyd8 => intro w hSw; (try dsimp only at hSw); go_simp; try with_reducible rfl
            try simp only [Act.put, List.setIfInBounds_toArray, List.set_cons_zero, List.set_cons_succ]
            refine wpAnyH_take (i := 8) (oi := { dst := some 117, op := Go.Op.pick (Go.Operand.tmp 112) (Go.Operand.tmp 116) (Go.Operand.const (Go.Value.bool false)), type := 4, pos := "law.go:68", after := #[{ on := 3, ground := Go.Ground.data }, { on := 7, ground := Go.Ground.data }], guard := none }) (v := ?vd9) rfl (by kernel_rfl) (by kernel_rfl) (by kernel_rfl) (fun _ _ _ h => h) (Or.inl ⟨by rfl, ?hyd9⟩) (by assumption) ?restd9
            case hyd9 => intro w hSw; (try dsimp only at hSw); go_simp; try with_reducible rfl
            try simp only [Act.put, List.setIfInBounds_toArray, List.set_cons_zero, List.set_cons_succ]
            refine wpAnyH_take (i := 9) (oi := { dst := some 118, op := Go.Op.move (Go.Operand.tmp 117), type := 4, pos := "law.go:68", after := #[{ on := 8, ground := Go.Ground.data }, { on := 3, ground := Go.Ground.chain }], guard := none }) (v := ?vd10) rfl (by kernel_rfl) (by kernel_rfl) (by kernel_rfl) (fun _ _ _ h => h) (Or.inl ⟨by rfl, ?hyd10⟩) (by assumption) ?restd10
            case hyd10 => intro w hSw; (try dsimp only at hSw); go_simp; try with_reducible rfl
            try simp only [Act.put, List.setIfInBounds_toArray, List.set_cons_zero, List.set_cons_succ]
            refine wpAnyH_take (i := 10) (oi := { dst := some 119, op := Go.Op.move (Go.Operand.tmp 18), type := 4, pos := "law.go:68", after := #[{ on := 9, ground := Go.Ground.guard }], guard := some (9, true) }) (v := ?vd11) rfl (by kernel_rfl) (by kernel_rfl) (by kernel_rfl) (fun _ _ _ h => h) (Or.inl ⟨by rfl, ?hyd11⟩) (by assumption) ?restd11
            case hyd11 => intro w hSw; (try dsimp only at hSw); go_simp; try with_reducible rfl
            try simp only [Act.put, List.setIfInBounds_toArray, List.set_cons_zero, List.set_cons_succ]
            refine wpAnyH_take (i := 11) (oi := { dst := some 120, op := Go.Op.move (Go.Operand.tmp 119), type := 4, pos := "law.go:68", after := #[{ on := 10, ground := Go.Ground.data }, { on := 9, ground := Go.Ground.chain }, { on := 9, ground := Go.Ground.guard }], guard := some (9, true) }) (v := ?vd12) rfl (by kernel_rfl) (by kernel_rfl) (by kernel_rfl) (fun _ _ _ h => h) (Or.inl ⟨by rfl, ?hyd12⟩) (by assumption) ?restd12
            case hyd12 => intro w hSw; (try dsimp only at hSw); go_simp; try with_reducible rfl
            try simp only [Act.put, List.setIfInBounds_toArray, List.set_cons_zero, List.set_cons_succ]
            refine wpAnyH_take (i := 12) (oi := { dst := some 121, op := Go.Op.move (Go.Operand.tmp 16), type := 24, pos := "law.go:68", after := #[{ on := 11, ground := Go.Ground.guard }], guard := some (11, false) }) (v := undef) rfl (by kernel_rfl) (by kernel_rfl) (by kernel_rfl) (fun _ _ _ h => h) (Or.inr ⟨by rfl, rfl⟩) (by assumption) ?restd13
            try simp only [Act.put, List.setIfInBounds_toArray, List.set_cons_zero, List.set_cons_succ]
            refine wpAnyH_take (i := 13) (oi := { dst := some 122, op := Go.Op.binOp Go.BinOp.eql 24 (Go.Operand.tmp 121) (Go.Operand.const (Go.Value.int Go.IntKind.i64 14)) 24, type := 4, pos := "law.go:68", after := #[{ on := 12, ground := Go.Ground.data }, { on := 11, ground := Go.Ground.guard }], guard := some (11, false) }) (v := undef) rfl (by kernel_rfl) (by kernel_rfl) (by kernel_rfl) (fun _ _ _ h => h) (Or.inr ⟨by rfl, rfl⟩) (by assumption) ?restd14
            try simp only [Act.put, List.setIfInBounds_toArray, List.set_cons_zero, List.set_cons_succ]
            refine wpAnyH_take (i := 14) (oi := { dst := some 123, op := Go.Op.pick (Go.Operand.tmp 120) (Go.Operand.const (Go.Value.bool true)) (Go.Operand.tmp 122), type := 4, pos := "law.go:68", after := #[{ on := 11, ground := Go.Ground.data }, { on := 13, ground := Go.Ground.data }, { on := 9, ground := Go.Ground.guard }], guard := some (9, true) }) (v := ?vd15) rfl (by kernel_rfl) (by kernel_rfl) (by kernel_rfl) (fun _ _ _ h => h) (Or.inl ⟨by rfl, ?hyd15⟩) (by assumption) ?restd15
            case hyd15 => intro w hSw; (try dsimp only at hSw); go_simp; try with_reducible rfl
            try simp only [Act.put, List.setIfInBounds_toArray, List.set_cons_zero, List.set_cons_succ]
            refine wpAnyH_take (i := 15) (oi := { dst := some 124, op := Go.Op.pick (Go.Operand.tmp 118) (Go.Operand.tmp 123) (Go.Operand.const (Go.Value.bool false)), type := 4, pos := "law.go:68", after := #[{ on := 9, ground := Go.Ground.data }, { on := 14, ground := Go.Ground.data }], guard := none }) (v := ?vd16) rfl (by kernel_rfl) (by kernel_rfl) (by kernel_rfl) (fun _ _ _ h => h) (Or.inl ⟨by rfl, ?hyd16⟩) (by assumption) ?restd16
            case hyd16 => intro w hSw; (try dsimp only at hSw); go_simp; try with_reducible rfl
            try simp only [Act.put, List.setIfInBounds_toArray, List.set_cons_zero, List.set_cons_succ]
            refine wpAnyH_take (i := 16) (oi := { dst := some 125, op := Go.Op.move (Go.Operand.tmp 124), type := 4, pos := "law.go:68", after := #[{ on := 15, ground := Go.Ground.data }, { on := 11, ground := Go.Ground.chain }], guard := none }) (v := ?vd17) rfl (by kernel_rfl) (by kernel_rfl) (by kernel_rfl) (fun _ _ _ h => h) (Or.inl ⟨by rfl, ?hyd17⟩) (by assumption) ?restd17
            case hyd17 => intro w hSw; (try dsimp only at hSw); go_simp; try with_reducible rfl
            try simp only [Act.put, List.setIfInBounds_toArray, List.set_cons_zero, List.set_cons_succ]
            refine wpAnyH_take (i := 17) (oi := { dst := some 126, op := Go.Op.move (Go.Operand.tmp 19), type := 26, pos := "law.go:68", after := #[{ on := 16, ground := Go.Ground.guard }], guard := some (16, true) }) (v := ?vd18) rfl (by kernel_rfl) (by kernel_rfl) (by kernel_rfl) (fun _ _ _ h => h) (Or.inl ⟨by rfl, ?hyd18⟩) (by assumption) ?restd18
            case hyd18 => intro w hSw; (try dsimp only at hSw); go_simp; try with_reducible rfl
            try simp only [Act.put, List.setIfInBounds_toArray, List.set_cons_zero, List.set_cons_succ]
            refine wpAnyH_take (i := 18) (oi := { dst := some 127, op := Go.Op.move (Go.Operand.tmp 22), type := 26, pos := "law.go:68", after := #[{ on := 16, ground := Go.Ground.guard }], guard := some (16, true) }) (v := ?vd19) rfl (by kernel_rfl) (by kernel_rfl) (by kernel_rfl) (fun _ _ _ h => h) (Or.inl ⟨by rfl, ?hyd19⟩) (by assumption) ?restd19
            case hyd19 => intro w hSw; (try dsimp only at hSw); go_simp; try with_reducible rfl
            try simp only [Act.put, List.setIfInBounds_toArray, List.set_cons_zero, List.set_cons_succ]
            refine wpAnyH_ready (rs := [19]) (by kernel_rfl) (by simp) ?_
            refine AllReadyH.cons (o := { dst := some 128, op := Go.Op.call { callee := Go.Callee.value (Go.Operand.func 23), args := #[Go.Operand.tmp 126, Go.Operand.tmp 127], argTypes := #[26, 26] }, type := 4, pos := "law.go:68", after := #[{ on := 17, ground := Go.Ground.data }, { on := 18, ground := Go.Ground.data }, { on := 16, ground := Go.Ground.chain }, { on := 16, ground := Go.Ground.guard }], guard := some (16, true) }) rfl (fun K hK => ?_) AllReadyH.nil
            go_simp
            refine (csame_any _ _ _ _ (P13.below hBd) (Q13.below hBd)).mono ?_; rintro e wa ⟨rfl, qa, rfl⟩; have hBa : Below w13.heap.size w13 (wr.drewN (1 + qa)) := below_drewN hbw _; have hBa2 : Below w13.heap.size w13 (wr.drew.drewN qa) := below_drewN hBd _
            try go_wp2_with fail
            refine hK.out _ _ ?hSd20 ?restd20
            case hSd20 => (try dsimp only); exact mkF.out _ (by assumption)
            clear hK K hHeld
            intro hHeld
            try simp only [Act.put, List.setIfInBounds_toArray, List.set_cons_zero, List.set_cons_succ]
            refine wpAnyH_take (i := 20) (oi := { dst := some 129, op := Go.Op.pick (Go.Operand.tmp 125) (Go.Operand.tmp 128) (Go.Operand.const (Go.Value.bool false)), type := 4, pos := "law.go:68", after := #[{ on := 16, ground := Go.Ground.data }, { on := 19, ground := Go.Ground.data }], guard := none }) (v := ?vd21) rfl (by kernel_rfl) (by kernel_rfl) (by kernel_rfl) (fun _ _ _ h => h) (Or.inl ⟨by rfl, ?hyd21⟩) (by assumption) ?restd21
            case hyd21 => intro w hSw; (try dsimp only at hSw); go_simp; try with_reducible rfl
            try simp only [Act.put, List.setIfInBounds_toArray, List.set_cons_zero, List.set_cons_succ]
            refine wpAnyH_take (i := 21) (oi := { dst := some 130, op := Go.Op.move (Go.Operand.tmp 129), type := 4, pos := "law.go:68", after := #[{ on := 20, ground := Go.Ground.data }, { on := 19, ground := Go.Ground.chain }], guard := none }) (v := ?vd22) rfl (by kernel_rfl) (by kernel_rfl) (by kernel_rfl) (fun _ _ _ h => h) (Or.inl ⟨by rfl, ?hyd22⟩) (by assumption) ?restd22
            case hyd22 => intro w hSw; (try dsimp only at hSw); go_simp; try with_reducible rfl
            try simp only [Act.put, List.setIfInBounds_toArray, List.set_cons_zero, List.set_cons_succ]
            refine wpAnyH_take (i := 22) (oi := { dst := some 131, op := Go.Op.move (Go.Operand.tmp 20), type := 3, pos := "law.go:68", after := #[{ on := 21, ground := Go.Ground.guard }], guard := some (21, true) }) (v := ?vd23) rfl (by kernel_rfl) (by kernel_rfl) (by kernel_rfl) (fun _ _ _ h => h) (Or.inl ⟨by rfl, ?hyd23⟩) (by assumption) ?restd23
            case hyd23 => intro w hSw; (try dsimp only at hSw); go_simp; try with_reducible rfl
            try simp only [Act.put, List.setIfInBounds_toArray, List.set_cons_zero, List.set_cons_succ]
            refine wpAnyH_take (i := 23) (oi := { dst := some 132, op := Go.Op.move (Go.Operand.tmp 23), type := 3, pos := "law.go:68", after := #[{ on := 21, ground := Go.Ground.guard }], guard := some (21, true) }) (v := ?vd24) rfl (by kernel_rfl) (by kernel_rfl) (by kernel_rfl) (fun _ _ _ h => h) (Or.inl ⟨by rfl, ?hyd24⟩) (by assumption) ?restd24
            case hyd24 => intro w hSw; (try dsimp only at hSw); go_simp; try with_reducible rfl
            try simp only [Act.put, List.setIfInBounds_toArray, List.set_cons_zero, List.set_cons_succ]
            refine wpAnyH_take (i := 24) (oi := { dst := some 133, op := Go.Op.binOp Go.BinOp.eql 3 (Go.Operand.tmp 131) (Go.Operand.tmp 132) 3, type := 4, pos := "law.go:68", after := #[{ on := 22, ground := Go.Ground.data }, { on := 23, ground := Go.Ground.data }, { on := 21, ground := Go.Ground.guard }], guard := some (21, true) }) (v := ?vd25) rfl (by kernel_rfl) (by kernel_rfl) (by kernel_rfl) (fun _ _ _ h => h) (Or.inl ⟨by rfl, ?hyd25⟩) (by assumption) ?restd25
            case hyd25 => intro w hSw; (try dsimp only at hSw); go_simp; try with_reducible rfl
            try simp only [Act.put, List.setIfInBounds_toArray, List.set_cons_zero, List.set_cons_succ]
            refine wpAnyH_take (i := 25) (oi := { dst := some 134, op := Go.Op.pick (Go.Operand.tmp 130) (Go.Operand.tmp 133) (Go.Operand.const (Go.Value.bool false)), type := 4, pos := "law.go:68", after := #[{ on := 21, ground := Go.Ground.data }, { on := 24, ground := Go.Ground.data }], guard := none }) (v := ?vd26) rfl (by kernel_rfl) (by kernel_rfl) (by kernel_rfl) (fun _ _ _ h => h) (Or.inl ⟨by rfl, ?hyd26⟩) (by assumption) ?restd26
            case hyd26 => intro w hSw; (try dsimp only at hSw); go_simp; try with_reducible rfl
            try simp only [Act.put, List.setIfInBounds_toArray, List.set_cons_zero, List.set_cons_succ]
            refine wpAnyH_take (i := 26) (oi := { dst := some 135, op := Go.Op.move (Go.Operand.tmp 134), type := 4, pos := "law.go:68", after := #[{ on := 25, ground := Go.Ground.data }, { on := 21, ground := Go.Ground.chain }], guard := none }) (v := ?vd27) rfl (by kernel_rfl) (by kernel_rfl) (by kernel_rfl) (fun _ _ _ h => h) (Or.inl ⟨by rfl, ?hyd27⟩) (by assumption) ?restd27
            case hyd27 => intro w hSw; (try dsimp only at hSw); go_simp; try with_reducible rfl
            try simp only [Act.put, List.setIfInBounds_toArray, List.set_cons_zero, List.set_cons_succ]
            refine wpAnyH_take (i := 27) (oi := { dst := some 136, op := Go.Op.move (Go.Operand.tmp 21), type := 24, pos := "law.go:68", after := #[{ on := 26, ground := Go.Ground.guard }], guard := some (26, true) }) (v := ?vd28) rfl (by kernel_rfl) (by kernel_rfl) (by kernel_rfl) (fun _ _ _ h => h) (Or.inl ⟨by rfl, ?hyd28⟩) (by assumption) ?restd28
            case hyd28 => intro w hSw; (try dsimp only at hSw); go_simp; try with_reducible rfl
            try simp only [Act.put, List.setIfInBounds_toArray, List.set_cons_zero, List.set_cons_succ]
            refine wpAnyH_take (i := 28) (oi := { dst := some 137, op := Go.Op.move (Go.Operand.tmp 24), type := 3, pos := "law.go:68", after := #[{ on := 26, ground := Go.Ground.guard }], guard := some (26, true) }) (v := ?vd29) rfl (by kernel_rfl) (by kernel_rfl) (by kernel_rfl) (fun _ _ _ h => h) (Or.inl ⟨by rfl, ?hyd29⟩) (by assumption) ?restd29
            case hyd29 => intro w hSw; (try dsimp only at hSw); go_simp; try with_reducible rfl
            try simp only [Act.put, List.setIfInBounds_toArray, List.set_cons_zero, List.set_cons_succ]
            refine wpAnyH_take (i := 29) (oi := { dst := some 138, op := Go.Op.binOp Go.BinOp.eql 3 (Go.Operand.tmp 136) (Go.Operand.tmp 137) 3, type := 4, pos := "law.go:68", after := #[{ on := 27, ground := Go.Ground.data }, { on := 28, ground := Go.Ground.data }, { on := 26, ground := Go.Ground.guard }], guard := some (26, true) }) (v := ?vd30) rfl (by kernel_rfl) (by kernel_rfl) (by kernel_rfl) (fun _ _ _ h => h) (Or.inl ⟨by rfl, ?hyd30⟩) (by assumption) ?restd30
            case hyd30 => intro w hSw; (try dsimp only at hSw); go_simp; try with_reducible rfl
            try simp only [Act.put, List.setIfInBounds_toArray, List.set_cons_zero, List.set_cons_succ]
            refine wpAnyH_take (i := 30) (oi := { dst := some 139, op := Go.Op.pick (Go.Operand.tmp 135) (Go.Operand.tmp 138) (Go.Operand.const (Go.Value.bool false)), type := 4, pos := "law.go:68", after := #[{ on := 26, ground := Go.Ground.data }, { on := 29, ground := Go.Ground.data }], guard := none }) (v := ?vd31) rfl (by kernel_rfl) (by kernel_rfl) (by kernel_rfl) (fun _ _ _ h => h) (Or.inl ⟨by rfl, ?hyd31⟩) (by assumption) ?restd31
            case hyd31 => intro w hSw; (try dsimp only at hSw); go_simp; try with_reducible rfl
            try simp only [Act.put, List.setIfInBounds_toArray, List.set_cons_zero, List.set_cons_succ]
            refine wpAnyH_take (i := 31) (oi := { dst := some 140, op := Go.Op.move (Go.Operand.tmp 139), type := 4, pos := "law.go:68", after := #[{ on := 30, ground := Go.Ground.data }, { on := 26, ground := Go.Ground.chain }], guard := none }) (v := ?vd32) rfl (by kernel_rfl) (by kernel_rfl) (by kernel_rfl) (fun _ _ _ h => h) (Or.inl ⟨by rfl, ?hyd32⟩) (by assumption) ?restd32
            case hyd32 => intro w hSw; (try dsimp only at hSw); go_simp; try with_reducible rfl
            try simp only [Act.put, List.setIfInBounds_toArray, List.set_cons_zero, List.set_cons_succ]
            refine wpAnyH_take (i := 32) (oi := { dst := some 141, op := Go.Op.load 30 (Go.Operand.tmp 5), type := 30, pos := "law.go:68", after := #[{ on := 31, ground := Go.Ground.guard }], guard := some (31, true) }) (v := ?vd33) rfl (by kernel_rfl) (by kernel_rfl) (by kernel_rfl) (fun _ _ _ h => h) (Or.inl ⟨by rfl, ?hyd33⟩) (by assumption) ?restd33
            case hyd33 => intro w hSw; (try dsimp only at hSw); go_simp; try with_reducible rfl
            try simp only [Act.put, List.setIfInBounds_toArray, List.set_cons_zero, List.set_cons_succ]
            refine wpAnyH_take (i := 34) (oi := { dst := some 143, op := Go.Op.load 30 (Go.Operand.tmp 5), type := 30, pos := "law.go:68", after := #[{ on := 31, ground := Go.Ground.guard }], guard := some (31, true) }) (v := ?vd34) rfl (by kernel_rfl) (by kernel_rfl) (by kernel_rfl) (fun _ _ _ h => h) (Or.inl ⟨by rfl, ?hyd34⟩) (by assumption) ?restd34
            case hyd34 => intro w hSw; (try dsimp only at hSw); go_simp; try with_reducible rfl
            try simp only [Act.put, List.setIfInBounds_toArray, List.set_cons_zero, List.set_cons_succ]
            refine wpAnyH_ready (rs := [33]) (by kernel_rfl) (by simp) ?_
            refine AllReadyH.cons (o := { dst := some 142, op := Go.Op.call { callee := Go.Callee.value (Go.Operand.func 21), args := #[Go.Operand.tmp 141], argTypes := #[30] }, type := 4, pos := "law.go:68", after := #[{ on := 32, ground := Go.Ground.data }, { on := 31, ground := Go.Ground.chain }, { on := 31, ground := Go.Ground.guard }], guard := some (31, true) }) rfl (fun K hK => ?_) AllReadyH.nil
            go_simp
            refine (HRt _).out.mono ?_; rintro e wb ⟨rfl, bb⟩; have hBb : Below w13.heap.size w13 wb := hBa.trans (bb.mono hBa.size)
            try go_wp2_with fail
            refine hK.out _ _ ?hSd35 ?restd35
            case hSd35 => (try dsimp only); exact mkF.out _ (by assumption)
            clear hK K hHeld
            intro hHeld
            try simp only [Act.put, List.setIfInBounds_toArray, List.set_cons_zero, List.set_cons_succ]
            refine wpAnyH_ready (rs := [35]) (by kernel_rfl) (by simp) ?_
            refine AllReadyH.cons (o := { dst := some 144, op := Go.Op.call { callee := Go.Callee.value (Go.Operand.func 22), args := #[Go.Operand.tmp 143], argTypes := #[30] }, type := 4, pos := "law.go:68", after := #[{ on := 34, ground := Go.Ground.data }, { on := 33, ground := Go.Ground.chain }, { on := 31, ground := Go.Ground.guard }], guard := some (31, true) }) rfl (fun K hK => ?_) AllReadyH.nil
            go_simp
            refine (HRr _).out.mono ?_; rintro e wd ⟨rfl, bd⟩; have hBe : Below w13.heap.size w13 wd := hBb.trans (bd.mono hBb.size)
            try go_wp2_with fail
            refine hK.out _ _ ?hSd36 ?restd36
            case hSd36 => (try dsimp only); exact mkF.out _ (by assumption)
            clear hK K hHeld
            intro hHeld
            try simp only [Act.put, List.setIfInBounds_toArray, List.set_cons_zero, List.set_cons_succ]
            refine wpAnyH_take (i := 36) (oi := { dst := some 145, op := Go.Op.binOp Go.BinOp.eql 4 (Go.Operand.tmp 142) (Go.Operand.tmp 144) 4, type := 4, pos := "law.go:68", after := #[{ on := 33, ground := Go.Ground.data }, { on := 35, ground := Go.Ground.data }, { on := 31, ground := Go.Ground.guard }], guard := some (31, true) }) (v := ?vd37) rfl (by kernel_rfl) (by kernel_rfl) (by kernel_rfl) (fun _ _ _ h => h) (Or.inl ⟨by rfl, ?hyd37⟩) (by assumption) ?restd37
            case hyd37 => intro w hSw; (try dsimp only at hSw); go_simp; try with_reducible rfl
            try simp only [Act.put, List.setIfInBounds_toArray, List.set_cons_zero, List.set_cons_succ]
            refine wpAnyH_take (i := 37) (oi := { dst := some 146, op := Go.Op.pick (Go.Operand.tmp 140) (Go.Operand.tmp 145) (Go.Operand.const (Go.Value.bool false)), type := 4, pos := "law.go:68", after := #[{ on := 31, ground := Go.Ground.data }, { on := 36, ground := Go.Ground.data }], guard := none }) (v := ?vd38) rfl (by kernel_rfl) (by kernel_rfl) (by kernel_rfl) (fun _ _ _ h => h) (Or.inl ⟨by rfl, ?hyd38⟩) (by assumption) ?restd38
            case hyd38 => intro w hSw; (try dsimp only at hSw); go_simp; try with_reducible rfl
            try simp only [Act.put, List.setIfInBounds_toArray, List.set_cons_zero, List.set_cons_succ]
            refine wpAnyH_take (i := 38) (oi := { dst := some 147, op := Go.Op.move (Go.Operand.tmp 146), type := 4, pos := "law.go:68", after := #[{ on := 37, ground := Go.Ground.data }, { on := 35, ground := Go.Ground.chain }], guard := none }) (v := ?vd39) rfl (by kernel_rfl) (by kernel_rfl) (by kernel_rfl) (fun _ _ _ h => h) (Or.inl ⟨by rfl, ?hyd39⟩) (by assumption) ?restd39
            case hyd39 => intro w hSw; (try dsimp only at hSw); go_simp; try with_reducible rfl
            try simp only [Act.put, List.setIfInBounds_toArray, List.set_cons_zero, List.set_cons_succ]
            refine wpAnyH_take (i := 39) (oi := { dst := some 148, op := Go.Op.move (Go.Operand.tmp 9), type := 26, pos := "law.go:68", after := #[{ on := 38, ground := Go.Ground.guard }], guard := some (38, true) }) (v := ?vd40) rfl (by kernel_rfl) (by kernel_rfl) (by kernel_rfl) (fun _ _ _ h => h) (Or.inl ⟨by rfl, ?hyd40⟩) (by assumption) ?restd40
            case hyd40 => intro w hSw; (try dsimp only at hSw); go_simp; try with_reducible rfl
            try simp only [Act.put, List.setIfInBounds_toArray, List.set_cons_zero, List.set_cons_succ]
            refine wpAnyH_take (i := 40) (oi := { dst := some 149, op := Go.Op.move (Go.Operand.tmp 0), type := 26, pos := "law.go:68", after := #[{ on := 38, ground := Go.Ground.guard }], guard := some (38, true) }) (v := ?vd41) rfl (by kernel_rfl) (by kernel_rfl) (by kernel_rfl) (fun _ _ _ h => h) (Or.inl ⟨by rfl, ?hyd41⟩) (by assumption) ?restd41
            case hyd41 => intro w hSw; (try dsimp only at hSw); go_simp; try with_reducible rfl
            try simp only [Act.put, List.setIfInBounds_toArray, List.set_cons_zero, List.set_cons_succ]
            refine wpAnyH_ready (rs := [41]) (by kernel_rfl) (by simp) ?_
            refine AllReadyH.cons (o := { dst := some 150, op := Go.Op.call { callee := Go.Callee.value (Go.Operand.func 12), args := #[Go.Operand.const (Go.Value.int Go.IntKind.i32 77)], argTypes := #[21] }, type := 30, pos := "law.go:68", after := #[{ on := 38, ground := Go.Ground.chain }, { on := 38, ground := Go.Ground.guard }], guard := some (38, true) }) rfl (fun K hK => ?_) AllReadyH.nil
            go_simp
            refine (HN _ _).out.mono ?_; rintro e wf ⟨rfl, bf⟩; have hBf : Below w13.heap.size w13 wf := hBe.trans (bf.mono hBe.size)
            try go_wp2_with fail
            refine hK.out _ _ ?hSd42 ?restd42
            case hSd42 => (try dsimp only); exact mkF.out _ (by assumption)
            clear hK K hHeld
            intro hHeld
            try simp only [Act.put, List.setIfInBounds_toArray, List.set_cons_zero, List.set_cons_succ]
            refine wpAnyH_ready (rs := [42]) (by kernel_rfl) (by simp) ?_
            refine AllReadyH.cons (o := { dst := some 151, op := Go.Op.call { callee := Go.Callee.value (Go.Operand.func 24), args := #[Go.Operand.tmp 148, Go.Operand.tmp 149, Go.Operand.tmp 150], argTypes := #[26, 26, 30] }, type := 4, pos := "law.go:68", after := #[{ on := 39, ground := Go.Ground.data }, { on := 40, ground := Go.Ground.data }, { on := 41, ground := Go.Ground.data }, { on := 41, ground := Go.Ground.chain }, { on := 38, ground := Go.Ground.guard }], guard := some (38, true) }) rfl (fun K hK => ?_) AllReadyH.nil
            go_simp
            refine (HIn _ (F13.below hBf) (L13.below hBf)).out.mono ?_; rintro e wg ⟨rfl, bg⟩; have hBg : Below w13.heap.size w13 wg := hBf.trans (bg.mono hBf.size)
            try go_wp2_with fail
            refine hK.out _ _ ?hSd43 ?restd43
            case hSd43 => (try dsimp only); exact mkF.out _ (by assumption)
            clear hK K hHeld
            intro hHeld
            try simp only [Act.put, List.setIfInBounds_toArray, List.set_cons_zero, List.set_cons_succ]
            refine wpAnyH_take (i := 43) (oi := { dst := some 152, op := Go.Op.pick (Go.Operand.tmp 147) (Go.Operand.tmp 151) (Go.Operand.const (Go.Value.bool false)), type := 4, pos := "law.go:68", after := #[{ on := 38, ground := Go.Ground.data }, { on := 42, ground := Go.Ground.data }], guard := none }) (v := ?vd44) rfl (by kernel_rfl) (by kernel_rfl) (by kernel_rfl) (fun _ _ _ h => h) (Or.inl ⟨by rfl, ?hyd44⟩) (by assumption) ?restd44
            case hyd44 => intro w hSw; (try dsimp only at hSw); go_simp; try with_reducible rfl
            try simp only [Act.put, List.setIfInBounds_toArray, List.set_cons_zero, List.set_cons_succ]
            refine wpAnyH_take (i := 44) (oi := { dst := some 153, op := Go.Op.move (Go.Operand.tmp 152), type := 4, pos := "law.go:68", after := #[{ on := 43, ground := Go.Ground.data }, { on := 42, ground := Go.Ground.chain }], guard := none }) (v := ?vd45) rfl (by kernel_rfl) (by kernel_rfl) (by kernel_rfl) (fun _ _ _ h => h) (Or.inl ⟨by rfl, ?hyd45⟩) (by assumption) ?restd45
            case hyd45 => intro w hSw; (try dsimp only at hSw); go_simp; try with_reducible rfl
            try simp only [Act.put, List.setIfInBounds_toArray, List.set_cons_zero, List.set_cons_succ]
            refine wpAnyH_ready (rs := [45]) (by kernel_rfl) (by simp) ?_
            refine AllReadyH.cons (o := { dst := some 154, op := Go.Op.call { callee := Go.Callee.value (Go.Operand.func 16), args := #[], argTypes := #[] }, type := 4, pos := "law.go:68", after := #[{ on := 44, ground := Go.Ground.chain }, { on := 44, ground := Go.Ground.guard }], guard := some (44, true) }) rfl (fun K hK => ?_) AllReadyH.nil
            go_simp
            refine (known_any _ (T13.below hBg)).mono ?_; rintro e wh ⟨rfl, bh⟩; have hBh : Below w13.heap.size w13 wh := hBg.trans (bh.mono hBg.size)
            try go_wp2_with fail
            refine hK.out _ _ ?hSd46 ?restd46
            case hSd46 => (try dsimp only); exact mkF.out _ (by assumption)
            clear hK K hHeld
            intro hHeld
            try simp only [Act.put, List.setIfInBounds_toArray, List.set_cons_zero, List.set_cons_succ]
            refine wpAnyH_take (i := 46) (oi := { dst := some 155, op := Go.Op.pick (Go.Operand.tmp 153) (Go.Operand.tmp 154) (Go.Operand.const (Go.Value.bool false)), type := 4, pos := "law.go:68", after := #[{ on := 44, ground := Go.Ground.data }, { on := 45, ground := Go.Ground.data }], guard := none }) (v := ?vd47) rfl (by kernel_rfl) (by kernel_rfl) (by kernel_rfl) (fun _ _ _ h => h) (Or.inl ⟨by rfl, ?hyd47⟩) (by assumption) ?restd47
            case hyd47 => intro w hSw; (try dsimp only at hSw); go_simp; try with_reducible rfl
            try simp only [Act.put, List.setIfInBounds_toArray, List.set_cons_zero, List.set_cons_succ]
            refine wpAnyH_take (i := 47) (oi := { dst := some 8, op := Go.Op.assign (Go.Operand.tmp 155), type := 4, pos := "law.go:68", after := #[{ on := 46, ground := Go.Ground.data }, { on := 45, ground := Go.Ground.chain }, { on := 0, ground := Go.Ground.phase }, { on := 1, ground := Go.Ground.phase }, { on := 2, ground := Go.Ground.phase }, { on := 3, ground := Go.Ground.phase }, { on := 4, ground := Go.Ground.phase }, { on := 5, ground := Go.Ground.phase }, { on := 6, ground := Go.Ground.phase }, { on := 7, ground := Go.Ground.phase }, { on := 8, ground := Go.Ground.phase }, { on := 9, ground := Go.Ground.phase }, { on := 10, ground := Go.Ground.phase }, { on := 11, ground := Go.Ground.phase }, { on := 12, ground := Go.Ground.phase }, { on := 13, ground := Go.Ground.phase }, { on := 14, ground := Go.Ground.phase }, { on := 15, ground := Go.Ground.phase }, { on := 16, ground := Go.Ground.phase }, { on := 17, ground := Go.Ground.phase }, { on := 18, ground := Go.Ground.phase }, { on := 19, ground := Go.Ground.phase }, { on := 20, ground := Go.Ground.phase }, { on := 21, ground := Go.Ground.phase }, { on := 22, ground := Go.Ground.phase }, { on := 23, ground := Go.Ground.phase }, { on := 24, ground := Go.Ground.phase }, { on := 25, ground := Go.Ground.phase }, { on := 26, ground := Go.Ground.phase }, { on := 27, ground := Go.Ground.phase }, { on := 28, ground := Go.Ground.phase }, { on := 29, ground := Go.Ground.phase }, { on := 30, ground := Go.Ground.phase }, { on := 31, ground := Go.Ground.phase }, { on := 32, ground := Go.Ground.phase }, { on := 33, ground := Go.Ground.phase }, { on := 34, ground := Go.Ground.phase }, { on := 35, ground := Go.Ground.phase }, { on := 36, ground := Go.Ground.phase }, { on := 37, ground := Go.Ground.phase }, { on := 38, ground := Go.Ground.phase }, { on := 39, ground := Go.Ground.phase }, { on := 40, ground := Go.Ground.phase }, { on := 41, ground := Go.Ground.phase }, { on := 42, ground := Go.Ground.phase }, { on := 43, ground := Go.Ground.phase }, { on := 44, ground := Go.Ground.phase }, { on := 45, ground := Go.Ground.phase }, { on := 46, ground := Go.Ground.phase }], guard := none }) (v := ?vd48) rfl (by kernel_rfl) (by kernel_rfl) (by kernel_rfl) (fun _ _ _ h => h) (Or.inl ⟨by rfl, ?hyd48⟩) (by assumption) ?restd48
            case hyd48 => intro w hSw; (try dsimp only at hSw); go_simp; try with_reducible rfl
            try simp only [Act.put, List.setIfInBounds_toArray, List.set_cons_zero, List.set_cons_succ]
            refine wpAnyH_done (by kernel_rfl) ?_ _
            refine NoPanic.normal ?_
            go_wp2
            go_ret
            exact ⟨rfl, B13.trans (hBh.mono yw)⟩
          · go_wp2_with fail
            refine wp_region_noPanic ?_
            refine wp_region_held_drew (S := (fun w' => (w'.cell? ⟨w8.heap.size, 0, none⟩ = some (.int .i64 gc.kind) ∧ w'.cell? ⟨w8.heap.size, 1, none⟩ = some (.int .i32 gc.n) ∧ w'.cell? ⟨w8.heap.size, 2, none⟩ = some (.string gc.cls) ∧ w'.cell? ⟨w8.heap.size, 3, none⟩ = some (.string gc.nm) ∧ w'.cell? ⟨w8.heap.size, 4, none⟩ = some (.string gc.dsc)) ∧ (w'.cell? ⟨w10.heap.size, 0, none⟩ = some (.int .i64 gc.kind) ∧ w'.cell? ⟨w10.heap.size, 1, none⟩ = some (.int .i32 gc.n) ∧ w'.cell? ⟨w10.heap.size, 2, none⟩ = some (.string gc.cls) ∧ w'.cell? ⟨w10.heap.size, 3, none⟩ = some (.string gc.nm) ∧ w'.cell? ⟨w10.heap.size, 4, none⟩ = some (.string gc.dsc)) ∧ w'.cell? ⟨w.heap.size, 0, none⟩ = some (.int .i64 c.kind) ∧ w'.cell? ⟨w.heap.size, 1, none⟩ = some (.int .i32 c.n) ∧ w'.cell? ⟨w.heap.size, 2, none⟩ = some (.string c.cls) ∧ w'.cell? ⟨w.heap.size, 3, none⟩ = some (.string c.nm) ∧ w'.cell? ⟨w.heap.size, 4, none⟩ = some (.string c.dsc))) (by kernel_rfl) ?_ (fun hHeld => ?_)
            · (try dsimp only); exact mkF.out _ (by assumption)
            refine wpAnyH_take (i := 0) (oi := { dst := some 109, op := Go.Op.load 30 (Go.Operand.tmp 15), type := 30, pos := "law.go:68", after := #[], guard := none }) (v := ?vf1) rfl (by kernel_rfl) (by kernel_rfl) (by kernel_rfl) (fun _ _ _ h => h) (Or.inl ⟨by rfl, ?hyf1⟩) (by assumption) ?restf1
            case hyf1 => intro w hSw; (try dsimp only at hSw); go_simp; try with_reducible rfl
            try simp only [Act.put, List.setIfInBounds_toArray, List.set_cons_zero, List.set_cons_succ]
            refine wpAnyH_take (i := 1) (oi := { dst := some 110, op := Go.Op.load 30 (Go.Operand.tmp 17), type := 30, pos := "law.go:68", after := #[], guard := none }) (v := ?vf2) rfl (by kernel_rfl) (by kernel_rfl) (by kernel_rfl) (fun _ _ _ h => h) (Or.inl ⟨by rfl, ?hyf2⟩) (by assumption) ?restf2
            case hyf2 => intro w hSw; (try dsimp only at hSw); go_simp; try with_reducible rfl
            try simp only [Act.put, List.setIfInBounds_toArray, List.set_cons_zero, List.set_cons_succ]
            refine wpAnyH_take (i := 2) (oi := { dst := some 111, op := Go.Op.binOp Go.BinOp.eql 30 (Go.Operand.tmp 109) (Go.Operand.tmp 110) 30, type := 4, pos := "law.go:68", after := #[{ on := 0, ground := Go.Ground.data }, { on := 1, ground := Go.Ground.data }], guard := none }) (v := ?vf3) rfl (by kernel_rfl) (by kernel_rfl) (by kernel_rfl) (fun _ _ _ h => h) (Or.inl ⟨by rfl, ?hyf3⟩) (by assumption) ?restf3
            case hyf3 => intro w hSw; (try dsimp only at hSw); go_simp; try with_reducible rfl
            try simp only [Act.put, List.setIfInBounds_toArray, List.set_cons_zero, List.set_cons_succ]
            refine wpAnyH_take (i := 3) (oi := { dst := some 112, op := Go.Op.move (Go.Operand.tmp 111), type := 4, pos := "law.go:68", after := #[{ on := 2, ground := Go.Ground.data }], guard := none }) (v := ?vf4) rfl (by kernel_rfl) (by kernel_rfl) (by kernel_rfl) (fun _ _ _ h => h) (Or.inl ⟨by rfl, ?hyf4⟩) (by assumption) ?restf4
            case hyf4 => intro w hSw; (try dsimp only at hSw); go_simp; try with_reducible rfl
            try simp only [Act.put, List.setIfInBounds_toArray, List.set_cons_zero, List.set_cons_succ]
            refine wpAnyH_take (i := 4) (oi := { dst := some 113, op := Go.Op.move (Go.Operand.tmp 16), type := 24, pos := "law.go:68", after := #[{ on := 3, ground := Go.Ground.guard }], guard := some (3, true) }) (v := ?vf5) rfl (by kernel_rfl) (by kernel_rfl) (by kernel_rfl) (fun _ _ _ h => h) (Or.inl ⟨by rfl, ?hyf5⟩) (by assumption) ?restf5
            case hyf5 => intro w hSw; (try dsimp only at hSw); go_simp; try with_reducible rfl
            try simp only [Act.put, List.setIfInBounds_toArray, List.set_cons_zero, List.set_cons_succ]
            refine wpAnyH_take (i := 5) (oi := { dst := some 114, op := Go.Op.binOp Go.BinOp.eql 24 (Go.Operand.tmp 113) (Go.Operand.const (Go.Value.int Go.IntKind.i64 0)) 24, type := 4, pos := "law.go:68", after := #[{ on := 4, ground := Go.Ground.data }, { on := 3, ground := Go.Ground.guard }], guard := some (3, true) }) (v := ?vf6) rfl (by kernel_rfl) (by kernel_rfl) (by kernel_rfl) (fun _ _ _ h => h) (Or.inl ⟨by rfl, ?hyf6⟩) (by assumption) ?restf6
            case hyf6 => intro w hSw; (try dsimp only at hSw); go_simp; try with_reducible rfl
            try simp only [Act.put, List.setIfInBounds_toArray, List.set_cons_zero, List.set_cons_succ]
            refine wpAnyH_take (i := 6) (oi := { dst := some 115, op := Go.Op.move (Go.Operand.tmp 18), type := 4, pos := "law.go:68", after := #[{ on := 3, ground := Go.Ground.guard }], guard := some (3, true) }) (v := ?vf7) rfl (by kernel_rfl) (by kernel_rfl) (by kernel_rfl) (fun _ _ _ h => h) (Or.inl ⟨by rfl, ?hyf7⟩) (by assumption) ?restf7
            case hyf7 => intro w hSw; (try dsimp only at hSw); go_simp; try with_reducible rfl
            try simp only [Act.put, List.setIfInBounds_toArray, List.set_cons_zero, List.set_cons_succ]
            refine wpAnyH_take (i := 7) (oi := { dst := some 116, op := Go.Op.binOp Go.BinOp.eql 4 (Go.Operand.tmp 114) (Go.Operand.tmp 115) 4, type := 4, pos := "law.go:68", after := #[{ on := 5, ground := Go.Ground.data }, { on := 6, ground := Go.Ground.data }, { on := 3, ground := Go.Ground.guard }], guard := some (3, true) }) (v := ?vf8) rfl (by kernel_rfl) (by kernel_rfl) (by kernel_rfl) (fun _ _ _ h => h) (Or.inl ⟨by rfl, ?hyf8⟩) (by assumption) ?restf8
            case hyf8 => intro w hSw; (try dsimp only at hSw); go_simp; try with_reducible rfl
            try simp only [Act.put, List.setIfInBounds_toArray, List.set_cons_zero, List.set_cons_succ]
            refine wpAnyH_take (i := 8) (oi := { dst := some 117, op := Go.Op.pick (Go.Operand.tmp 112) (Go.Operand.tmp 116) (Go.Operand.const (Go.Value.bool false)), type := 4, pos := "law.go:68", after := #[{ on := 3, ground := Go.Ground.data }, { on := 7, ground := Go.Ground.data }], guard := none }) (v := ?vf9) rfl (by kernel_rfl) (by kernel_rfl) (by kernel_rfl) (fun _ _ _ h => h) (Or.inl ⟨by rfl, ?hyf9⟩) (by assumption) ?restf9
            case hyf9 => intro w hSw; (try dsimp only at hSw); go_simp; try with_reducible rfl
            try simp only [Act.put, List.setIfInBounds_toArray, List.set_cons_zero, List.set_cons_succ]
            refine wpAnyH_take (i := 9) (oi := { dst := some 118, op := Go.Op.move (Go.Operand.tmp 117), type := 4, pos := "law.go:68", after := #[{ on := 8, ground := Go.Ground.data }, { on := 3, ground := Go.Ground.chain }], guard := none }) (v := ?vf10) rfl (by kernel_rfl) (by kernel_rfl) (by kernel_rfl) (fun _ _ _ h => h) (Or.inl ⟨by rfl, ?hyf10⟩) (by assumption) ?restf10
            case hyf10 => intro w hSw; (try dsimp only at hSw); go_simp; try with_reducible rfl
            try simp only [Act.put, List.setIfInBounds_toArray, List.set_cons_zero, List.set_cons_succ]
            refine wpAnyH_take (i := 10) (oi := { dst := some 119, op := Go.Op.move (Go.Operand.tmp 18), type := 4, pos := "law.go:68", after := #[{ on := 9, ground := Go.Ground.guard }], guard := some (9, true) }) (v := ?vf11) rfl (by kernel_rfl) (by kernel_rfl) (by kernel_rfl) (fun _ _ _ h => h) (Or.inl ⟨by rfl, ?hyf11⟩) (by assumption) ?restf11
            case hyf11 => intro w hSw; (try dsimp only at hSw); go_simp; try with_reducible rfl
            try simp only [Act.put, List.setIfInBounds_toArray, List.set_cons_zero, List.set_cons_succ]
            refine wpAnyH_take (i := 11) (oi := { dst := some 120, op := Go.Op.move (Go.Operand.tmp 119), type := 4, pos := "law.go:68", after := #[{ on := 10, ground := Go.Ground.data }, { on := 9, ground := Go.Ground.chain }, { on := 9, ground := Go.Ground.guard }], guard := some (9, true) }) (v := ?vf12) rfl (by kernel_rfl) (by kernel_rfl) (by kernel_rfl) (fun _ _ _ h => h) (Or.inl ⟨by rfl, ?hyf12⟩) (by assumption) ?restf12
            case hyf12 => intro w hSw; (try dsimp only at hSw); go_simp; try with_reducible rfl
            try simp only [Act.put, List.setIfInBounds_toArray, List.set_cons_zero, List.set_cons_succ]
            refine wpAnyH_take (i := 12) (oi := { dst := some 121, op := Go.Op.move (Go.Operand.tmp 16), type := 24, pos := "law.go:68", after := #[{ on := 11, ground := Go.Ground.guard }], guard := some (11, false) }) (v := ?vf13) rfl (by kernel_rfl) (by kernel_rfl) (by kernel_rfl) (fun _ _ _ h => h) (Or.inl ⟨by rfl, ?hyf13⟩) (by assumption) ?restf13
            case hyf13 => intro w hSw; (try dsimp only at hSw); go_simp; try with_reducible rfl
            try simp only [Act.put, List.setIfInBounds_toArray, List.set_cons_zero, List.set_cons_succ]
            refine wpAnyH_take (i := 13) (oi := { dst := some 122, op := Go.Op.binOp Go.BinOp.eql 24 (Go.Operand.tmp 121) (Go.Operand.const (Go.Value.int Go.IntKind.i64 14)) 24, type := 4, pos := "law.go:68", after := #[{ on := 12, ground := Go.Ground.data }, { on := 11, ground := Go.Ground.guard }], guard := some (11, false) }) (v := ?vf14) rfl (by kernel_rfl) (by kernel_rfl) (by kernel_rfl) (fun _ _ _ h => h) (Or.inl ⟨by rfl, ?hyf14⟩) (by assumption) ?restf14
            case hyf14 => intro w hSw; (try dsimp only at hSw); go_simp; try with_reducible rfl
            try simp only [Act.put, List.setIfInBounds_toArray, List.set_cons_zero, List.set_cons_succ]
            refine wpAnyH_take (i := 14) (oi := { dst := some 123, op := Go.Op.pick (Go.Operand.tmp 120) (Go.Operand.const (Go.Value.bool true)) (Go.Operand.tmp 122), type := 4, pos := "law.go:68", after := #[{ on := 11, ground := Go.Ground.data }, { on := 13, ground := Go.Ground.data }, { on := 9, ground := Go.Ground.guard }], guard := some (9, true) }) (v := ?vf15) rfl (by kernel_rfl) (by kernel_rfl) (by kernel_rfl) (fun _ _ _ h => h) (Or.inl ⟨by rfl, ?hyf15⟩) (by assumption) ?restf15
            case hyf15 => intro w hSw; (try dsimp only at hSw); go_simp; try with_reducible rfl
            try simp only [Act.put, List.setIfInBounds_toArray, List.set_cons_zero, List.set_cons_succ]
            refine wpAnyH_take (i := 15) (oi := { dst := some 124, op := Go.Op.pick (Go.Operand.tmp 118) (Go.Operand.tmp 123) (Go.Operand.const (Go.Value.bool false)), type := 4, pos := "law.go:68", after := #[{ on := 9, ground := Go.Ground.data }, { on := 14, ground := Go.Ground.data }], guard := none }) (v := ?vf16) rfl (by kernel_rfl) (by kernel_rfl) (by kernel_rfl) (fun _ _ _ h => h) (Or.inl ⟨by rfl, ?hyf16⟩) (by assumption) ?restf16
            case hyf16 => intro w hSw; (try dsimp only at hSw); go_simp; try with_reducible rfl
            try simp only [Act.put, List.setIfInBounds_toArray, List.set_cons_zero, List.set_cons_succ]
            refine wpAnyH_take (i := 16) (oi := { dst := some 125, op := Go.Op.move (Go.Operand.tmp 124), type := 4, pos := "law.go:68", after := #[{ on := 15, ground := Go.Ground.data }, { on := 11, ground := Go.Ground.chain }], guard := none }) (v := ?vf17) rfl (by kernel_rfl) (by kernel_rfl) (by kernel_rfl) (fun _ _ _ h => h) (Or.inl ⟨by rfl, ?hyf17⟩) (by assumption) ?restf17
            case hyf17 => intro w hSw; (try dsimp only at hSw); go_simp; try with_reducible rfl
            try simp only [Act.put, List.setIfInBounds_toArray, List.set_cons_zero, List.set_cons_succ]
            refine wpAnyH_take (i := 17) (oi := { dst := some 126, op := Go.Op.move (Go.Operand.tmp 19), type := 26, pos := "law.go:68", after := #[{ on := 16, ground := Go.Ground.guard }], guard := some (16, true) }) (v := ?vf18) rfl (by kernel_rfl) (by kernel_rfl) (by kernel_rfl) (fun _ _ _ h => h) (Or.inl ⟨by rfl, ?hyf18⟩) (by assumption) ?restf18
            case hyf18 => intro w hSw; (try dsimp only at hSw); go_simp; try with_reducible rfl
            try simp only [Act.put, List.setIfInBounds_toArray, List.set_cons_zero, List.set_cons_succ]
            refine wpAnyH_take (i := 18) (oi := { dst := some 127, op := Go.Op.move (Go.Operand.tmp 22), type := 26, pos := "law.go:68", after := #[{ on := 16, ground := Go.Ground.guard }], guard := some (16, true) }) (v := ?vf19) rfl (by kernel_rfl) (by kernel_rfl) (by kernel_rfl) (fun _ _ _ h => h) (Or.inl ⟨by rfl, ?hyf19⟩) (by assumption) ?restf19
            case hyf19 => intro w hSw; (try dsimp only at hSw); go_simp; try with_reducible rfl
            try simp only [Act.put, List.setIfInBounds_toArray, List.set_cons_zero, List.set_cons_succ]
            refine wpAnyH_ready (rs := [19]) (by kernel_rfl) (by simp) ?_
            refine AllReadyH.cons (o := { dst := some 128, op := Go.Op.call { callee := Go.Callee.value (Go.Operand.func 23), args := #[Go.Operand.tmp 126, Go.Operand.tmp 127], argTypes := #[26, 26] }, type := 4, pos := "law.go:68", after := #[{ on := 17, ground := Go.Ground.data }, { on := 18, ground := Go.Ground.data }, { on := 16, ground := Go.Ground.chain }, { on := 16, ground := Go.Ground.guard }], guard := some (16, true) }) rfl (fun K hK => ?_) AllReadyH.nil
            go_simp
            refine (csame_any _ _ _ _ (P13.below hBd) (Q13.below hBd)).mono ?_; rintro e wa ⟨rfl, qa, rfl⟩; have hBa : Below w13.heap.size w13 (wr.drewN (1 + qa)) := below_drewN hbw _; have hBa2 : Below w13.heap.size w13 (wr.drew.drewN qa) := below_drewN hBd _
            try go_wp2_with fail
            refine hK.out _ _ ?hSf20 ?restf20
            case hSf20 => (try dsimp only); exact mkF.out _ (by assumption)
            clear hK K hHeld
            intro hHeld
            try simp only [Act.put, List.setIfInBounds_toArray, List.set_cons_zero, List.set_cons_succ]
            refine wpAnyH_take (i := 20) (oi := { dst := some 129, op := Go.Op.pick (Go.Operand.tmp 125) (Go.Operand.tmp 128) (Go.Operand.const (Go.Value.bool false)), type := 4, pos := "law.go:68", after := #[{ on := 16, ground := Go.Ground.data }, { on := 19, ground := Go.Ground.data }], guard := none }) (v := ?vf21) rfl (by kernel_rfl) (by kernel_rfl) (by kernel_rfl) (fun _ _ _ h => h) (Or.inl ⟨by rfl, ?hyf21⟩) (by assumption) ?restf21
            case hyf21 => intro w hSw; (try dsimp only at hSw); go_simp; try with_reducible rfl
            try simp only [Act.put, List.setIfInBounds_toArray, List.set_cons_zero, List.set_cons_succ]
            refine wpAnyH_take (i := 21) (oi := { dst := some 130, op := Go.Op.move (Go.Operand.tmp 129), type := 4, pos := "law.go:68", after := #[{ on := 20, ground := Go.Ground.data }, { on := 19, ground := Go.Ground.chain }], guard := none }) (v := ?vf22) rfl (by kernel_rfl) (by kernel_rfl) (by kernel_rfl) (fun _ _ _ h => h) (Or.inl ⟨by rfl, ?hyf22⟩) (by assumption) ?restf22
            case hyf22 => intro w hSw; (try dsimp only at hSw); go_simp; try with_reducible rfl
            try simp only [Act.put, List.setIfInBounds_toArray, List.set_cons_zero, List.set_cons_succ]
            refine wpAnyH_take (i := 22) (oi := { dst := some 131, op := Go.Op.move (Go.Operand.tmp 20), type := 3, pos := "law.go:68", after := #[{ on := 21, ground := Go.Ground.guard }], guard := some (21, true) }) (v := ?vf23) rfl (by kernel_rfl) (by kernel_rfl) (by kernel_rfl) (fun _ _ _ h => h) (Or.inl ⟨by rfl, ?hyf23⟩) (by assumption) ?restf23
            case hyf23 => intro w hSw; (try dsimp only at hSw); go_simp; try with_reducible rfl
            try simp only [Act.put, List.setIfInBounds_toArray, List.set_cons_zero, List.set_cons_succ]
            refine wpAnyH_take (i := 23) (oi := { dst := some 132, op := Go.Op.move (Go.Operand.tmp 23), type := 3, pos := "law.go:68", after := #[{ on := 21, ground := Go.Ground.guard }], guard := some (21, true) }) (v := ?vf24) rfl (by kernel_rfl) (by kernel_rfl) (by kernel_rfl) (fun _ _ _ h => h) (Or.inl ⟨by rfl, ?hyf24⟩) (by assumption) ?restf24
            case hyf24 => intro w hSw; (try dsimp only at hSw); go_simp; try with_reducible rfl
            try simp only [Act.put, List.setIfInBounds_toArray, List.set_cons_zero, List.set_cons_succ]
            refine wpAnyH_take (i := 24) (oi := { dst := some 133, op := Go.Op.binOp Go.BinOp.eql 3 (Go.Operand.tmp 131) (Go.Operand.tmp 132) 3, type := 4, pos := "law.go:68", after := #[{ on := 22, ground := Go.Ground.data }, { on := 23, ground := Go.Ground.data }, { on := 21, ground := Go.Ground.guard }], guard := some (21, true) }) (v := ?vf25) rfl (by kernel_rfl) (by kernel_rfl) (by kernel_rfl) (fun _ _ _ h => h) (Or.inl ⟨by rfl, ?hyf25⟩) (by assumption) ?restf25
            case hyf25 => intro w hSw; (try dsimp only at hSw); go_simp; try with_reducible rfl
            try simp only [Act.put, List.setIfInBounds_toArray, List.set_cons_zero, List.set_cons_succ]
            refine wpAnyH_take (i := 25) (oi := { dst := some 134, op := Go.Op.pick (Go.Operand.tmp 130) (Go.Operand.tmp 133) (Go.Operand.const (Go.Value.bool false)), type := 4, pos := "law.go:68", after := #[{ on := 21, ground := Go.Ground.data }, { on := 24, ground := Go.Ground.data }], guard := none }) (v := ?vf26) rfl (by kernel_rfl) (by kernel_rfl) (by kernel_rfl) (fun _ _ _ h => h) (Or.inl ⟨by rfl, ?hyf26⟩) (by assumption) ?restf26
            case hyf26 => intro w hSw; (try dsimp only at hSw); go_simp; try with_reducible rfl
            try simp only [Act.put, List.setIfInBounds_toArray, List.set_cons_zero, List.set_cons_succ]
            refine wpAnyH_take (i := 26) (oi := { dst := some 135, op := Go.Op.move (Go.Operand.tmp 134), type := 4, pos := "law.go:68", after := #[{ on := 25, ground := Go.Ground.data }, { on := 21, ground := Go.Ground.chain }], guard := none }) (v := ?vf27) rfl (by kernel_rfl) (by kernel_rfl) (by kernel_rfl) (fun _ _ _ h => h) (Or.inl ⟨by rfl, ?hyf27⟩) (by assumption) ?restf27
            case hyf27 => intro w hSw; (try dsimp only at hSw); go_simp; try with_reducible rfl
            try simp only [Act.put, List.setIfInBounds_toArray, List.set_cons_zero, List.set_cons_succ]
            refine wpAnyH_take (i := 27) (oi := { dst := some 136, op := Go.Op.move (Go.Operand.tmp 21), type := 24, pos := "law.go:68", after := #[{ on := 26, ground := Go.Ground.guard }], guard := some (26, true) }) (v := ?vf28) rfl (by kernel_rfl) (by kernel_rfl) (by kernel_rfl) (fun _ _ _ h => h) (Or.inl ⟨by rfl, ?hyf28⟩) (by assumption) ?restf28
            case hyf28 => intro w hSw; (try dsimp only at hSw); go_simp; try with_reducible rfl
            try simp only [Act.put, List.setIfInBounds_toArray, List.set_cons_zero, List.set_cons_succ]
            refine wpAnyH_take (i := 28) (oi := { dst := some 137, op := Go.Op.move (Go.Operand.tmp 24), type := 3, pos := "law.go:68", after := #[{ on := 26, ground := Go.Ground.guard }], guard := some (26, true) }) (v := ?vf29) rfl (by kernel_rfl) (by kernel_rfl) (by kernel_rfl) (fun _ _ _ h => h) (Or.inl ⟨by rfl, ?hyf29⟩) (by assumption) ?restf29
            case hyf29 => intro w hSw; (try dsimp only at hSw); go_simp; try with_reducible rfl
            try simp only [Act.put, List.setIfInBounds_toArray, List.set_cons_zero, List.set_cons_succ]
            refine wpAnyH_take (i := 29) (oi := { dst := some 138, op := Go.Op.binOp Go.BinOp.eql 3 (Go.Operand.tmp 136) (Go.Operand.tmp 137) 3, type := 4, pos := "law.go:68", after := #[{ on := 27, ground := Go.Ground.data }, { on := 28, ground := Go.Ground.data }, { on := 26, ground := Go.Ground.guard }], guard := some (26, true) }) (v := ?vf30) rfl (by kernel_rfl) (by kernel_rfl) (by kernel_rfl) (fun _ _ _ h => h) (Or.inl ⟨by rfl, ?hyf30⟩) (by assumption) ?restf30
            case hyf30 => intro w hSw; (try dsimp only at hSw); go_simp; try with_reducible rfl
            try simp only [Act.put, List.setIfInBounds_toArray, List.set_cons_zero, List.set_cons_succ]
            refine wpAnyH_take (i := 30) (oi := { dst := some 139, op := Go.Op.pick (Go.Operand.tmp 135) (Go.Operand.tmp 138) (Go.Operand.const (Go.Value.bool false)), type := 4, pos := "law.go:68", after := #[{ on := 26, ground := Go.Ground.data }, { on := 29, ground := Go.Ground.data }], guard := none }) (v := ?vf31) rfl (by kernel_rfl) (by kernel_rfl) (by kernel_rfl) (fun _ _ _ h => h) (Or.inl ⟨by rfl, ?hyf31⟩) (by assumption) ?restf31
            case hyf31 => intro w hSw; (try dsimp only at hSw); go_simp; try with_reducible rfl
            try simp only [Act.put, List.setIfInBounds_toArray, List.set_cons_zero, List.set_cons_succ]
            refine wpAnyH_take (i := 31) (oi := { dst := some 140, op := Go.Op.move (Go.Operand.tmp 139), type := 4, pos := "law.go:68", after := #[{ on := 30, ground := Go.Ground.data }, { on := 26, ground := Go.Ground.chain }], guard := none }) (v := ?vf32) rfl (by kernel_rfl) (by kernel_rfl) (by kernel_rfl) (fun _ _ _ h => h) (Or.inl ⟨by rfl, ?hyf32⟩) (by assumption) ?restf32
            case hyf32 => intro w hSw; (try dsimp only at hSw); go_simp; try with_reducible rfl
            try simp only [Act.put, List.setIfInBounds_toArray, List.set_cons_zero, List.set_cons_succ]
            refine wpAnyH_take (i := 32) (oi := { dst := some 141, op := Go.Op.load 30 (Go.Operand.tmp 5), type := 30, pos := "law.go:68", after := #[{ on := 31, ground := Go.Ground.guard }], guard := some (31, true) }) (v := ?vf33) rfl (by kernel_rfl) (by kernel_rfl) (by kernel_rfl) (fun _ _ _ h => h) (Or.inl ⟨by rfl, ?hyf33⟩) (by assumption) ?restf33
            case hyf33 => intro w hSw; (try dsimp only at hSw); go_simp; try with_reducible rfl
            try simp only [Act.put, List.setIfInBounds_toArray, List.set_cons_zero, List.set_cons_succ]
            refine wpAnyH_take (i := 34) (oi := { dst := some 143, op := Go.Op.load 30 (Go.Operand.tmp 5), type := 30, pos := "law.go:68", after := #[{ on := 31, ground := Go.Ground.guard }], guard := some (31, true) }) (v := ?vf34) rfl (by kernel_rfl) (by kernel_rfl) (by kernel_rfl) (fun _ _ _ h => h) (Or.inl ⟨by rfl, ?hyf34⟩) (by assumption) ?restf34
            case hyf34 => intro w hSw; (try dsimp only at hSw); go_simp; try with_reducible rfl
            try simp only [Act.put, List.setIfInBounds_toArray, List.set_cons_zero, List.set_cons_succ]
            refine wpAnyH_ready (rs := [33]) (by kernel_rfl) (by simp) ?_
            refine AllReadyH.cons (o := { dst := some 142, op := Go.Op.call { callee := Go.Callee.value (Go.Operand.func 21), args := #[Go.Operand.tmp 141], argTypes := #[30] }, type := 4, pos := "law.go:68", after := #[{ on := 32, ground := Go.Ground.data }, { on := 31, ground := Go.Ground.chain }, { on := 31, ground := Go.Ground.guard }], guard := some (31, true) }) rfl (fun K hK => ?_) AllReadyH.nil
            go_simp
            refine (HRt _).out.mono ?_; rintro e wb ⟨rfl, bb⟩; have hBb : Below w13.heap.size w13 wb := hBa.trans (bb.mono hBa.size)
            try go_wp2_with fail
            refine hK.out _ _ ?hSf35 ?restf35
            case hSf35 => (try dsimp only); exact mkF.out _ (by assumption)
            clear hK K hHeld
            intro hHeld
            try simp only [Act.put, List.setIfInBounds_toArray, List.set_cons_zero, List.set_cons_succ]
            refine wpAnyH_ready (rs := [35]) (by kernel_rfl) (by simp) ?_
            refine AllReadyH.cons (o := { dst := some 144, op := Go.Op.call { callee := Go.Callee.value (Go.Operand.func 22), args := #[Go.Operand.tmp 143], argTypes := #[30] }, type := 4, pos := "law.go:68", after := #[{ on := 34, ground := Go.Ground.data }, { on := 33, ground := Go.Ground.chain }, { on := 31, ground := Go.Ground.guard }], guard := some (31, true) }) rfl (fun K hK => ?_) AllReadyH.nil
            go_simp
            refine (HRr _).out.mono ?_; rintro e wd ⟨rfl, bd⟩; have hBe : Below w13.heap.size w13 wd := hBb.trans (bd.mono hBb.size)
            try go_wp2_with fail
            refine hK.out _ _ ?hSf36 ?restf36
            case hSf36 => (try dsimp only); exact mkF.out _ (by assumption)
            clear hK K hHeld
            intro hHeld
            try simp only [Act.put, List.setIfInBounds_toArray, List.set_cons_zero, List.set_cons_succ]
            refine wpAnyH_take (i := 36) (oi := { dst := some 145, op := Go.Op.binOp Go.BinOp.eql 4 (Go.Operand.tmp 142) (Go.Operand.tmp 144) 4, type := 4, pos := "law.go:68", after := #[{ on := 33, ground := Go.Ground.data }, { on := 35, ground := Go.Ground.data }, { on := 31, ground := Go.Ground.guard }], guard := some (31, true) }) (v := ?vf37) rfl (by kernel_rfl) (by kernel_rfl) (by kernel_rfl) (fun _ _ _ h => h) (Or.inl ⟨by rfl, ?hyf37⟩) (by assumption) ?restf37
            case hyf37 => intro w hSw; (try dsimp only at hSw); go_simp; try with_reducible rfl
            try simp only [Act.put, List.setIfInBounds_toArray, List.set_cons_zero, List.set_cons_succ]
            refine wpAnyH_take (i := 37) (oi := { dst := some 146, op := Go.Op.pick (Go.Operand.tmp 140) (Go.Operand.tmp 145) (Go.Operand.const (Go.Value.bool false)), type := 4, pos := "law.go:68", after := #[{ on := 31, ground := Go.Ground.data }, { on := 36, ground := Go.Ground.data }], guard := none }) (v := ?vf38) rfl (by kernel_rfl) (by kernel_rfl) (by kernel_rfl) (fun _ _ _ h => h) (Or.inl ⟨by rfl, ?hyf38⟩) (by assumption) ?restf38
            case hyf38 => intro w hSw; (try dsimp only at hSw); go_simp; try with_reducible rfl
            try simp only [Act.put, List.setIfInBounds_toArray, List.set_cons_zero, List.set_cons_succ]
            refine wpAnyH_take (i := 38) (oi := { dst := some 147, op := Go.Op.move (Go.Operand.tmp 146), type := 4, pos := "law.go:68", after := #[{ on := 37, ground := Go.Ground.data }, { on := 35, ground := Go.Ground.chain }], guard := none }) (v := ?vf39) rfl (by kernel_rfl) (by kernel_rfl) (by kernel_rfl) (fun _ _ _ h => h) (Or.inl ⟨by rfl, ?hyf39⟩) (by assumption) ?restf39
            case hyf39 => intro w hSw; (try dsimp only at hSw); go_simp; try with_reducible rfl
            try simp only [Act.put, List.setIfInBounds_toArray, List.set_cons_zero, List.set_cons_succ]
            refine wpAnyH_take (i := 39) (oi := { dst := some 148, op := Go.Op.move (Go.Operand.tmp 9), type := 26, pos := "law.go:68", after := #[{ on := 38, ground := Go.Ground.guard }], guard := some (38, true) }) (v := ?vf40) rfl (by kernel_rfl) (by kernel_rfl) (by kernel_rfl) (fun _ _ _ h => h) (Or.inl ⟨by rfl, ?hyf40⟩) (by assumption) ?restf40
            case hyf40 => intro w hSw; (try dsimp only at hSw); go_simp; try with_reducible rfl
            try simp only [Act.put, List.setIfInBounds_toArray, List.set_cons_zero, List.set_cons_succ]
            refine wpAnyH_take (i := 40) (oi := { dst := some 149, op := Go.Op.move (Go.Operand.tmp 0), type := 26, pos := "law.go:68", after := #[{ on := 38, ground := Go.Ground.guard }], guard := some (38, true) }) (v := ?vf41) rfl (by kernel_rfl) (by kernel_rfl) (by kernel_rfl) (fun _ _ _ h => h) (Or.inl ⟨by rfl, ?hyf41⟩) (by assumption) ?restf41
            case hyf41 => intro w hSw; (try dsimp only at hSw); go_simp; try with_reducible rfl
            try simp only [Act.put, List.setIfInBounds_toArray, List.set_cons_zero, List.set_cons_succ]
            refine wpAnyH_ready (rs := [41]) (by kernel_rfl) (by simp) ?_
            refine AllReadyH.cons (o := { dst := some 150, op := Go.Op.call { callee := Go.Callee.value (Go.Operand.func 12), args := #[Go.Operand.const (Go.Value.int Go.IntKind.i32 77)], argTypes := #[21] }, type := 30, pos := "law.go:68", after := #[{ on := 38, ground := Go.Ground.chain }, { on := 38, ground := Go.Ground.guard }], guard := some (38, true) }) rfl (fun K hK => ?_) AllReadyH.nil
            go_simp
            refine (HN _ _).out.mono ?_; rintro e wf ⟨rfl, bf⟩; have hBf : Below w13.heap.size w13 wf := hBe.trans (bf.mono hBe.size)
            try go_wp2_with fail
            refine hK.out _ _ ?hSf42 ?restf42
            case hSf42 => (try dsimp only); exact mkF.out _ (by assumption)
            clear hK K hHeld
            intro hHeld
            try simp only [Act.put, List.setIfInBounds_toArray, List.set_cons_zero, List.set_cons_succ]
            refine wpAnyH_ready (rs := [42]) (by kernel_rfl) (by simp) ?_
            refine AllReadyH.cons (o := { dst := some 151, op := Go.Op.call { callee := Go.Callee.value (Go.Operand.func 24), args := #[Go.Operand.tmp 148, Go.Operand.tmp 149, Go.Operand.tmp 150], argTypes := #[26, 26, 30] }, type := 4, pos := "law.go:68", after := #[{ on := 39, ground := Go.Ground.data }, { on := 40, ground := Go.Ground.data }, { on := 41, ground := Go.Ground.data }, { on := 41, ground := Go.Ground.chain }, { on := 38, ground := Go.Ground.guard }], guard := some (38, true) }) rfl (fun K hK => ?_) AllReadyH.nil
            go_simp
            refine (HIn _ (F13.below hBf) (L13.below hBf)).out.mono ?_; rintro e wg ⟨rfl, bg⟩; have hBg : Below w13.heap.size w13 wg := hBf.trans (bg.mono hBf.size)
            try go_wp2_with fail
            refine hK.out _ _ ?hSf43 ?restf43
            case hSf43 => (try dsimp only); exact mkF.out _ (by assumption)
            clear hK K hHeld
            intro hHeld
            try simp only [Act.put, List.setIfInBounds_toArray, List.set_cons_zero, List.set_cons_succ]
            refine wpAnyH_take (i := 43) (oi := { dst := some 152, op := Go.Op.pick (Go.Operand.tmp 147) (Go.Operand.tmp 151) (Go.Operand.const (Go.Value.bool false)), type := 4, pos := "law.go:68", after := #[{ on := 38, ground := Go.Ground.data }, { on := 42, ground := Go.Ground.data }], guard := none }) (v := ?vf44) rfl (by kernel_rfl) (by kernel_rfl) (by kernel_rfl) (fun _ _ _ h => h) (Or.inl ⟨by rfl, ?hyf44⟩) (by assumption) ?restf44
            case hyf44 => intro w hSw; (try dsimp only at hSw); go_simp; try with_reducible rfl
            try simp only [Act.put, List.setIfInBounds_toArray, List.set_cons_zero, List.set_cons_succ]
            refine wpAnyH_take (i := 44) (oi := { dst := some 153, op := Go.Op.move (Go.Operand.tmp 152), type := 4, pos := "law.go:68", after := #[{ on := 43, ground := Go.Ground.data }, { on := 42, ground := Go.Ground.chain }], guard := none }) (v := ?vf45) rfl (by kernel_rfl) (by kernel_rfl) (by kernel_rfl) (fun _ _ _ h => h) (Or.inl ⟨by rfl, ?hyf45⟩) (by assumption) ?restf45
            case hyf45 => intro w hSw; (try dsimp only at hSw); go_simp; try with_reducible rfl
            try simp only [Act.put, List.setIfInBounds_toArray, List.set_cons_zero, List.set_cons_succ]
            refine wpAnyH_ready (rs := [45]) (by kernel_rfl) (by simp) ?_
            refine AllReadyH.cons (o := { dst := some 154, op := Go.Op.call { callee := Go.Callee.value (Go.Operand.func 16), args := #[], argTypes := #[] }, type := 4, pos := "law.go:68", after := #[{ on := 44, ground := Go.Ground.chain }, { on := 44, ground := Go.Ground.guard }], guard := some (44, true) }) rfl (fun K hK => ?_) AllReadyH.nil
            go_simp
            refine (known_any _ (T13.below hBg)).mono ?_; rintro e wh ⟨rfl, bh⟩; have hBh : Below w13.heap.size w13 wh := hBg.trans (bh.mono hBg.size)
            try go_wp2_with fail
            refine hK.out _ _ ?hSf46 ?restf46
            case hSf46 => (try dsimp only); exact mkF.out _ (by assumption)
            clear hK K hHeld
            intro hHeld
            try simp only [Act.put, List.setIfInBounds_toArray, List.set_cons_zero, List.set_cons_succ]
            refine wpAnyH_take (i := 46) (oi := { dst := some 155, op := Go.Op.pick (Go.Operand.tmp 153) (Go.Operand.tmp 154) (Go.Operand.const (Go.Value.bool false)), type := 4, pos := "law.go:68", after := #[{ on := 44, ground := Go.Ground.data }, { on := 45, ground := Go.Ground.data }], guard := none }) (v := ?vf47) rfl (by kernel_rfl) (by kernel_rfl) (by kernel_rfl) (fun _ _ _ h => h) (Or.inl ⟨by rfl, ?hyf47⟩) (by assumption) ?restf47
            case hyf47 => intro w hSw; (try dsimp only at hSw); go_simp; try with_reducible rfl
            try simp only [Act.put, List.setIfInBounds_toArray, List.set_cons_zero, List.set_cons_succ]
            refine wpAnyH_take (i := 47) (oi := { dst := some 8, op := Go.Op.assign (Go.Operand.tmp 155), type := 4, pos := "law.go:68", after := #[{ on := 46, ground := Go.Ground.data }, { on := 45, ground := Go.Ground.chain }, { on := 0, ground := Go.Ground.phase }, { on := 1, ground := Go.Ground.phase }, { on := 2, ground := Go.Ground.phase }, { on := 3, ground := Go.Ground.phase }, { on := 4, ground := Go.Ground.phase }, { on := 5, ground := Go.Ground.phase }, { on := 6, ground := Go.Ground.phase }, { on := 7, ground := Go.Ground.phase }, { on := 8, ground := Go.Ground.phase }, { on := 9, ground := Go.Ground.phase }, { on := 10, ground := Go.Ground.phase }, { on := 11, ground := Go.Ground.phase }, { on := 12, ground := Go.Ground.phase }, { on := 13, ground := Go.Ground.phase }, { on := 14, ground := Go.Ground.phase }, { on := 15, ground := Go.Ground.phase }, { on := 16, ground := Go.Ground.phase }, { on := 17, ground := Go.Ground.phase }, { on := 18, ground := Go.Ground.phase }, { on := 19, ground := Go.Ground.phase }, { on := 20, ground := Go.Ground.phase }, { on := 21, ground := Go.Ground.phase }, { on := 22, ground := Go.Ground.phase }, { on := 23, ground := Go.Ground.phase }, { on := 24, ground := Go.Ground.phase }, { on := 25, ground := Go.Ground.phase }, { on := 26, ground := Go.Ground.phase }, { on := 27, ground := Go.Ground.phase }, { on := 28, ground := Go.Ground.phase }, { on := 29, ground := Go.Ground.phase }, { on := 30, ground := Go.Ground.phase }, { on := 31, ground := Go.Ground.phase }, { on := 32, ground := Go.Ground.phase }, { on := 33, ground := Go.Ground.phase }, { on := 34, ground := Go.Ground.phase }, { on := 35, ground := Go.Ground.phase }, { on := 36, ground := Go.Ground.phase }, { on := 37, ground := Go.Ground.phase }, { on := 38, ground := Go.Ground.phase }, { on := 39, ground := Go.Ground.phase }, { on := 40, ground := Go.Ground.phase }, { on := 41, ground := Go.Ground.phase }, { on := 42, ground := Go.Ground.phase }, { on := 43, ground := Go.Ground.phase }, { on := 44, ground := Go.Ground.phase }, { on := 45, ground := Go.Ground.phase }, { on := 46, ground := Go.Ground.phase }], guard := none }) (v := ?vf48) rfl (by kernel_rfl) (by kernel_rfl) (by kernel_rfl) (fun _ _ _ h => h) (Or.inl ⟨by rfl, ?hyf48⟩) (by assumption) ?restf48
            case hyf48 => intro w hSw; (try dsimp only at hSw); go_simp; try with_reducible rfl
            try simp only [Act.put, List.setIfInBounds_toArray, List.set_cons_zero, List.set_cons_succ]
            refine wpAnyH_done (by kernel_rfl) ?_ _
            refine NoPanic.normal ?_
            go_wp2
            go_ret
            exact ⟨rfl, B13.trans (hBh.mono yw)⟩
end Go.Proofs.YtjnaiekdbigikaaDoor
