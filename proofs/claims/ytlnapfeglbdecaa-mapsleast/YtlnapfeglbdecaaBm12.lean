/- Texts RO RP. -/
import Derived.Test.YtlnapfeglbdecaaBm02
import Derived.Test.YtlnapfeglbdecaaBm11
import Derived.Deep.RegionHeld3
import Derived.Deep.RegionWith
import Derived.BigQuiet
import Derived.Deep.QuietTactic
namespace Go.Proofs.Ytlnapfeglbdecaa
open Go.RowKit
def box5 (i : IN) : Obj := .cells #[.int .i64 i.pl, .int .i64 i.op, .int .i64 i.a, .int .i64 i.b] 52
set_option maxRecDepth 8000 in
set_option maxHeartbeats 4000000 in
theorem rone1 (hN : NameC) (i : IN) (h : kd i.op = 1) (w : World) : Calls Try.prog 63 #[.agg #[.int .i64 i.pl, .int .i64 i.op, .int .i64 i.a, .int .i64 i.b]] w fun e w' => Below w.heap.size w w' ∧ ∃ ao n c, e = .returned (.tuple #[.slice ao n c, .bool (fitsB i)]) ∧ (fitsB i = true → w'.ownsRow w.heap.size 5 1 (.slice ao n c) (oneB i).length (bcells (oneB i))) := by
  have hop := kd_byte (op := i.op) (by omega)
  have h132 : (i.op == 132) = false := by
    rw [beq_eq_false_iff_ne]; intro e; rw [e] at h; exact absurd h (by decide)
  have B0 := hidIt (r5_alloc w (box5 i))
  have X0 : Hid ((w.alloc (box5 i)).heap[w.heap.size]? = some (box5 i)) := heap_alloc_new _ _
  have gS := fun W => hidIt (rsize hN i.op W)
  have gB := fun W => hidIt (rbranch i.op W)
  have hs : sz i.op = 1 := by unfold sz; rw [h]; rfl
  rw [hs] at gS
  rw [decide_eq_false (show ¬ kd i.op = 6 by omega)] at gB
  have HFI : Hid (fitsB i = decide (i.a = 0 ∧ i.b = 0)) := by show _ = _; unfold fitsB; rw [h]; rfl
  have HO : Hid (oneB i = [i.op]) := by show _ = _; unfold oneB; rw [h]; rfl
  clear hs hN
  unfold box5 at B0 X0
  generalize fitsB i = fi at *
  generalize oneB i = ob at *
  obtain ⟨pl, op, a, b⟩ := i
  simp only at *
  go_enter Try.func63, Try.ntmps63
  go_wp2_with fail
  refine (gS _).out.mono ?_
  rintro e w2 ⟨rfl, b2⟩
  have B2 := hidIt (B0.out.trans (b2.mono (by simp)))
  have X2 := hidIt ((b2.block _ (by simp)).trans X0.out)
  clear b2 B0 X0 gS
  have e0 := r5_cell X2.out 0 rfl
  have e1 := r5_cell X2.out 1 rfl
  have e2 := r5_cell X2.out 2 rfl
  have e3 := r5_cell X2.out 3 rfl
  go_wp2_with fail
  refine (gB _).out.mono ?_
  rintro e w' ⟨rfl, hww⟩; cases hww
  clear gB
  have Y2 := hidIt ((heap_alloc_old w2 (.cells #[.int .u8 op] 5) (Array.getElem?_eq_some_iff.1 X2.out).1).trans X2.out)
  have c2 := r5_cell Y2.out 2 rfl
  have c3 := r5_cell Y2.out 3 rfl
  have B3 : Hid (Below w.heap.size w (w2.alloc (.cells #[.int .u8 op] 5)).drew) := below_drewN (B2.out.trans ((r5_alloc w2 (.cells #[.int .u8 op] 5)).mono B2.out.size)) 1
  have O3 : Hid ((w2.alloc (.cells #[.int .u8 op] 5)).drew.ownsRow w.heap.size 5 1 (.slice (some ⟨w2.heap.size, 0, none⟩) 1 1) [op].length (bcells [op])) := by
    refine ⟨rfl, .inr ⟨w2.heap.size, 1, #[.int .u8 op], rfl, B2.out.size, heap_alloc_new w2 (.cells #[.int .u8 op] 5), Nat.le_refl _, by unfold maxLen; omega, rfl, rfl⟩⟩
  by_cases ha : a = 0
  · subst ha
    by_cases hb : b = 0
    · subst hb
      go_wp2_with fail
      go_region
      all_goals
        go_wp2
        go_ret2
        refine ⟨B3.out, _, _, _, ?_, fun _ => by rw [HO.out]; exact O3.out⟩
        rw [HFI.out]; rfl
    · have hb' : (b == 0) = false := by simpa using hb
      go_wp2_with fail
      go_region
      all_goals
        go_wp2
        go_ret2
        refine ⟨B3.out, _, _, _, ?_, fun _ => by rw [HO.out]; exact O3.out⟩
        rw [HFI.out, decide_eq_false (fun h => hb h.2)]; rfl
  · have ha' : (a == 0) = false := by simpa using ha
    go_wp2_with fail
    go_region
    all_goals
      go_wp2
      go_ret2
      refine ⟨B3.out, _, _, _, ?_, fun _ => by rw [HO.out]; exact O3.out⟩
      rw [HFI.out, decide_eq_false (fun h => ha h.1)]; rfl
set_option maxRecDepth 8000 in
set_option maxHeartbeats 4000000 in
theorem rone2 (hN : NameC) (i : IN) (h : kd i.op = 2) (w : World) : Calls Try.prog 63 #[.agg #[.int .i64 i.pl, .int .i64 i.op, .int .i64 i.a, .int .i64 i.b]] w fun e w' => Below w.heap.size w w' ∧ ∃ ao n c, e = .returned (.tuple #[.slice ao n c, .bool (fitsB i)]) ∧ (fitsB i = true → w'.ownsRow w.heap.size 5 1 (.slice ao n c) (oneB i).length (bcells (oneB i))) := by
  have hop := kd_byte (op := i.op) (by omega)
  have h132 : (i.op == 132) = false := by
    rw [beq_eq_false_iff_ne]; intro e; rw [e] at h; exact absurd h (by decide)
  have B0 := hidIt (r5_alloc w (box5 i))
  have X0 : Hid ((w.alloc (box5 i)).heap[w.heap.size]? = some (box5 i)) := heap_alloc_new _ _
  have gS := fun W => hidIt (rsize hN i.op W)
  have gB := fun W => hidIt (rbranch i.op W)
  have gG := fun W => hidIt (rsigned i.op W)
  have gI := fun W => hidIt (rin i.a (0) (255) W)
  have hs : sz i.op = 2 := by unfold sz; rw [h]; rfl
  have hg : sg5 i.op = false := by unfold sg5; rw [h]; rfl
  rw [hs] at gS
  rw [hg] at gG
  rw [decide_eq_false (show ¬ kd i.op = 6 by omega)] at gB
  have HFI : Hid (fitsB i = decide (i.b = 0 ∧ (0) ≤ i.a ∧ i.a ≤ (255))) := by show _ = _; unfold fitsB; rw [h]; rfl
  have HO : Hid (oneB i = [i.op, i.a % 256]) := by show _ = _; unfold oneB; rw [h]; rfl
  clear hs hN hg
  unfold box5 at B0 X0
  unfold in5 at gI
  generalize fitsB i = fi at *
  generalize oneB i = ob at *
  obtain ⟨pl, op, a, b⟩ := i
  simp only at *
  have HIN : Hid ((decide ((0) ≤ a) && decide (a ≤ (255))) = decide ((0) ≤ a ∧ a ≤ (255))) := by show _ = _; rw [Bool.decide_and]
  rw [HIN.out] at gI
  have hwr : IntKind.u8.wrap a = a % 256 := by simp [IntKind.wrap, IntKind.bits, IntKind.signed]
  have hwo : IntKind.u8.wrap op = op := by simp [IntKind.wrap, IntKind.bits, IntKind.signed]; omega
  generalize hq : decide ((0) ≤ a ∧ a ≤ (255)) = q at *
  have HQ := hidIt hq
  clear hq HIN
  go_enter Try.func63, Try.ntmps63
  go_wp2_with fail
  refine (gS _).out.mono ?_
  rintro e w2 ⟨rfl, b2⟩
  have B2 := hidIt (B0.out.trans (b2.mono (by simp)))
  have X2 := hidIt ((b2.block _ (by simp)).trans X0.out)
  clear b2 B0 X0 gS
  have e0 := r5_cell X2.out 0 rfl
  have e1 := r5_cell X2.out 1 rfl
  have e2 := r5_cell X2.out 2 rfl
  have e3 := r5_cell X2.out 3 rfl
  go_wp2_with fail
  refine (gB _).out.mono ?_
  rintro e w' ⟨rfl, hww⟩; cases hww
  clear gB
  go_wp2_with fail
  refine (gG _).out.mono ?_
  rintro e w' ⟨rfl, hww⟩; cases hww
  clear gG
  have Y2 := hidIt ((heap_alloc_old w2 (.cells #[.int .u8 op, .int .u8 (a % 256)] 5) (Array.getElem?_eq_some_iff.1 X2.out).1).trans X2.out)
  have c1 := r5_cell Y2.out 1 rfl
  have c3 := r5_cell Y2.out 3 rfl
  have B3 : Hid (Below w.heap.size w (w2.alloc (.cells #[.int .u8 op, .int .u8 (a % 256)] 5)).drew) := below_drewN (B2.out.trans ((r5_alloc w2 (.cells #[.int .u8 op, .int .u8 (a % 256)] 5)).mono B2.out.size)) 1
  have O3 : Hid ((w2.alloc (.cells #[.int .u8 op, .int .u8 (a % 256)] 5)).drew.ownsRow w.heap.size 5 1 (.slice (some ⟨w2.heap.size, 0, none⟩) 2 2) [op, a % 256].length (bcells [op, a % 256])) := by
    refine ⟨rfl, .inr ⟨w2.heap.size, 2, #[.int .u8 op, .int .u8 (a % 256)], rfl, B2.out.size, heap_alloc_new w2 (.cells #[.int .u8 op, .int .u8 (a % 256)] 5), Nat.le_refl _, by unfold maxLen; omega, rfl, rfl⟩⟩
  by_cases hb : b = 0
  · subst hb
    go_wp2_with fail
    go_region_held3 (fun W => W.cell? ⟨w.heap.size, 1, none⟩ = some (.int .i64 op) ∧ W.cell? ⟨w.heap.size, 3, none⟩ = some (.int .i64 0)) (first | exact ⟨e1, e3⟩ | exact ⟨c1, c3⟩)
      (first
        | (go_at_call 71; refine (gI _).out.mono ?_; rintro e w' ⟨rfl, hww⟩; cases hww))
    all_goals
      go_wp2
      go_ret2
      refine ⟨B3.out, _, _, _, ?_, fun _ => by rw [HO.out]; exact O3.out⟩
      rw [HFI.out, ← HQ.out]; simp
  · have hb' : (b == 0) = false := by simpa using hb
    go_wp2_with fail
    go_region
    all_goals
      go_wp2
      go_ret2
      refine ⟨B3.out, _, _, _, ?_, fun _ => by rw [HO.out]; exact O3.out⟩
      rw [HFI.out, decide_eq_false (fun h => hb h.1)]; rfl
set_option maxRecDepth 8000 in
set_option maxHeartbeats 4000000 in
theorem rone3 (hN : NameC) (i : IN) (h : kd i.op = 3) (w : World) : Calls Try.prog 63 #[.agg #[.int .i64 i.pl, .int .i64 i.op, .int .i64 i.a, .int .i64 i.b]] w fun e w' => Below w.heap.size w w' ∧ ∃ ao n c, e = .returned (.tuple #[.slice ao n c, .bool (fitsB i)]) ∧ (fitsB i = true → w'.ownsRow w.heap.size 5 1 (.slice ao n c) (oneB i).length (bcells (oneB i))) := by
  have hop := kd_byte (op := i.op) (by omega)
  have h132 : (i.op == 132) = false := by
    rw [beq_eq_false_iff_ne]; intro e; rw [e] at h; exact absurd h (by decide)
  have B0 := hidIt (r5_alloc w (box5 i))
  have X0 : Hid ((w.alloc (box5 i)).heap[w.heap.size]? = some (box5 i)) := heap_alloc_new _ _
  have gS := fun W => hidIt (rsize hN i.op W)
  have gB := fun W => hidIt (rbranch i.op W)
  have gG := fun W => hidIt (rsigned i.op W)
  have gI := fun W => hidIt (rin i.a (-128) (127) W)
  have hs : sz i.op = 2 := by unfold sz; rw [h]; rfl
  have hg : sg5 i.op = true := by unfold sg5; rw [h]; rfl
  rw [hs] at gS
  rw [hg] at gG
  rw [decide_eq_false (show ¬ kd i.op = 6 by omega)] at gB
  have HFI : Hid (fitsB i = decide (i.b = 0 ∧ (-128) ≤ i.a ∧ i.a ≤ (127))) := by show _ = _; unfold fitsB; rw [h]; rfl
  have HO : Hid (oneB i = [i.op, i.a % 256]) := by show _ = _; unfold oneB; rw [h]; rfl
  clear hs hN hg
  unfold box5 at B0 X0
  unfold in5 at gI
  generalize fitsB i = fi at *
  generalize oneB i = ob at *
  obtain ⟨pl, op, a, b⟩ := i
  simp only at *
  have HIN : Hid ((decide ((-128) ≤ a) && decide (a ≤ (127))) = decide ((-128) ≤ a ∧ a ≤ (127))) := by show _ = _; rw [Bool.decide_and]
  rw [HIN.out] at gI
  have hwr : IntKind.u8.wrap a = a % 256 := by simp [IntKind.wrap, IntKind.bits, IntKind.signed]
  have hwo : IntKind.u8.wrap op = op := by simp [IntKind.wrap, IntKind.bits, IntKind.signed]; omega
  generalize hq : decide ((-128) ≤ a ∧ a ≤ (127)) = q at *
  have HQ := hidIt hq
  clear hq HIN
  go_enter Try.func63, Try.ntmps63
  go_wp2_with fail
  refine (gS _).out.mono ?_
  rintro e w2 ⟨rfl, b2⟩
  have B2 := hidIt (B0.out.trans (b2.mono (by simp)))
  have X2 := hidIt ((b2.block _ (by simp)).trans X0.out)
  clear b2 B0 X0 gS
  have e0 := r5_cell X2.out 0 rfl
  have e1 := r5_cell X2.out 1 rfl
  have e2 := r5_cell X2.out 2 rfl
  have e3 := r5_cell X2.out 3 rfl
  go_wp2_with fail
  refine (gB _).out.mono ?_
  rintro e w' ⟨rfl, hww⟩; cases hww
  clear gB
  go_wp2_with fail
  refine (gG _).out.mono ?_
  rintro e w' ⟨rfl, hww⟩; cases hww
  clear gG
  have Y2 := hidIt ((heap_alloc_old w2 (.cells #[.int .u8 op, .int .u8 (a % 256)] 5) (Array.getElem?_eq_some_iff.1 X2.out).1).trans X2.out)
  have c1 := r5_cell Y2.out 1 rfl
  have c3 := r5_cell Y2.out 3 rfl
  have B3 : Hid (Below w.heap.size w (w2.alloc (.cells #[.int .u8 op, .int .u8 (a % 256)] 5)).drew) := below_drewN (B2.out.trans ((r5_alloc w2 (.cells #[.int .u8 op, .int .u8 (a % 256)] 5)).mono B2.out.size)) 1
  have O3 : Hid ((w2.alloc (.cells #[.int .u8 op, .int .u8 (a % 256)] 5)).drew.ownsRow w.heap.size 5 1 (.slice (some ⟨w2.heap.size, 0, none⟩) 2 2) [op, a % 256].length (bcells [op, a % 256])) := by
    refine ⟨rfl, .inr ⟨w2.heap.size, 2, #[.int .u8 op, .int .u8 (a % 256)], rfl, B2.out.size, heap_alloc_new w2 (.cells #[.int .u8 op, .int .u8 (a % 256)] 5), Nat.le_refl _, by unfold maxLen; omega, rfl, rfl⟩⟩
  by_cases hb : b = 0
  · subst hb
    go_wp2_with fail
    go_region_held3 (fun W => W.cell? ⟨w.heap.size, 1, none⟩ = some (.int .i64 op) ∧ W.cell? ⟨w.heap.size, 3, none⟩ = some (.int .i64 0)) (first | exact ⟨e1, e3⟩ | exact ⟨c1, c3⟩)
      (first
        | (go_at_call 71; refine (gI _).out.mono ?_; rintro e w' ⟨rfl, hww⟩; cases hww))
    all_goals
      go_wp2
      go_ret2
      refine ⟨B3.out, _, _, _, ?_, fun _ => by rw [HO.out]; exact O3.out⟩
      rw [HFI.out, ← HQ.out]; simp
  · have hb' : (b == 0) = false := by simpa using hb
    go_wp2_with fail
    go_region
    all_goals
      go_wp2
      go_ret2
      refine ⟨B3.out, _, _, _, ?_, fun _ => by rw [HO.out]; exact O3.out⟩
      rw [HFI.out, decide_eq_false (fun h => hb h.1)]; rfl
set_option maxRecDepth 8000 in
set_option maxHeartbeats 4000000 in
theorem rone4 (hN : NameC) (i : IN) (h : kd i.op = 4) (w : World) : Calls Try.prog 63 #[.agg #[.int .i64 i.pl, .int .i64 i.op, .int .i64 i.a, .int .i64 i.b]] w fun e w' => Below w.heap.size w w' ∧ ∃ ao n c, e = .returned (.tuple #[.slice ao n c, .bool (fitsB i)]) ∧ (fitsB i = true → w'.ownsRow w.heap.size 5 1 (.slice ao n c) (oneB i).length (bcells (oneB i))) := by
  have hop := kd_byte (op := i.op) (by omega)
  have h132 : (i.op == 132) = false := by
    rw [beq_eq_false_iff_ne]; intro e; rw [e] at h; exact absurd h (by decide)
  have B0 := hidIt (r5_alloc w (box5 i))
  have X0 : Hid ((w.alloc (box5 i)).heap[w.heap.size]? = some (box5 i)) := heap_alloc_new _ _
  have gS := fun W => hidIt (rsize hN i.op W)
  have gB := fun W => hidIt (rbranch i.op W)
  have gG := fun W => hidIt (rsigned i.op W)
  have gI := fun W => hidIt (rin i.a (0) (65535) W)
  have hs : sz i.op = 3 := by unfold sz; rw [h]; rfl
  have hg : sg5 i.op = false := by unfold sg5; rw [h]; rfl
  rw [hs] at gS
  rw [hg] at gG
  rw [decide_eq_false (show ¬ kd i.op = 6 by omega)] at gB
  have HFI : Hid (fitsB i = decide (i.b = 0 ∧ (0) ≤ i.a ∧ i.a ≤ (65535))) := by show _ = _; unfold fitsB; rw [h]; rfl
  have HO : Hid (oneB i = [i.op, i.a / 256 % 256, i.a % 256]) := by show _ = _; unfold oneB; rw [h]; rfl
  clear hs hN hg
  unfold box5 at B0 X0
  unfold in5 at gI
  generalize fitsB i = fi at *
  generalize oneB i = ob at *
  obtain ⟨pl, op, a, b⟩ := i
  simp only at *
  have HIN : Hid ((decide ((0) ≤ a) && decide (a ≤ (65535))) = decide ((0) ≤ a ∧ a ≤ (65535))) := by show _ = _; rw [Bool.decide_and]
  rw [HIN.out] at gI
  have hwr : IntKind.u8.wrap a = a % 256 := by simp [IntKind.wrap, IntKind.bits, IntKind.signed]
  have hw8 : IntKind.u8.wrap (a / 256) = a / 256 % 256 := by simp [IntKind.wrap, IntKind.bits, IntKind.signed]
  have hsh : ∀ W : World, (Op.shift .shr .i64 a .u64 8).run Try.prog W = .ok (.int .i64 (a / 256)) W := fun W => shr8 a W
  have hwo : IntKind.u8.wrap op = op := by simp [IntKind.wrap, IntKind.bits, IntKind.signed]; omega
  generalize hq : decide ((0) ≤ a ∧ a ≤ (65535)) = q at *
  have HQ := hidIt hq
  clear hq HIN
  go_enter Try.func63, Try.ntmps63
  go_wp2_with fail
  refine (gS _).out.mono ?_
  rintro e w2 ⟨rfl, b2⟩
  have B2 := hidIt (B0.out.trans (b2.mono (by simp)))
  have X2 := hidIt ((b2.block _ (by simp)).trans X0.out)
  clear b2 B0 X0 gS
  have e0 := r5_cell X2.out 0 rfl
  have e1 := r5_cell X2.out 1 rfl
  have e2 := r5_cell X2.out 2 rfl
  have e3 := r5_cell X2.out 3 rfl
  go_wp2_with fail
  refine (gB _).out.mono ?_
  rintro e w' ⟨rfl, hww⟩; cases hww
  clear gB
  go_wp2_with fail
  refine (gG _).out.mono ?_
  rintro e w' ⟨rfl, hww⟩; cases hww
  clear gG
  have Y2 := hidIt ((heap_alloc_old w2 (.cells #[.int .u8 op, .int .u8 (a / 256 % 256), .int .u8 (a % 256)] 5) (Array.getElem?_eq_some_iff.1 X2.out).1).trans X2.out)
  have c1 := r5_cell Y2.out 1 rfl
  have c3 := r5_cell Y2.out 3 rfl
  have B3 : Hid (Below w.heap.size w (w2.alloc (.cells #[.int .u8 op, .int .u8 (a / 256 % 256), .int .u8 (a % 256)] 5)).drew) := below_drewN (B2.out.trans ((r5_alloc w2 (.cells #[.int .u8 op, .int .u8 (a / 256 % 256), .int .u8 (a % 256)] 5)).mono B2.out.size)) 1
  have O3 : Hid ((w2.alloc (.cells #[.int .u8 op, .int .u8 (a / 256 % 256), .int .u8 (a % 256)] 5)).drew.ownsRow w.heap.size 5 1 (.slice (some ⟨w2.heap.size, 0, none⟩) 3 3) [op, a / 256 % 256, a % 256].length (bcells [op, a / 256 % 256, a % 256])) := by
    refine ⟨rfl, .inr ⟨w2.heap.size, 3, #[.int .u8 op, .int .u8 (a / 256 % 256), .int .u8 (a % 256)], rfl, B2.out.size, heap_alloc_new w2 (.cells #[.int .u8 op, .int .u8 (a / 256 % 256), .int .u8 (a % 256)] 5), Nat.le_refl _, by unfold maxLen; omega, rfl, rfl⟩⟩
  by_cases hb : b = 0
  · subst hb
    go_wp2_with fail
    go_region_held3 (fun W => W.cell? ⟨w.heap.size, 1, none⟩ = some (.int .i64 op) ∧ W.cell? ⟨w.heap.size, 3, none⟩ = some (.int .i64 0)) (first | exact ⟨e1, e3⟩ | exact ⟨c1, c3⟩)
      (first
        | (go_at_call 71; refine (gI _).out.mono ?_; rintro e w' ⟨rfl, hww⟩; cases hww))
    all_goals
      go_wp2
      go_ret2
      refine ⟨B3.out, _, _, _, ?_, fun _ => by rw [HO.out]; exact O3.out⟩
      rw [HFI.out, ← HQ.out]; simp
  · have hb' : (b == 0) = false := by simpa using hb
    go_wp2_with fail
    go_region
    all_goals
      go_wp2
      go_ret2
      refine ⟨B3.out, _, _, _, ?_, fun _ => by rw [HO.out]; exact O3.out⟩
      rw [HFI.out, decide_eq_false (fun h => hb h.1)]; rfl
set_option maxRecDepth 8000 in
set_option maxHeartbeats 4000000 in
theorem rone5 (hN : NameC) (i : IN) (h : kd i.op = 5) (w : World) : Calls Try.prog 63 #[.agg #[.int .i64 i.pl, .int .i64 i.op, .int .i64 i.a, .int .i64 i.b]] w fun e w' => Below w.heap.size w w' ∧ ∃ ao n c, e = .returned (.tuple #[.slice ao n c, .bool (fitsB i)]) ∧ (fitsB i = true → w'.ownsRow w.heap.size 5 1 (.slice ao n c) (oneB i).length (bcells (oneB i))) := by
  have hop := kd_byte (op := i.op) (by omega)
  have h132 : (i.op == 132) = false := by
    rw [beq_eq_false_iff_ne]; intro e; rw [e] at h; exact absurd h (by decide)
  have B0 := hidIt (r5_alloc w (box5 i))
  have X0 : Hid ((w.alloc (box5 i)).heap[w.heap.size]? = some (box5 i)) := heap_alloc_new _ _
  have gS := fun W => hidIt (rsize hN i.op W)
  have gB := fun W => hidIt (rbranch i.op W)
  have gG := fun W => hidIt (rsigned i.op W)
  have gI := fun W => hidIt (rin i.a (-32768) (32767) W)
  have hs : sz i.op = 3 := by unfold sz; rw [h]; rfl
  have hg : sg5 i.op = true := by unfold sg5; rw [h]; rfl
  rw [hs] at gS
  rw [hg] at gG
  rw [decide_eq_false (show ¬ kd i.op = 6 by omega)] at gB
  have HFI : Hid (fitsB i = decide (i.b = 0 ∧ (-32768) ≤ i.a ∧ i.a ≤ (32767))) := by show _ = _; unfold fitsB; rw [h]; rfl
  have HO : Hid (oneB i = [i.op, i.a / 256 % 256, i.a % 256]) := by show _ = _; unfold oneB; rw [h]; rfl
  clear hs hN hg
  unfold box5 at B0 X0
  unfold in5 at gI
  generalize fitsB i = fi at *
  generalize oneB i = ob at *
  obtain ⟨pl, op, a, b⟩ := i
  simp only at *
  have HIN : Hid ((decide ((-32768) ≤ a) && decide (a ≤ (32767))) = decide ((-32768) ≤ a ∧ a ≤ (32767))) := by show _ = _; rw [Bool.decide_and]
  rw [HIN.out] at gI
  have hwr : IntKind.u8.wrap a = a % 256 := by simp [IntKind.wrap, IntKind.bits, IntKind.signed]
  have hw8 : IntKind.u8.wrap (a / 256) = a / 256 % 256 := by simp [IntKind.wrap, IntKind.bits, IntKind.signed]
  have hsh : ∀ W : World, (Op.shift .shr .i64 a .u64 8).run Try.prog W = .ok (.int .i64 (a / 256)) W := fun W => shr8 a W
  have hwo : IntKind.u8.wrap op = op := by simp [IntKind.wrap, IntKind.bits, IntKind.signed]; omega
  generalize hq : decide ((-32768) ≤ a ∧ a ≤ (32767)) = q at *
  have HQ := hidIt hq
  clear hq HIN
  go_enter Try.func63, Try.ntmps63
  go_wp2_with fail
  refine (gS _).out.mono ?_
  rintro e w2 ⟨rfl, b2⟩
  have B2 := hidIt (B0.out.trans (b2.mono (by simp)))
  have X2 := hidIt ((b2.block _ (by simp)).trans X0.out)
  clear b2 B0 X0 gS
  have e0 := r5_cell X2.out 0 rfl
  have e1 := r5_cell X2.out 1 rfl
  have e2 := r5_cell X2.out 2 rfl
  have e3 := r5_cell X2.out 3 rfl
  go_wp2_with fail
  refine (gB _).out.mono ?_
  rintro e w' ⟨rfl, hww⟩; cases hww
  clear gB
  go_wp2_with fail
  refine (gG _).out.mono ?_
  rintro e w' ⟨rfl, hww⟩; cases hww
  clear gG
  have Y2 := hidIt ((heap_alloc_old w2 (.cells #[.int .u8 op, .int .u8 (a / 256 % 256), .int .u8 (a % 256)] 5) (Array.getElem?_eq_some_iff.1 X2.out).1).trans X2.out)
  have c1 := r5_cell Y2.out 1 rfl
  have c3 := r5_cell Y2.out 3 rfl
  have B3 : Hid (Below w.heap.size w (w2.alloc (.cells #[.int .u8 op, .int .u8 (a / 256 % 256), .int .u8 (a % 256)] 5)).drew) := below_drewN (B2.out.trans ((r5_alloc w2 (.cells #[.int .u8 op, .int .u8 (a / 256 % 256), .int .u8 (a % 256)] 5)).mono B2.out.size)) 1
  have O3 : Hid ((w2.alloc (.cells #[.int .u8 op, .int .u8 (a / 256 % 256), .int .u8 (a % 256)] 5)).drew.ownsRow w.heap.size 5 1 (.slice (some ⟨w2.heap.size, 0, none⟩) 3 3) [op, a / 256 % 256, a % 256].length (bcells [op, a / 256 % 256, a % 256])) := by
    refine ⟨rfl, .inr ⟨w2.heap.size, 3, #[.int .u8 op, .int .u8 (a / 256 % 256), .int .u8 (a % 256)], rfl, B2.out.size, heap_alloc_new w2 (.cells #[.int .u8 op, .int .u8 (a / 256 % 256), .int .u8 (a % 256)] 5), Nat.le_refl _, by unfold maxLen; omega, rfl, rfl⟩⟩
  by_cases hb : b = 0
  · subst hb
    go_wp2_with fail
    go_region_held3 (fun W => W.cell? ⟨w.heap.size, 1, none⟩ = some (.int .i64 op) ∧ W.cell? ⟨w.heap.size, 3, none⟩ = some (.int .i64 0)) (first | exact ⟨e1, e3⟩ | exact ⟨c1, c3⟩)
      (first
        | (go_at_call 71; refine (gI _).out.mono ?_; rintro e w' ⟨rfl, hww⟩; cases hww))
    all_goals
      go_wp2
      go_ret2
      refine ⟨B3.out, _, _, _, ?_, fun _ => by rw [HO.out]; exact O3.out⟩
      rw [HFI.out, ← HQ.out]; simp
  · have hb' : (b == 0) = false := by simpa using hb
    go_wp2_with fail
    go_region
    all_goals
      go_wp2
      go_ret2
      refine ⟨B3.out, _, _, _, ?_, fun _ => by rw [HO.out]; exact O3.out⟩
      rw [HFI.out, decide_eq_false (fun h => hb h.1)]; rfl
end Go.Proofs.Ytlnapfeglbdecaa
namespace Go.Proofs.Ytlnapfeglbdecaa
open Go.RowKit
set_option maxRecDepth 8000 in
set_option maxHeartbeats 4000000 in
theorem rone6 (hN : NameC) (i : IN) (h : kd i.op = 6) (hp0 : 0 ≤ i.pl) (hp1 : i.pl ≤ 500000) (w : World) : Calls Try.prog 63 #[.agg #[.int .i64 i.pl, .int .i64 i.op, .int .i64 i.a, .int .i64 i.b]] w fun e w' => Below w.heap.size w w' ∧ ∃ ao n c, e = .returned (.tuple #[.slice ao n c, .bool (fitsB i)]) ∧ (fitsB i = true → w'.ownsRow w.heap.size 5 1 (.slice ao n c) (oneB i).length (bcells (oneB i))) := by
  have hop := kd_byte (op := i.op) (by omega)
  have h132 : (i.op == 132) = false := by
    rw [beq_eq_false_iff_ne]; intro e; rw [e] at h; exact absurd h (by decide)
  have B0 := hidIt (r5_alloc w (box5 i))
  have X0 : Hid ((w.alloc (box5 i)).heap[w.heap.size]? = some (box5 i)) := heap_alloc_new _ _
  have gS := fun W => hidIt (rsize hN i.op W)
  have gB := fun W => hidIt (rbranch i.op W)
  have gG := fun W => hidIt (rsigned i.op W)
  have gA := fun W => hidIt (rin i.a (-1048576) 1048576 W)
  have gI := fun W => hidIt (rin (i.a - i.pl) (-32768) (32767) W)
  have hs : sz i.op = 3 := by unfold sz; rw [h]; rfl
  have hg : sg5 i.op = true := by unfold sg5; rw [h]; rfl
  rw [hs] at gS
  rw [hg] at gG
  rw [decide_eq_true h] at gB
  have HFI : Hid (fitsB i = decide (i.b = 0 ∧ (-32768) ≤ i.a - i.pl ∧ i.a - i.pl ≤ (32767))) := by show _ = _; unfold fitsB; rw [h]; rfl
  have HO : Hid (oneB i = [i.op, (i.a - i.pl) / 256 % 256, (i.a - i.pl) % 256]) := by show _ = _; unfold oneB; rw [h]; rfl
  clear hs hN hg
  unfold box5 at B0 X0
  unfold in5 at gI gA
  generalize fitsB i = fi at *
  generalize oneB i = ob at *
  obtain ⟨pl, op, a, b⟩ := i
  simp only at *
  by_cases hA : -1048576 ≤ a ∧ a ≤ 1048576
  · rw [decide_eq_true hA.1, decide_eq_true hA.2] at gA
    obtain ⟨hA0, hA1⟩ := hA
    generalize hd : a - pl = d at *
    have hd0 : -2000000 ≤ d := by omega
    have hd1 : d ≤ 2000000 := by omega
    have HIN : Hid ((decide ((-32768) ≤ d) && decide (d ≤ (32767))) = decide ((-32768) ≤ d ∧ d ≤ (32767))) := by show _ = _; rw [Bool.decide_and]
    rw [HIN.out] at gI
    have hwr : IntKind.u8.wrap d = d % 256 := by simp [IntKind.wrap, IntKind.bits, IntKind.signed]
    have hw8 : IntKind.u8.wrap (d / 256) = d / 256 % 256 := by simp [IntKind.wrap, IntKind.bits, IntKind.signed]
    have hsh : ∀ W : World, (Op.shift .shr .i64 d .u64 8).run Try.prog W = .ok (.int .i64 (d / 256)) W := fun W => shr8 d W
    have hwo : IntKind.u8.wrap op = op := by simp [IntKind.wrap, IntKind.bits, IntKind.signed]; omega
    generalize hq : decide ((-32768) ≤ d ∧ d ≤ (32767)) = q at *
    have HQ := hidIt hq
    clear hq HIN
    go_enter Try.func63, Try.ntmps63
    go_wp2_with fail
    refine (gS _).out.mono ?_
    rintro e w2 ⟨rfl, b2⟩
    have B2 := hidIt (B0.out.trans (b2.mono (by simp)))
    have X2 := hidIt ((b2.block _ (by simp)).trans X0.out)
    clear b2 B0 X0 gS
    have e0 := r5_cell X2.out 0 rfl
    have e1 := r5_cell X2.out 1 rfl
    have e2 := r5_cell X2.out 2 rfl
    have e3 := r5_cell X2.out 3 rfl
    go_wp2_with fail
    refine (gB _).out.mono ?_
    rintro e w' ⟨rfl, hww⟩; cases hww
    clear gB
    go_wp2_with fail
    refine (gA _).out.mono ?_
    rintro e w' ⟨rfl, hww⟩; cases hww
    clear gA
    go_wp2_with fail
    refine (gG _).out.mono ?_
    rintro e w' ⟨rfl, hww⟩; cases hww
    clear gG
    have Y2 := hidIt ((heap_alloc_old w2 (.cells #[.int .u8 op, .int .u8 (d / 256 % 256), .int .u8 (d % 256)] 5) (Array.getElem?_eq_some_iff.1 X2.out).1).trans X2.out)
    have c1 := r5_cell Y2.out 1 rfl
    have c3 := r5_cell Y2.out 3 rfl
    have B3 : Hid (Below w.heap.size w (w2.alloc (.cells #[.int .u8 op, .int .u8 (d / 256 % 256), .int .u8 (d % 256)] 5)).drew) := below_drewN (B2.out.trans ((r5_alloc w2 (.cells #[.int .u8 op, .int .u8 (d / 256 % 256), .int .u8 (d % 256)] 5)).mono B2.out.size)) 1
    have O3 : Hid ((w2.alloc (.cells #[.int .u8 op, .int .u8 (d / 256 % 256), .int .u8 (d % 256)] 5)).drew.ownsRow w.heap.size 5 1 (.slice (some ⟨w2.heap.size, 0, none⟩) 3 3) [op, d / 256 % 256, d % 256].length (bcells [op, d / 256 % 256, d % 256])) := by
      refine ⟨rfl, .inr ⟨w2.heap.size, 3, #[.int .u8 op, .int .u8 (d / 256 % 256), .int .u8 (d % 256)], rfl, B2.out.size, heap_alloc_new w2 (.cells #[.int .u8 op, .int .u8 (d / 256 % 256), .int .u8 (d % 256)] 5), Nat.le_refl _, by unfold maxLen; omega, rfl, rfl⟩⟩
    by_cases hb : b = 0
    · subst hb
      go_wp2_with fail
      go_region_held3 (fun W => W.cell? ⟨w.heap.size, 1, none⟩ = some (.int .i64 op) ∧ W.cell? ⟨w.heap.size, 3, none⟩ = some (.int .i64 0)) (first | exact ⟨e1, e3⟩ | exact ⟨c1, c3⟩)
        (first
          | (go_at_call 71; refine (gI _).out.mono ?_; rintro e w' ⟨rfl, hww⟩; cases hww))
      all_goals
        go_wp2
        go_ret2
        refine ⟨B3.out, _, _, _, ?_, fun _ => by rw [HO.out]; exact O3.out⟩
        rw [HFI.out, ← HQ.out]; simp
    · have hb' : (b == 0) = false := by simpa using hb
      go_wp2_with fail
      go_region
      all_goals
        go_wp2
        go_ret2
        refine ⟨B3.out, _, _, _, ?_, fun _ => by rw [HO.out]; exact O3.out⟩
        rw [HFI.out, decide_eq_false (fun h => hb h.1)]; rfl
  · have hAf : (decide ((-1048576 : Int) ≤ a) && decide (a ≤ 1048576)) = false := by rw [← Bool.decide_and]; exact decide_eq_false hA
    rw [hAf] at gA
    have HF2 : Hid (fi = false) := by
      show _ = _
      rw [HFI.out]; exact decide_eq_false (fun h => by omega)
    clear gI gG HFI HO hA hAf
    go_enter Try.func63, Try.ntmps63
    go_wp2_with fail
    refine (gS _).out.mono ?_
    rintro e w2 ⟨rfl, b2⟩
    have B2 := hidIt (B0.out.trans (b2.mono (by simp)))
    have X2 := hidIt ((b2.block _ (by simp)).trans X0.out)
    clear b2 B0 X0 gS
    have e1 := r5_cell X2.out 1 rfl
    have e2 := r5_cell X2.out 2 rfl
    go_wp2_with fail
    refine (gB _).out.mono ?_
    rintro e w' ⟨rfl, hww⟩; cases hww
    clear gB
    go_wp2_with fail
    refine (gA _).out.mono ?_
    rintro e w' ⟨rfl, hww⟩; cases hww
    go_wp2
    go_ret2
    refine ⟨B2.out, none, 0, 0, ?_, fun h => absurd h (by rw [HF2.out]; decide)⟩
    rw [HF2.out]; rfl
end Go.Proofs.Ytlnapfeglbdecaa
