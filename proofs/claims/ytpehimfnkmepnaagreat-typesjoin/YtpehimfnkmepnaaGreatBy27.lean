import Derived.Test.YtpehimfnkmepnaaGreatBy26
import Derived.Deep.RegionWith
set_option maxRecDepth 8000
set_option maxHeartbeats 40000000
namespace Go.Proofs.YtpehimfnkmepnaaGreat
open Go.RowKit
theorem zW4 : (List.range 256).all (fun n => (kd (n : Int) == 0) == ((zI0 (n : Int)).size == 0)) = true := by first | decide +kernel | kernel_rfl
theorem zTn : zD2.all (fun p => kd p.1 != 0) = true := by first | decide +kernel | kernel_rfl
theorem zVm {op : Int} (h : kd op = 0) : zI0 op = ⟨#[]⟩ := zSs fun q hq e => by
 have := List.all_eq_true.1 zTn q hq
 rw [e, h] at this
 exact absurd this (by decide)
theorem zTi {op : Int} (h : kd op ≠ 0) : ((zI0 op).toList == []) = false := by
 obtain ⟨h0, h1⟩ := zFj h
 have := List.all_eq_true.1 zW4 op.toNat (List.mem_range.2 (by omega))
 rw [Int.toNat_of_nonneg h0] at this
 have hk : (kd op == 0) = false := by simpa using h
 rw [hk] at this
 have hs : (zI0 op).size ≠ 0 := by simpa using this
 rw [Lib.toList_data]
 cases hd : (zI0 op).data.toList with
 | nil => exact absurd (by rw [Lib.size_eq, hd]; rfl) hs
 | cons a l => rfl
def zK1 : Prop := ∀ (op : Int) (W : World), Calls Tryz.prog 167 #[.int .i64 op] W fun e w' => e = .returned (.string (zI0 op)) ∧ Below W.heap.size W w'
theorem sz_two {op : Int} (h : op = 16 ∨ op = 18 ∨ op = 21 ∨ op = 25 ∨ op = 54 ∨ op = 58 ∨ op = 188) : sz op = 2 := by
 rcases h with rfl | rfl | rfl | rfl | rfl | rfl | rfl <;> decide
theorem sz_thr {op : Int} (h : op = 17 ∨ op = 132 ∨ op = 178 ∨ op = 179 ∨ op = 180 ∨ op = 181 ∨ op = 182 ∨ op = 184 ∨ op = 187 ∨ op = 189 ∨ op = 192 ∨ op = 193) : sz op = 3 := by
 rcases h with rfl | rfl | rfl | rfl | rfl | rfl | rfl | rfl | rfl | rfl | rfl | rfl <;> decide
theorem sz_six {op : Int} (h : kd op = 6) : sz op = 3 := by unfold sz; rw [h]; rfl
theorem zW7 {op : Int} (h1 : ¬ (op = 16 ∨ op = 18 ∨ op = 21 ∨ op = 25 ∨ op = 54 ∨ op = 58 ∨ op = 188)) (h2 : ¬ (op = 17 ∨ op = 132 ∨ op = 178 ∨ op = 179 ∨ op = 180 ∨ op = 181 ∨ op = 182 ∨ op = 184 ∨ op = 187 ∨ op = 189 ∨ op = 192 ∨ op = 193)) (h3 : kd op ≠ 6) : kd op = 0 ∨ kd op = 1 := by
 unfold kd at h3 ⊢
 repeat' split
 all_goals first | omega | (simp_all; omega) | simp_all
theorem zKw (hN : zK1) (op : Int) (w : World) : Calls Tryz.prog 143 #[.int .i64 op] w fun e w' => e = .returned (.int .i64 (sz op : Nat)) ∧ Below w.heap.size w w' := by
 have gN := zA0 (hN op w)
 have gB := zA0 (zFr op w)
 have B0 := zA0 (Below.refl w.heap.size w)
 by_cases h1 : op = 16 ∨ op = 18 ∨ op = 21 ∨ op = 25 ∨ op = 54 ∨ op = 58 ∨ op = 188
 · rw [sz_two h1]
   clear gN gB hN
   rcases h1 with rfl | rfl | rfl | rfl | rfl | rfl | rfl
   all_goals
    go_enter Tryz.func143, Tryz.ntmps143
    go_wp2
    go_ret
    exact ⟨rfl, B0.out⟩
 · by_cases h2 : op = 17 ∨ op = 132 ∨ op = 178 ∨ op = 179 ∨ op = 180 ∨ op = 181 ∨ op = 182 ∨ op = 184 ∨ op = 187 ∨ op = 189 ∨ op = 192 ∨ op = 193
   · rw [sz_thr h2]
     clear gN gB hN h1
     rcases h2 with rfl | rfl | rfl | rfl | rfl | rfl | rfl | rfl | rfl | rfl | rfl | rfl
     all_goals
      go_enter Tryz.func143, Tryz.ntmps143
      go_wp2
      go_ret
      exact ⟨rfl, B0.out⟩
   · have n16 : (op == 16) = false := by simp; omega
     have n18 : (op == 18) = false := by simp; omega
     have n21 : (op == 21) = false := by simp; omega
     have n25 : (op == 25) = false := by simp; omega
     have n54 : (op == 54) = false := by simp; omega
     have n58 : (op == 58) = false := by simp; omega
     have n188 : (op == 188) = false := by simp; omega
     have n17 : (op == 17) = false := by simp; omega
     have n132 : (op == 132) = false := by simp; omega
     have n178 : (op == 178) = false := by simp; omega
     have n179 : (op == 179) = false := by simp; omega
     have n180 : (op == 180) = false := by simp; omega
     have n181 : (op == 181) = false := by simp; omega
     have n182 : (op == 182) = false := by simp; omega
     have n184 : (op == 184) = false := by simp; omega
     have n187 : (op == 187) = false := by simp; omega
     have n189 : (op == 189) = false := by simp; omega
     have n192 : (op == 192) = false := by simp; omega
     have n193 : (op == 193) = false := by simp; omega
     by_cases h3 : kd op = 6
     · rw [sz_six h3]
       rw [decide_eq_true h3] at gB
       clear gN hN h1 h2 h3
       go_enter Tryz.func143, Tryz.ntmps143
       go_wp2_with fail
       refine gB.out.mono ?_
       rintro e w' ⟨rfl, hww⟩; cases hww
       go_wp2
       go_ret
       exact ⟨rfl, B0.out⟩
     · rw [decide_eq_false h3] at gB
       rcases zW7 h1 h2 h3 with h4 | h4
       · rw [show sz op = 0 from (zSb op).2 h4]
         rw [zVm h4] at gN
         clear hN h1 h2 h3 h4
         go_enter Tryz.func143, Tryz.ntmps143
         go_wp2_with fail
         refine gB.out.mono ?_
         rintro e w' ⟨rfl, hww⟩; cases hww
         go_wp2_with fail
         refine gN.out.mono ?_
         rintro e w2 ⟨rfl, b2⟩
         have B2 := zA0 b2
         clear b2
         go_wp2
         go_ret
         exact ⟨rfl, B2.out⟩
       · rw [show sz op = 1 by unfold sz; rw [h4]; rfl]
         have hy := zTi (op := op) (by omega)
         generalize zI0 op = s at *
         clear hN h1 h2 h3 h4
         go_enter Tryz.func143, Tryz.ntmps143
         go_wp2_with fail
         refine gB.out.mono ?_
         rintro e w' ⟨rfl, hww⟩; cases hww
         go_wp2_with fail
         refine gN.out.mono ?_
         rintro e w2 ⟨rfl, b2⟩
         have B2 := zA0 b2
         clear b2
         go_wp2
         go_ret
         exact ⟨rfl, B2.out⟩
theorem shr8 (a : Int) (W : World) : (Op.shift .shr .i64 a .u64 8).run Tryz.prog W = .ok (.int .i64 (a / 256)) W := by
 have h2 : min (8 : Int).toNat IntKind.i64.bits = 8 := by decide
 have h3 : (0 : Int) ≤ 2 ^ 8 := by decide
 simp only [Op.shift, if_neg (show ¬ (8 : Int) < 0 by decide), h2, Sem.run_pure, Int.fdiv_eq_ediv_of_nonneg _ h3]
 rfl
theorem zOc {v v' : Value} {w w' : World} {o : Obj} (h : Step v (w.alloc o) v' w') : Step v w v' w' := (Step.of_below (zA2 w o)).trans h
theorem zEt {w : World} {B e s n : Nat} {v : Value} {xs : List Value} (h : w.ownsRow B e s v n xs) (o : Obj) : (w.alloc o).ownsRow B e s v n xs := zC1 h (zA2 w o)
def box5 (i : IN) : Obj := .cells #[.int .i64 i.pl, .int .i64 i.op, .int .i64 i.a, .int .i64 i.b] 179
theorem rone1 (hN : zK1) (i : IN) (h : kd i.op = 1) (w : World) : Calls Tryz.prog 168 #[.agg #[.int .i64 i.pl, .int .i64 i.op, .int .i64 i.a, .int .i64 i.b]] w fun e w' => Below w.heap.size w w' ∧ ∃ ao n c, e = .returned (.tuple #[.slice ao n c, .bool (zB6 i)]) ∧ (zB6 i = true → w'.ownsRow w.heap.size 5 1 (.slice ao n c) (oneB i).length (zAh (oneB i))) := by
 have hop := zFj (op := i.op) (by omega)
 have h132 : (i.op == 132) = false := by
  rw [beq_eq_false_iff_ne]; intro e; rw [e] at h; exact absurd h (by decide)
 have B0 := zA0 (zBz w (box5 i))
 have X0 : Hid ((w.alloc (box5 i)).heap[w.heap.size]? = some (box5 i)) := heap_alloc_new _ _
 have gS := fun W => zA0 (zKw hN i.op W)
 have gB := fun W => zA0 (zFr i.op W)
 have hs : sz i.op = 1 := by unfold sz; rw [h]; rfl
 rw [hs] at gS
 rw [decide_eq_false (show ¬ kd i.op = 6 by omega)] at gB
 have HFI : Hid (zB6 i = decide (i.a = 0 ∧ i.b = 0)) := by show _ = _; unfold zB6; rw [h]; rfl
 have HO : Hid (oneB i = [i.op]) := by show _ = _; unfold oneB; rw [h]; rfl
 clear hs hN
 unfold box5 at B0 X0
 generalize zB6 i = fi at *
 generalize oneB i = ob at *
 obtain ⟨pl, op, a, b⟩ := i
 simp only at *
 go_enter Tryz.func168, Tryz.ntmps168
 go_wp2_with fail
 refine (gS _).out.mono ?_
 rintro e w2 ⟨rfl, b2⟩
 have B2 := zA0 (B0.out.trans (b2.mono (by simp)))
 have X2 := zA0 ((b2.block _ (by simp)).trans X0.out)
 clear b2 B0 X0 gS
 have e0 := zAl X2.out 0 rfl
 have e1 := zAl X2.out 1 rfl
 have e2 := zAl X2.out 2 rfl
 have e3 := zAl X2.out 3 rfl
 go_wp2_with fail
 refine (gB _).out.mono ?_
 rintro e w' ⟨rfl, hww⟩; cases hww
 clear gB
 have Y2 := zA0 ((heap_alloc_old w2 (.cells #[.int .u8 op] 5) (Array.getElem?_eq_some_iff.1 X2.out).1).trans X2.out)
 have c2 := zAl Y2.out 2 rfl
 have c3 := zAl Y2.out 3 rfl
 have B3 : Hid (Below w.heap.size w (w2.alloc (.cells #[.int .u8 op] 5)).drew) := zAe (B2.out.trans ((zBz w2 (.cells #[.int .u8 op] 5)).mono B2.out.size)) 1
 have O3 : Hid ((w2.alloc (.cells #[.int .u8 op] 5)).drew.ownsRow w.heap.size 5 1 (.slice (some ⟨w2.heap.size, 0, none⟩) 1 1) [op].length (zAh [op])) := by
  refine ⟨rfl, .inr ⟨w2.heap.size, 1, #[.int .u8 op], rfl, B2.out.size, heap_alloc_new w2 (.cells #[.int .u8 op] 5), Nat.le_refl _, by unfold maxLen; omega, rfl, rfl⟩⟩
 by_cases ha : a = 0
 · subst ha
   by_cases hb : b = 0
   · subst hb
     go_wp2_with fail
     go_region
     all_goals
      go_wp2
      go_ret2
      refine ⟨B3.out, _, _, _, ?_, fun _ => by rw [HO.out]; exact O3.out⟩
      rw [HFI.out]; rfl
   · have hb' : (b == 0) = false := by simpa using hb
     go_wp2_with fail
     go_region
     all_goals
      go_wp2
      go_ret2
      refine ⟨B3.out, _, _, _, ?_, fun _ => by rw [HO.out]; exact O3.out⟩
      rw [HFI.out, decide_eq_false (fun h => hb h.2)]; rfl
 · have ha' : (a == 0) = false := by simpa using ha
   go_wp2_with fail
   go_region
   all_goals
    go_wp2
    go_ret2
    refine ⟨B3.out, _, _, _, ?_, fun _ => by rw [HO.out]; exact O3.out⟩
    rw [HFI.out, decide_eq_false (fun h => ha h.1)]; rfl
theorem rone2 (hN : zK1) (i : IN) (h : kd i.op = 2) (w : World) : Calls Tryz.prog 168 #[.agg #[.int .i64 i.pl, .int .i64 i.op, .int .i64 i.a, .int .i64 i.b]] w fun e w' => Below w.heap.size w w' ∧ ∃ ao n c, e = .returned (.tuple #[.slice ao n c, .bool (zB6 i)]) ∧ (zB6 i = true → w'.ownsRow w.heap.size 5 1 (.slice ao n c) (oneB i).length (zAh (oneB i))) := by
 have hop := zFj (op := i.op) (by omega)
 have h132 : (i.op == 132) = false := by
  rw [beq_eq_false_iff_ne]; intro e; rw [e] at h; exact absurd h (by decide)
 have B0 := zA0 (zBz w (box5 i))
 have X0 : Hid ((w.alloc (box5 i)).heap[w.heap.size]? = some (box5 i)) := heap_alloc_new _ _
 have gS := fun W => zA0 (zKw hN i.op W)
 have gB := fun W => zA0 (zFr i.op W)
 have gG := fun W => zA0 (zIt i.op W)
 have gI := fun W => zA0 (rin i.a (0) (255) W)
 have hs : sz i.op = 2 := by unfold sz; rw [h]; rfl
 have hg : sg5 i.op = false := by unfold sg5; rw [h]; rfl
 rw [hs] at gS
 rw [hg] at gG
 rw [decide_eq_false (show ¬ kd i.op = 6 by omega)] at gB
 have HFI : Hid (zB6 i = decide (i.b = 0 ∧ (0) ≤ i.a ∧ i.a ≤ (255))) := by show _ = _; unfold zB6; rw [h]; rfl
 have HO : Hid (oneB i = [i.op, i.a % 256]) := by show _ = _; unfold oneB; rw [h]; rfl
 clear hs hN hg
 unfold box5 at B0 X0
 unfold in5 at gI
 generalize zB6 i = fi at *
 generalize oneB i = ob at *
 obtain ⟨pl, op, a, b⟩ := i
 simp only at *
 have HIN : Hid ((decide ((0) ≤ a) && decide (a ≤ (255))) = decide ((0) ≤ a ∧ a ≤ (255))) := by show _ = _; rw [Bool.decide_and]
 rw [HIN.out] at gI
 have hwr : IntKind.u8.wrap a = a % 256 := by simp [IntKind.wrap, IntKind.bits, IntKind.signed]
 have hwo : IntKind.u8.wrap op = op := by simp [IntKind.wrap, IntKind.bits, IntKind.signed]; omega
 generalize hq : decide ((0) ≤ a ∧ a ≤ (255)) = q at *
 have HQ := zA0 hq
 clear hq HIN
 go_enter Tryz.func168, Tryz.ntmps168
 go_wp2_with fail
 refine (gS _).out.mono ?_
 rintro e w2 ⟨rfl, b2⟩
 have B2 := zA0 (B0.out.trans (b2.mono (by simp)))
 have X2 := zA0 ((b2.block _ (by simp)).trans X0.out)
 clear b2 B0 X0 gS
 have e0 := zAl X2.out 0 rfl
 have e1 := zAl X2.out 1 rfl
 have e2 := zAl X2.out 2 rfl
 have e3 := zAl X2.out 3 rfl
 go_wp2_with fail
 refine (gB _).out.mono ?_
 rintro e w' ⟨rfl, hww⟩; cases hww
 clear gB
 go_wp2_with fail
 refine (gG _).out.mono ?_
 rintro e w' ⟨rfl, hww⟩; cases hww
 clear gG
 have Y2 := zA0 ((heap_alloc_old w2 (.cells #[.int .u8 op, .int .u8 (a % 256)] 5) (Array.getElem?_eq_some_iff.1 X2.out).1).trans X2.out)
 have c1 := zAl Y2.out 1 rfl
 have c3 := zAl Y2.out 3 rfl
 have B3 : Hid (Below w.heap.size w (w2.alloc (.cells #[.int .u8 op, .int .u8 (a % 256)] 5)).drew) := zAe (B2.out.trans ((zBz w2 (.cells #[.int .u8 op, .int .u8 (a % 256)] 5)).mono B2.out.size)) 1
 have O3 : Hid ((w2.alloc (.cells #[.int .u8 op, .int .u8 (a % 256)] 5)).drew.ownsRow w.heap.size 5 1 (.slice (some ⟨w2.heap.size, 0, none⟩) 2 2) [op, a % 256].length (zAh [op, a % 256])) := by
  refine ⟨rfl, .inr ⟨w2.heap.size, 2, #[.int .u8 op, .int .u8 (a % 256)], rfl, B2.out.size, heap_alloc_new w2 (.cells #[.int .u8 op, .int .u8 (a % 256)] 5), Nat.le_refl _, by unfold maxLen; omega, rfl, rfl⟩⟩
 by_cases hb : b = 0
 · subst hb
   go_wp2_with fail
   go_region_held3 (fun W => W.cell? ⟨w.heap.size, 1, none⟩ = some (.int .i64 op) ∧ W.cell? ⟨w.heap.size, 3, none⟩ = some (.int .i64 0)) (first | exact ⟨e1, e3⟩ | exact ⟨c1, c3⟩)
    (first
     | (go_at_call 197; refine (gI _).out.mono ?_; rintro e w' ⟨rfl, hww⟩; cases hww))
   all_goals
    go_wp2
    go_ret2
    refine ⟨B3.out, _, _, _, ?_, fun _ => by rw [HO.out]; exact O3.out⟩
    rw [HFI.out, ← HQ.out]; simp
 · have hb' : (b == 0) = false := by simpa using hb
   go_wp2_with fail
   go_region
   all_goals
    go_wp2
    go_ret2
    refine ⟨B3.out, _, _, _, ?_, fun _ => by rw [HO.out]; exact O3.out⟩
    rw [HFI.out, decide_eq_false (fun h => hb h.1)]; rfl
theorem rone3 (hN : zK1) (i : IN) (h : kd i.op = 3) (w : World) : Calls Tryz.prog 168 #[.agg #[.int .i64 i.pl, .int .i64 i.op, .int .i64 i.a, .int .i64 i.b]] w fun e w' => Below w.heap.size w w' ∧ ∃ ao n c, e = .returned (.tuple #[.slice ao n c, .bool (zB6 i)]) ∧ (zB6 i = true → w'.ownsRow w.heap.size 5 1 (.slice ao n c) (oneB i).length (zAh (oneB i))) := by
 have hop := zFj (op := i.op) (by omega)
 have h132 : (i.op == 132) = false := by
  rw [beq_eq_false_iff_ne]; intro e; rw [e] at h; exact absurd h (by decide)
 have B0 := zA0 (zBz w (box5 i))
 have X0 : Hid ((w.alloc (box5 i)).heap[w.heap.size]? = some (box5 i)) := heap_alloc_new _ _
 have gS := fun W => zA0 (zKw hN i.op W)
 have gB := fun W => zA0 (zFr i.op W)
 have gG := fun W => zA0 (zIt i.op W)
 have gI := fun W => zA0 (rin i.a (-128) (127) W)
 have hs : sz i.op = 2 := by unfold sz; rw [h]; rfl
 have hg : sg5 i.op = true := by unfold sg5; rw [h]; rfl
 rw [hs] at gS
 rw [hg] at gG
 rw [decide_eq_false (show ¬ kd i.op = 6 by omega)] at gB
 have HFI : Hid (zB6 i = decide (i.b = 0 ∧ (-128) ≤ i.a ∧ i.a ≤ (127))) := by show _ = _; unfold zB6; rw [h]; rfl
 have HO : Hid (oneB i = [i.op, i.a % 256]) := by show _ = _; unfold oneB; rw [h]; rfl
 clear hs hN hg
 unfold box5 at B0 X0
 unfold in5 at gI
 generalize zB6 i = fi at *
 generalize oneB i = ob at *
 obtain ⟨pl, op, a, b⟩ := i
 simp only at *
 have HIN : Hid ((decide ((-128) ≤ a) && decide (a ≤ (127))) = decide ((-128) ≤ a ∧ a ≤ (127))) := by show _ = _; rw [Bool.decide_and]
 rw [HIN.out] at gI
 have hwr : IntKind.u8.wrap a = a % 256 := by simp [IntKind.wrap, IntKind.bits, IntKind.signed]
 have hwo : IntKind.u8.wrap op = op := by simp [IntKind.wrap, IntKind.bits, IntKind.signed]; omega
 generalize hq : decide ((-128) ≤ a ∧ a ≤ (127)) = q at *
 have HQ := zA0 hq
 clear hq HIN
 go_enter Tryz.func168, Tryz.ntmps168
 go_wp2_with fail
 refine (gS _).out.mono ?_
 rintro e w2 ⟨rfl, b2⟩
 have B2 := zA0 (B0.out.trans (b2.mono (by simp)))
 have X2 := zA0 ((b2.block _ (by simp)).trans X0.out)
 clear b2 B0 X0 gS
 have e0 := zAl X2.out 0 rfl
 have e1 := zAl X2.out 1 rfl
 have e2 := zAl X2.out 2 rfl
 have e3 := zAl X2.out 3 rfl
 go_wp2_with fail
 refine (gB _).out.mono ?_
 rintro e w' ⟨rfl, hww⟩; cases hww
 clear gB
 go_wp2_with fail
 refine (gG _).out.mono ?_
 rintro e w' ⟨rfl, hww⟩; cases hww
 clear gG
 have Y2 := zA0 ((heap_alloc_old w2 (.cells #[.int .u8 op, .int .u8 (a % 256)] 5) (Array.getElem?_eq_some_iff.1 X2.out).1).trans X2.out)
 have c1 := zAl Y2.out 1 rfl
 have c3 := zAl Y2.out 3 rfl
 have B3 : Hid (Below w.heap.size w (w2.alloc (.cells #[.int .u8 op, .int .u8 (a % 256)] 5)).drew) := zAe (B2.out.trans ((zBz w2 (.cells #[.int .u8 op, .int .u8 (a % 256)] 5)).mono B2.out.size)) 1
 have O3 : Hid ((w2.alloc (.cells #[.int .u8 op, .int .u8 (a % 256)] 5)).drew.ownsRow w.heap.size 5 1 (.slice (some ⟨w2.heap.size, 0, none⟩) 2 2) [op, a % 256].length (zAh [op, a % 256])) := by
  refine ⟨rfl, .inr ⟨w2.heap.size, 2, #[.int .u8 op, .int .u8 (a % 256)], rfl, B2.out.size, heap_alloc_new w2 (.cells #[.int .u8 op, .int .u8 (a % 256)] 5), Nat.le_refl _, by unfold maxLen; omega, rfl, rfl⟩⟩
 by_cases hb : b = 0
 · subst hb
   go_wp2_with fail
   go_region_held3 (fun W => W.cell? ⟨w.heap.size, 1, none⟩ = some (.int .i64 op) ∧ W.cell? ⟨w.heap.size, 3, none⟩ = some (.int .i64 0)) (first | exact ⟨e1, e3⟩ | exact ⟨c1, c3⟩)
    (first
     | (go_at_call 197; refine (gI _).out.mono ?_; rintro e w' ⟨rfl, hww⟩; cases hww))
   all_goals
    go_wp2
    go_ret2
    refine ⟨B3.out, _, _, _, ?_, fun _ => by rw [HO.out]; exact O3.out⟩
    rw [HFI.out, ← HQ.out]; simp
 · have hb' : (b == 0) = false := by simpa using hb
   go_wp2_with fail
   go_region
   all_goals
    go_wp2
    go_ret2
    refine ⟨B3.out, _, _, _, ?_, fun _ => by rw [HO.out]; exact O3.out⟩
    rw [HFI.out, decide_eq_false (fun h => hb h.1)]; rfl
theorem rone4 (hN : zK1) (i : IN) (h : kd i.op = 4) (w : World) : Calls Tryz.prog 168 #[.agg #[.int .i64 i.pl, .int .i64 i.op, .int .i64 i.a, .int .i64 i.b]] w fun e w' => Below w.heap.size w w' ∧ ∃ ao n c, e = .returned (.tuple #[.slice ao n c, .bool (zB6 i)]) ∧ (zB6 i = true → w'.ownsRow w.heap.size 5 1 (.slice ao n c) (oneB i).length (zAh (oneB i))) := by
 have hop := zFj (op := i.op) (by omega)
 have h132 : (i.op == 132) = false := by
  rw [beq_eq_false_iff_ne]; intro e; rw [e] at h; exact absurd h (by decide)
 have B0 := zA0 (zBz w (box5 i))
 have X0 : Hid ((w.alloc (box5 i)).heap[w.heap.size]? = some (box5 i)) := heap_alloc_new _ _
 have gS := fun W => zA0 (zKw hN i.op W)
 have gB := fun W => zA0 (zFr i.op W)
 have gG := fun W => zA0 (zIt i.op W)
 have gI := fun W => zA0 (rin i.a (0) (65535) W)
 have hs : sz i.op = 3 := by unfold sz; rw [h]; rfl
 have hg : sg5 i.op = false := by unfold sg5; rw [h]; rfl
 rw [hs] at gS
 rw [hg] at gG
 rw [decide_eq_false (show ¬ kd i.op = 6 by omega)] at gB
 have HFI : Hid (zB6 i = decide (i.b = 0 ∧ (0) ≤ i.a ∧ i.a ≤ (65535))) := by show _ = _; unfold zB6; rw [h]; rfl
 have HO : Hid (oneB i = [i.op, i.a / 256 % 256, i.a % 256]) := by show _ = _; unfold oneB; rw [h]; rfl
 clear hs hN hg
 unfold box5 at B0 X0
 unfold in5 at gI
 generalize zB6 i = fi at *
 generalize oneB i = ob at *
 obtain ⟨pl, op, a, b⟩ := i
 simp only at *
 have HIN : Hid ((decide ((0) ≤ a) && decide (a ≤ (65535))) = decide ((0) ≤ a ∧ a ≤ (65535))) := by show _ = _; rw [Bool.decide_and]
 rw [HIN.out] at gI
 have hwr : IntKind.u8.wrap a = a % 256 := by simp [IntKind.wrap, IntKind.bits, IntKind.signed]
 have hw8 : IntKind.u8.wrap (a / 256) = a / 256 % 256 := by simp [IntKind.wrap, IntKind.bits, IntKind.signed]
 have hsh : ∀ W : World, (Op.shift .shr .i64 a .u64 8).run Tryz.prog W = .ok (.int .i64 (a / 256)) W := fun W => shr8 a W
 have hwo : IntKind.u8.wrap op = op := by simp [IntKind.wrap, IntKind.bits, IntKind.signed]; omega
 generalize hq : decide ((0) ≤ a ∧ a ≤ (65535)) = q at *
 have HQ := zA0 hq
 clear hq HIN
 go_enter Tryz.func168, Tryz.ntmps168
 go_wp2_with fail
 refine (gS _).out.mono ?_
 rintro e w2 ⟨rfl, b2⟩
 have B2 := zA0 (B0.out.trans (b2.mono (by simp)))
 have X2 := zA0 ((b2.block _ (by simp)).trans X0.out)
 clear b2 B0 X0 gS
 have e0 := zAl X2.out 0 rfl
 have e1 := zAl X2.out 1 rfl
 have e2 := zAl X2.out 2 rfl
 have e3 := zAl X2.out 3 rfl
 go_wp2_with fail
 refine (gB _).out.mono ?_
 rintro e w' ⟨rfl, hww⟩; cases hww
 clear gB
 go_wp2_with fail
 refine (gG _).out.mono ?_
 rintro e w' ⟨rfl, hww⟩; cases hww
 clear gG
 have Y2 := zA0 ((heap_alloc_old w2 (.cells #[.int .u8 op, .int .u8 (a / 256 % 256), .int .u8 (a % 256)] 5) (Array.getElem?_eq_some_iff.1 X2.out).1).trans X2.out)
 have c1 := zAl Y2.out 1 rfl
 have c3 := zAl Y2.out 3 rfl
 have B3 : Hid (Below w.heap.size w (w2.alloc (.cells #[.int .u8 op, .int .u8 (a / 256 % 256), .int .u8 (a % 256)] 5)).drew) := zAe (B2.out.trans ((zBz w2 (.cells #[.int .u8 op, .int .u8 (a / 256 % 256), .int .u8 (a % 256)] 5)).mono B2.out.size)) 1
 have O3 : Hid ((w2.alloc (.cells #[.int .u8 op, .int .u8 (a / 256 % 256), .int .u8 (a % 256)] 5)).drew.ownsRow w.heap.size 5 1 (.slice (some ⟨w2.heap.size, 0, none⟩) 3 3) [op, a / 256 % 256, a % 256].length (zAh [op, a / 256 % 256, a % 256])) := by
  refine ⟨rfl, .inr ⟨w2.heap.size, 3, #[.int .u8 op, .int .u8 (a / 256 % 256), .int .u8 (a % 256)], rfl, B2.out.size, heap_alloc_new w2 (.cells #[.int .u8 op, .int .u8 (a / 256 % 256), .int .u8 (a % 256)] 5), Nat.le_refl _, by unfold maxLen; omega, rfl, rfl⟩⟩
 by_cases hb : b = 0
 · subst hb
   go_wp2_with fail
   go_region_held3 (fun W => W.cell? ⟨w.heap.size, 1, none⟩ = some (.int .i64 op) ∧ W.cell? ⟨w.heap.size, 3, none⟩ = some (.int .i64 0)) (first | exact ⟨e1, e3⟩ | exact ⟨c1, c3⟩)
    (first
     | (go_at_call 197; refine (gI _).out.mono ?_; rintro e w' ⟨rfl, hww⟩; cases hww))
   all_goals
    go_wp2
    go_ret2
    refine ⟨B3.out, _, _, _, ?_, fun _ => by rw [HO.out]; exact O3.out⟩
    rw [HFI.out, ← HQ.out]; simp
 · have hb' : (b == 0) = false := by simpa using hb
   go_wp2_with fail
   go_region
   all_goals
    go_wp2
    go_ret2
    refine ⟨B3.out, _, _, _, ?_, fun _ => by rw [HO.out]; exact O3.out⟩
    rw [HFI.out, decide_eq_false (fun h => hb h.1)]; rfl
theorem rone5 (hN : zK1) (i : IN) (h : kd i.op = 5) (w : World) : Calls Tryz.prog 168 #[.agg #[.int .i64 i.pl, .int .i64 i.op, .int .i64 i.a, .int .i64 i.b]] w fun e w' => Below w.heap.size w w' ∧ ∃ ao n c, e = .returned (.tuple #[.slice ao n c, .bool (zB6 i)]) ∧ (zB6 i = true → w'.ownsRow w.heap.size 5 1 (.slice ao n c) (oneB i).length (zAh (oneB i))) := by
 have hop := zFj (op := i.op) (by omega)
 have h132 : (i.op == 132) = false := by
  rw [beq_eq_false_iff_ne]; intro e; rw [e] at h; exact absurd h (by decide)
 have B0 := zA0 (zBz w (box5 i))
 have X0 : Hid ((w.alloc (box5 i)).heap[w.heap.size]? = some (box5 i)) := heap_alloc_new _ _
 have gS := fun W => zA0 (zKw hN i.op W)
 have gB := fun W => zA0 (zFr i.op W)
 have gG := fun W => zA0 (zIt i.op W)
 have gI := fun W => zA0 (rin i.a (-32768) (32767) W)
 have hs : sz i.op = 3 := by unfold sz; rw [h]; rfl
 have hg : sg5 i.op = true := by unfold sg5; rw [h]; rfl
 rw [hs] at gS
 rw [hg] at gG
 rw [decide_eq_false (show ¬ kd i.op = 6 by omega)] at gB
 have HFI : Hid (zB6 i = decide (i.b = 0 ∧ (-32768) ≤ i.a ∧ i.a ≤ (32767))) := by show _ = _; unfold zB6; rw [h]; rfl
 have HO : Hid (oneB i = [i.op, i.a / 256 % 256, i.a % 256]) := by show _ = _; unfold oneB; rw [h]; rfl
 clear hs hN hg
 unfold box5 at B0 X0
 unfold in5 at gI
 generalize zB6 i = fi at *
 generalize oneB i = ob at *
 obtain ⟨pl, op, a, b⟩ := i
 simp only at *
 have HIN : Hid ((decide ((-32768) ≤ a) && decide (a ≤ (32767))) = decide ((-32768) ≤ a ∧ a ≤ (32767))) := by show _ = _; rw [Bool.decide_and]
 rw [HIN.out] at gI
 have hwr : IntKind.u8.wrap a = a % 256 := by simp [IntKind.wrap, IntKind.bits, IntKind.signed]
 have hw8 : IntKind.u8.wrap (a / 256) = a / 256 % 256 := by simp [IntKind.wrap, IntKind.bits, IntKind.signed]
 have hsh : ∀ W : World, (Op.shift .shr .i64 a .u64 8).run Tryz.prog W = .ok (.int .i64 (a / 256)) W := fun W => shr8 a W
 have hwo : IntKind.u8.wrap op = op := by simp [IntKind.wrap, IntKind.bits, IntKind.signed]; omega
 generalize hq : decide ((-32768) ≤ a ∧ a ≤ (32767)) = q at *
 have HQ := zA0 hq
 clear hq HIN
 go_enter Tryz.func168, Tryz.ntmps168
 go_wp2_with fail
 refine (gS _).out.mono ?_
 rintro e w2 ⟨rfl, b2⟩
 have B2 := zA0 (B0.out.trans (b2.mono (by simp)))
 have X2 := zA0 ((b2.block _ (by simp)).trans X0.out)
 clear b2 B0 X0 gS
 have e0 := zAl X2.out 0 rfl
 have e1 := zAl X2.out 1 rfl
 have e2 := zAl X2.out 2 rfl
 have e3 := zAl X2.out 3 rfl
 go_wp2_with fail
 refine (gB _).out.mono ?_
 rintro e w' ⟨rfl, hww⟩; cases hww
 clear gB
 go_wp2_with fail
 refine (gG _).out.mono ?_
 rintro e w' ⟨rfl, hww⟩; cases hww
 clear gG
 have Y2 := zA0 ((heap_alloc_old w2 (.cells #[.int .u8 op, .int .u8 (a / 256 % 256), .int .u8 (a % 256)] 5) (Array.getElem?_eq_some_iff.1 X2.out).1).trans X2.out)
 have c1 := zAl Y2.out 1 rfl
 have c3 := zAl Y2.out 3 rfl
 have B3 : Hid (Below w.heap.size w (w2.alloc (.cells #[.int .u8 op, .int .u8 (a / 256 % 256), .int .u8 (a % 256)] 5)).drew) := zAe (B2.out.trans ((zBz w2 (.cells #[.int .u8 op, .int .u8 (a / 256 % 256), .int .u8 (a % 256)] 5)).mono B2.out.size)) 1
 have O3 : Hid ((w2.alloc (.cells #[.int .u8 op, .int .u8 (a / 256 % 256), .int .u8 (a % 256)] 5)).drew.ownsRow w.heap.size 5 1 (.slice (some ⟨w2.heap.size, 0, none⟩) 3 3) [op, a / 256 % 256, a % 256].length (zAh [op, a / 256 % 256, a % 256])) := by
  refine ⟨rfl, .inr ⟨w2.heap.size, 3, #[.int .u8 op, .int .u8 (a / 256 % 256), .int .u8 (a % 256)], rfl, B2.out.size, heap_alloc_new w2 (.cells #[.int .u8 op, .int .u8 (a / 256 % 256), .int .u8 (a % 256)] 5), Nat.le_refl _, by unfold maxLen; omega, rfl, rfl⟩⟩
 by_cases hb : b = 0
 · subst hb
   go_wp2_with fail
   go_region_held3 (fun W => W.cell? ⟨w.heap.size, 1, none⟩ = some (.int .i64 op) ∧ W.cell? ⟨w.heap.size, 3, none⟩ = some (.int .i64 0)) (first | exact ⟨e1, e3⟩ | exact ⟨c1, c3⟩)
    (first
     | (go_at_call 197; refine (gI _).out.mono ?_; rintro e w' ⟨rfl, hww⟩; cases hww))
   all_goals
    go_wp2
    go_ret2
    refine ⟨B3.out, _, _, _, ?_, fun _ => by rw [HO.out]; exact O3.out⟩
    rw [HFI.out, ← HQ.out]; simp
 · have hb' : (b == 0) = false := by simpa using hb
   go_wp2_with fail
   go_region
   all_goals
    go_wp2
    go_ret2
    refine ⟨B3.out, _, _, _, ?_, fun _ => by rw [HO.out]; exact O3.out⟩
    rw [HFI.out, decide_eq_false (fun h => hb h.1)]; rfl
theorem rone6 (hN : zK1) (i : IN) (h : kd i.op = 6) (hp0 : 0 ≤ i.pl) (hp1 : i.pl ≤ 500000) (w : World) : Calls Tryz.prog 168 #[.agg #[.int .i64 i.pl, .int .i64 i.op, .int .i64 i.a, .int .i64 i.b]] w fun e w' => Below w.heap.size w w' ∧ ∃ ao n c, e = .returned (.tuple #[.slice ao n c, .bool (zB6 i)]) ∧ (zB6 i = true → w'.ownsRow w.heap.size 5 1 (.slice ao n c) (oneB i).length (zAh (oneB i))) := by
 have hop := zFj (op := i.op) (by omega)
 have h132 : (i.op == 132) = false := by
  rw [beq_eq_false_iff_ne]; intro e; rw [e] at h; exact absurd h (by decide)
 have B0 := zA0 (zBz w (box5 i))
 have X0 : Hid ((w.alloc (box5 i)).heap[w.heap.size]? = some (box5 i)) := heap_alloc_new _ _
 have gS := fun W => zA0 (zKw hN i.op W)
 have gB := fun W => zA0 (zFr i.op W)
 have gG := fun W => zA0 (zIt i.op W)
 have gA := fun W => zA0 (rin i.a (-1048576) 1048576 W)
 have gI := fun W => zA0 (rin (i.a - i.pl) (-32768) (32767) W)
 have hs : sz i.op = 3 := by unfold sz; rw [h]; rfl
 have hg : sg5 i.op = true := by unfold sg5; rw [h]; rfl
 rw [hs] at gS
 rw [hg] at gG
 rw [decide_eq_true h] at gB
 have HFI : Hid (zB6 i = decide (i.b = 0 ∧ (-32768) ≤ i.a - i.pl ∧ i.a - i.pl ≤ (32767))) := by show _ = _; unfold zB6; rw [h]; rfl
 have HO : Hid (oneB i = [i.op, (i.a - i.pl) / 256 % 256, (i.a - i.pl) % 256]) := by show _ = _; unfold oneB; rw [h]; rfl
 clear hs hN hg
 unfold box5 at B0 X0
 unfold in5 at gI gA
 generalize zB6 i = fi at *
 generalize oneB i = ob at *
 obtain ⟨pl, op, a, b⟩ := i
 simp only at *
 by_cases hA : -1048576 ≤ a ∧ a ≤ 1048576
 · rw [decide_eq_true hA.1, decide_eq_true hA.2] at gA
   obtain ⟨hA0, hA1⟩ := hA
   generalize hd : a - pl = d at *
   have hd0 : -2000000 ≤ d := by omega
   have hd1 : d ≤ 2000000 := by omega
   have HIN : Hid ((decide ((-32768) ≤ d) && decide (d ≤ (32767))) = decide ((-32768) ≤ d ∧ d ≤ (32767))) := by show _ = _; rw [Bool.decide_and]
   rw [HIN.out] at gI
   have hwr : IntKind.u8.wrap d = d % 256 := by simp [IntKind.wrap, IntKind.bits, IntKind.signed]
   have hw8 : IntKind.u8.wrap (d / 256) = d / 256 % 256 := by simp [IntKind.wrap, IntKind.bits, IntKind.signed]
   have hsh : ∀ W : World, (Op.shift .shr .i64 d .u64 8).run Tryz.prog W = .ok (.int .i64 (d / 256)) W := fun W => shr8 d W
   have hwo : IntKind.u8.wrap op = op := by simp [IntKind.wrap, IntKind.bits, IntKind.signed]; omega
   generalize hq : decide ((-32768) ≤ d ∧ d ≤ (32767)) = q at *
   have HQ := zA0 hq
   clear hq HIN
   go_enter Tryz.func168, Tryz.ntmps168
   go_wp2_with fail
   refine (gS _).out.mono ?_
   rintro e w2 ⟨rfl, b2⟩
   have B2 := zA0 (B0.out.trans (b2.mono (by simp)))
   have X2 := zA0 ((b2.block _ (by simp)).trans X0.out)
   clear b2 B0 X0 gS
   have e0 := zAl X2.out 0 rfl
   have e1 := zAl X2.out 1 rfl
   have e2 := zAl X2.out 2 rfl
   have e3 := zAl X2.out 3 rfl
   go_wp2_with fail
   refine (gB _).out.mono ?_
   rintro e w' ⟨rfl, hww⟩; cases hww
   clear gB
   go_wp2_with fail
   refine (gA _).out.mono ?_
   rintro e w' ⟨rfl, hww⟩; cases hww
   clear gA
   go_wp2_with fail
   refine (gG _).out.mono ?_
   rintro e w' ⟨rfl, hww⟩; cases hww
   clear gG
   have Y2 := zA0 ((heap_alloc_old w2 (.cells #[.int .u8 op, .int .u8 (d / 256 % 256), .int .u8 (d % 256)] 5) (Array.getElem?_eq_some_iff.1 X2.out).1).trans X2.out)
   have c1 := zAl Y2.out 1 rfl
   have c3 := zAl Y2.out 3 rfl
   have B3 : Hid (Below w.heap.size w (w2.alloc (.cells #[.int .u8 op, .int .u8 (d / 256 % 256), .int .u8 (d % 256)] 5)).drew) := zAe (B2.out.trans ((zBz w2 (.cells #[.int .u8 op, .int .u8 (d / 256 % 256), .int .u8 (d % 256)] 5)).mono B2.out.size)) 1
   have O3 : Hid ((w2.alloc (.cells #[.int .u8 op, .int .u8 (d / 256 % 256), .int .u8 (d % 256)] 5)).drew.ownsRow w.heap.size 5 1 (.slice (some ⟨w2.heap.size, 0, none⟩) 3 3) [op, d / 256 % 256, d % 256].length (zAh [op, d / 256 % 256, d % 256])) := by
    refine ⟨rfl, .inr ⟨w2.heap.size, 3, #[.int .u8 op, .int .u8 (d / 256 % 256), .int .u8 (d % 256)], rfl, B2.out.size, heap_alloc_new w2 (.cells #[.int .u8 op, .int .u8 (d / 256 % 256), .int .u8 (d % 256)] 5), Nat.le_refl _, by unfold maxLen; omega, rfl, rfl⟩⟩
   by_cases hb : b = 0
   · subst hb
     go_wp2_with fail
     go_region_held3 (fun W => W.cell? ⟨w.heap.size, 1, none⟩ = some (.int .i64 op) ∧ W.cell? ⟨w.heap.size, 3, none⟩ = some (.int .i64 0)) (first | exact ⟨e1, e3⟩ | exact ⟨c1, c3⟩)
      (first
       | (go_at_call 197; refine (gI _).out.mono ?_; rintro e w' ⟨rfl, hww⟩; cases hww))
     all_goals
      go_wp2
      go_ret2
      refine ⟨B3.out, _, _, _, ?_, fun _ => by rw [HO.out]; exact O3.out⟩
      rw [HFI.out, ← HQ.out]; simp
   · have hb' : (b == 0) = false := by simpa using hb
     go_wp2_with fail
     go_region
     all_goals
      go_wp2
      go_ret2
      refine ⟨B3.out, _, _, _, ?_, fun _ => by rw [HO.out]; exact O3.out⟩
      rw [HFI.out, decide_eq_false (fun h => hb h.1)]; rfl
 · have hAf : (decide ((-1048576 : Int) ≤ a) && decide (a ≤ 1048576)) = false := by rw [← Bool.decide_and]; exact decide_eq_false hA
   rw [hAf] at gA
   have HF2 : Hid (fi = false) := by
    show _ = _
    rw [HFI.out]; exact decide_eq_false (fun h => by omega)
   clear gI gG HFI HO hA hAf
   go_enter Tryz.func168, Tryz.ntmps168
   go_wp2_with fail
   refine (gS _).out.mono ?_
   rintro e w2 ⟨rfl, b2⟩
   have B2 := zA0 (B0.out.trans (b2.mono (by simp)))
   have X2 := zA0 ((b2.block _ (by simp)).trans X0.out)
   clear b2 B0 X0 gS
   have e1 := zAl X2.out 1 rfl
   have e2 := zAl X2.out 2 rfl
   go_wp2_with fail
   refine (gB _).out.mono ?_
   rintro e w' ⟨rfl, hww⟩; cases hww
   clear gB
   go_wp2_with fail
   refine (gA _).out.mono ?_
   rintro e w' ⟨rfl, hww⟩; cases hww
   go_wp2
   go_ret2
   refine ⟨B2.out, none, 0, 0, ?_, fun h => absurd h (by rw [HF2.out]; decide)⟩
   rw [HF2.out]; rfl
end Go.Proofs.YtpehimfnkmepnaaGreat
