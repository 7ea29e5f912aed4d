/- write of package code: walked. -/
import Derived.Test.YtcmneinhcfejhaaR
namespace Go.Proofs.Ytcmneinhcfejhaa
open Go.RowKit

theorem shr8 (a : Int) (W : World) : (Op.shift .shr .i64 a .u64 8).run Try.prog W = .ok (.int .i64 (a / 256)) W := by
  have h2 : min (8 : Int).toNat IntKind.i64.bits = 8 := by decide
  have h3 : (0 : Int) ≤ 2 ^ 8 := by decide
  simp only [Op.shift, if_neg (show ¬ (8 : Int) < 0 by decide), h2, Sem.run_pure, Int.fdiv_eq_ediv_of_nonneg _ h3]
  rfl
theorem wrap_u8 (a : Int) : IntKind.u8.wrap a = a % 256 := by simp [IntKind.wrap, IntKind.bits, IntKind.signed]
theorem wrap_lo (x : Int) : wrap64 x % 256 = x % 256 ∧ wrap64 x / 256 % 256 = x / 256 % 256 := by
  unfold wrap64
  omega
/-- Behind the first append: the box stands. -/
theorem box_step {B n : Nat} {w w1 : World} {v v1 : Value} {xs : List Value} {i : IN} (o : Obj) (hown : w.ownsRow B 5 1 v n xs) (st : Step v ((w.alloc (.cells #[.int .i64 i.pl, .int .i64 i.op, .int .i64 i.a, .int .i64 i.b] 33)).alloc o) v1 w1) : IAt w1 w.heap.size 0 i ∧ Step v w v1 w1 := by
  have hb : Below w.heap.size w ((w.alloc (.cells #[.int .i64 i.pl, .int .i64 i.op, .int .i64 i.a, .int .i64 i.b] 33)).alloc o) := ((Below.refl _ _).alloc (Nat.le_refl _) _).alloc (by simp) _
  have h0 : IAt ((w.alloc (.cells #[.int .i64 i.pl, .int .i64 i.op, .int .i64 i.a, .int .i64 i.b] 33)).alloc o) w.heap.size 0 i := (box_at w i).block (heap_alloc_old _ _ (by simp))
  refine ⟨h0.block (st.grown.block _ (by simp; omega) (fun e => ?_)), (Step.of_below hb).trans st⟩
  have := (hown.lt _ e.symm).2
  omega
theorem of_alloc {v v' : Value} {w w' : World} {o : Obj} (h : Step v (w.alloc o) v' w') : Step v w v' w' := (Step.of_below (below_alloc w o)).trans h
theorem own_alloc {w : World} {B e s n : Nat} {v : Value} {xs : List Value} (h : w.ownsRow B e s v n xs) (o : Obj) : (w.alloc o).ownsRow B e s v n xs := own_below h (below_alloc w o)
set_option maxRecDepth 8000 in
set_option maxHeartbeats 2000000 in
theorem write_k1 (B : Nat) (v : Value) (l : List Int) (i : IN) (w : World) (hk : kd i.op = 1) (hown : w.ownsRow B 5 1 v l.length (bcells l)) (hlen : l.length + 3 ≤ 140737488355328) (hB : B ≤ w.heap.size) :
    Calls Try.prog 34 #[v, i.val] w fun e w' => ∃ v', e = .returned v' ∧ w'.ownsRow B 5 1 v' (l ++ oneB i).length (bcells (l ++ oneB i)) ∧ Step v w v' w' := by
  obtain ⟨o0, o1⟩ := kd_byte (op := i.op) (by omega)
  have HO : Hid (oneB i = i.op :: []) := by show _ = _; unfold oneB; rw [hk]; rfl
  have gB := hidIt (fun W => branch_any i.op W)
  rw [decide_eq_false (show ¬ kd i.op = 6 by omega)] at gB
  have gS := hidIt (fun W => size_any i.op W)
  rw [show sz i.op = 1 by unfold sz; rw [hk]; rfl] at gS
  have V1 : View ((w.alloc (.cells #[.int .i64 i.pl, .int .i64 i.op, .int .i64 i.a, .int .i64 i.b] 33)).alloc (.cells #[.int .u8 i.op] 5)) (.slice (some ⟨w.heap.size + 1, 0, none⟩) 1 1) [i.op] := by
    have := View.laid (w.alloc (.cells #[.int .i64 i.pl, .int .i64 i.op, .int .i64 i.a, .int .i64 i.b] 33)) [i.op] (fun x hx => by simp at hx; omega) (by unfold maxLen; simp)
    simpa [bcells] using this
  have O1 := own_alloc (own_alloc hown (.cells #[.int .i64 i.pl, .int .i64 i.op, .int .i64 i.a, .int .i64 i.b] 33)) (.cells #[.int .u8 i.op] 5)
  have HBX := hidIt (fun v1 w1 => box_step (i := i) (v1 := v1) (w1 := w1) (.cells #[.int .u8 i.op] 5) hown)
  have hwo : IntKind.u8.wrap i.op = i.op := by rw [wrap_u8]; omega
  have n132 : (i.op == 132) = false := by
    rw [beq_eq_false_iff_ne]; intro e; rw [e] at hk; exact absurd hk (by decide)
  obtain ⟨ao, cap, rfl⟩ := own_slice hown
  generalize oneB i = ob at *
  unfold IN.val
  obtain ⟨pl, op, a, b⟩ := i
  simp only at *
  go_enter Try.func34, Try.ntmps34
  go_wp2_with (at_builtin; refine wpList_append_view rfl _ _ rfl B _ _ _ _ [op] rfl O1 rfl V1 (by simp; omega) (by simp; omega) ?_; intro v1 w1 ho1 st1; obtain ⟨hI, S1⟩ := HBX.out v1 w1 st1; obtain ⟨d0, d1, d2, d3⟩ := hI; obtain ⟨ao1, cap1, rfl⟩ := own_slice ho1; have HS1 := hidIt S1; have HO1 := hidIt ho1; clear st1 S1 ho1 V1 O1 HBX hown)
  go_wp2_with fail
  refine (gB.out _).mono ?_
  rintro e w2 ⟨rfl, hww⟩; cases hww
  go_wp2_with fail
  refine (gS.out _).mono ?_
  rintro e w2 ⟨rfl, hww⟩; cases hww
  go_wp2_with fail
  refine (gS.out _).mono ?_
  rintro e w2 ⟨rfl, hww⟩; cases hww
  go_wp2
  go_ret
  refine ⟨_, rfl, ?_, HS1.out⟩
  rw [HO.out]
  have := HO1.out
  simpa [bcells] using this
set_option maxRecDepth 8000 in
set_option maxHeartbeats 2000000 in
theorem write_k2 (B : Nat) (v : Value) (l : List Int) (i : IN) (w : World) (hk : kd i.op = 2) (hown : w.ownsRow B 5 1 v l.length (bcells l)) (hlen : l.length + 3 ≤ 140737488355328) (hB : B ≤ w.heap.size) :
    Calls Try.prog 34 #[v, i.val] w fun e w' => ∃ v', e = .returned v' ∧ w'.ownsRow B 5 1 v' (l ++ oneB i).length (bcells (l ++ oneB i)) ∧ Step v w v' w' := by
  obtain ⟨o0, o1⟩ := kd_byte (op := i.op) (by omega)
  have HO : Hid (oneB i = i.op :: [i.a % 256]) := by show _ = _; unfold oneB; rw [hk]; rfl
  have gB := hidIt (fun W => branch_any i.op W)
  rw [decide_eq_false (show ¬ kd i.op = 6 by omega)] at gB
  have gS := hidIt (fun W => size_any i.op W)
  rw [show sz i.op = 2 by unfold sz; rw [hk]; rfl] at gS
  have V1 : View ((w.alloc (.cells #[.int .i64 i.pl, .int .i64 i.op, .int .i64 i.a, .int .i64 i.b] 33)).alloc (.cells #[.int .u8 i.op] 5)) (.slice (some ⟨w.heap.size + 1, 0, none⟩) 1 1) [i.op] := by
    have := View.laid (w.alloc (.cells #[.int .i64 i.pl, .int .i64 i.op, .int .i64 i.a, .int .i64 i.b] 33)) [i.op] (fun x hx => by simp at hx; omega) (by unfold maxLen; simp)
    simpa [bcells] using this
  have O1 := own_alloc (own_alloc hown (.cells #[.int .i64 i.pl, .int .i64 i.op, .int .i64 i.a, .int .i64 i.b] 33)) (.cells #[.int .u8 i.op] 5)
  have HBX := hidIt (fun v1 w1 => box_step (i := i) (v1 := v1) (w1 := w1) (.cells #[.int .u8 i.op] 5) hown)
  have hwo : IntKind.u8.wrap i.op = i.op := by rw [wrap_u8]; omega
  have n132 : (i.op == 132) = false := by
    rw [beq_eq_false_iff_ne]; intro e; rw [e] at hk; exact absurd hk (by decide)
  obtain ⟨ao, cap, rfl⟩ := own_slice hown
  generalize oneB i = ob at *
  unfold IN.val
  obtain ⟨pl, op, a, b⟩ := i
  simp only at *
  have hwr : IntKind.u8.wrap a = a % 256 := wrap_u8 a
  go_enter Try.func34, Try.ntmps34
  go_wp2_with (at_builtin; refine wpList_append_view rfl _ _ rfl B _ _ _ _ [op] rfl O1 rfl V1 (by simp; omega) (by simp; omega) ?_; intro v1 w1 ho1 st1; obtain ⟨hI, S1⟩ := HBX.out v1 w1 st1; obtain ⟨d0, d1, d2, d3⟩ := hI; obtain ⟨ao1, cap1, rfl⟩ := own_slice ho1; have HS1 := hidIt S1; have HO1 := hidIt ho1; clear st1 S1 ho1 V1 O1 HBX hown)
  go_wp2_with fail
  refine (gB.out _).mono ?_
  rintro e w2 ⟨rfl, hww⟩; cases hww
  go_wp2_with fail
  refine (gS.out _).mono ?_
  rintro e w2 ⟨rfl, hww⟩; cases hww
  have V2 : View (w1.alloc (.cells #[.int .u8 (a % 256)] 5)) (.slice (some ⟨w1.heap.size, 0, none⟩) 1 1) [a % 256] := View.laid w1 [a % 256] (fun x hx => by simp at hx; omega) (by unfold maxLen; simp)
  have O2 := own_alloc HO1.out (.cells #[.int .u8 (a % 256)] 5)
  have hB1 : B ≤ w1.heap.size := Nat.le_trans hB HS1.out.grown.size
  go_wp2_with (at_builtin; refine wpList_append_view rfl _ _ rfl B _ _ _ _ [a % 256] rfl O2 rfl V2 (by simp; omega) (by simp; omega) ?_; intro v2 w2 ho2 st2; obtain ⟨ao2, cap2, rfl⟩ := own_slice ho2; have HS2 := hidIt (HS1.out.trans (of_alloc st2)); have HO2 := hidIt ho2; clear st2 ho2)
  go_ret
  refine ⟨_, rfl, ?_, HS2.out⟩
  rw [HO.out]
  have := HO2.out
  simpa [bcells] using this
set_option maxRecDepth 8000 in
set_option maxHeartbeats 2000000 in
theorem write_k3 (B : Nat) (v : Value) (l : List Int) (i : IN) (w : World) (hk : kd i.op = 3) (hown : w.ownsRow B 5 1 v l.length (bcells l)) (hlen : l.length + 3 ≤ 140737488355328) (hB : B ≤ w.heap.size) :
    Calls Try.prog 34 #[v, i.val] w fun e w' => ∃ v', e = .returned v' ∧ w'.ownsRow B 5 1 v' (l ++ oneB i).length (bcells (l ++ oneB i)) ∧ Step v w v' w' := by
  obtain ⟨o0, o1⟩ := kd_byte (op := i.op) (by omega)
  have HO : Hid (oneB i = i.op :: [i.a % 256]) := by show _ = _; unfold oneB; rw [hk]; rfl
  have gB := hidIt (fun W => branch_any i.op W)
  rw [decide_eq_false (show ¬ kd i.op = 6 by omega)] at gB
  have gS := hidIt (fun W => size_any i.op W)
  rw [show sz i.op = 2 by unfold sz; rw [hk]; rfl] at gS
  have V1 : View ((w.alloc (.cells #[.int .i64 i.pl, .int .i64 i.op, .int .i64 i.a, .int .i64 i.b] 33)).alloc (.cells #[.int .u8 i.op] 5)) (.slice (some ⟨w.heap.size + 1, 0, none⟩) 1 1) [i.op] := by
    have := View.laid (w.alloc (.cells #[.int .i64 i.pl, .int .i64 i.op, .int .i64 i.a, .int .i64 i.b] 33)) [i.op] (fun x hx => by simp at hx; omega) (by unfold maxLen; simp)
    simpa [bcells] using this
  have O1 := own_alloc (own_alloc hown (.cells #[.int .i64 i.pl, .int .i64 i.op, .int .i64 i.a, .int .i64 i.b] 33)) (.cells #[.int .u8 i.op] 5)
  have HBX := hidIt (fun v1 w1 => box_step (i := i) (v1 := v1) (w1 := w1) (.cells #[.int .u8 i.op] 5) hown)
  have hwo : IntKind.u8.wrap i.op = i.op := by rw [wrap_u8]; omega
  have n132 : (i.op == 132) = false := by
    rw [beq_eq_false_iff_ne]; intro e; rw [e] at hk; exact absurd hk (by decide)
  obtain ⟨ao, cap, rfl⟩ := own_slice hown
  generalize oneB i = ob at *
  unfold IN.val
  obtain ⟨pl, op, a, b⟩ := i
  simp only at *
  have hwr : IntKind.u8.wrap a = a % 256 := wrap_u8 a
  go_enter Try.func34, Try.ntmps34
  go_wp2_with (at_builtin; refine wpList_append_view rfl _ _ rfl B _ _ _ _ [op] rfl O1 rfl V1 (by simp; omega) (by simp; omega) ?_; intro v1 w1 ho1 st1; obtain ⟨hI, S1⟩ := HBX.out v1 w1 st1; obtain ⟨d0, d1, d2, d3⟩ := hI; obtain ⟨ao1, cap1, rfl⟩ := own_slice ho1; have HS1 := hidIt S1; have HO1 := hidIt ho1; clear st1 S1 ho1 V1 O1 HBX hown)
  go_wp2_with fail
  refine (gB.out _).mono ?_
  rintro e w2 ⟨rfl, hww⟩; cases hww
  go_wp2_with fail
  refine (gS.out _).mono ?_
  rintro e w2 ⟨rfl, hww⟩; cases hww
  have V2 : View (w1.alloc (.cells #[.int .u8 (a % 256)] 5)) (.slice (some ⟨w1.heap.size, 0, none⟩) 1 1) [a % 256] := View.laid w1 [a % 256] (fun x hx => by simp at hx; omega) (by unfold maxLen; simp)
  have O2 := own_alloc HO1.out (.cells #[.int .u8 (a % 256)] 5)
  have hB1 : B ≤ w1.heap.size := Nat.le_trans hB HS1.out.grown.size
  go_wp2_with (at_builtin; refine wpList_append_view rfl _ _ rfl B _ _ _ _ [a % 256] rfl O2 rfl V2 (by simp; omega) (by simp; omega) ?_; intro v2 w2 ho2 st2; obtain ⟨ao2, cap2, rfl⟩ := own_slice ho2; have HS2 := hidIt (HS1.out.trans (of_alloc st2)); have HO2 := hidIt ho2; clear st2 ho2)
  go_ret
  refine ⟨_, rfl, ?_, HS2.out⟩
  rw [HO.out]
  have := HO2.out
  simpa [bcells] using this
set_option maxRecDepth 8000 in
set_option maxHeartbeats 2000000 in
theorem write_k4 (B : Nat) (v : Value) (l : List Int) (i : IN) (w : World) (hk : kd i.op = 4) (hown : w.ownsRow B 5 1 v l.length (bcells l)) (hlen : l.length + 3 ≤ 140737488355328) (hB : B ≤ w.heap.size) :
    Calls Try.prog 34 #[v, i.val] w fun e w' => ∃ v', e = .returned v' ∧ w'.ownsRow B 5 1 v' (l ++ oneB i).length (bcells (l ++ oneB i)) ∧ Step v w v' w' := by
  obtain ⟨o0, o1⟩ := kd_byte (op := i.op) (by omega)
  have HO : Hid (oneB i = i.op :: [i.a / 256 % 256, i.a % 256]) := by show _ = _; unfold oneB; rw [hk]; rfl
  have gB := hidIt (fun W => branch_any i.op W)
  rw [decide_eq_false (show ¬ kd i.op = 6 by omega)] at gB
  have gS := hidIt (fun W => size_any i.op W)
  rw [show sz i.op = 3 by unfold sz; rw [hk]; rfl] at gS
  have V1 : View ((w.alloc (.cells #[.int .i64 i.pl, .int .i64 i.op, .int .i64 i.a, .int .i64 i.b] 33)).alloc (.cells #[.int .u8 i.op] 5)) (.slice (some ⟨w.heap.size + 1, 0, none⟩) 1 1) [i.op] := by
    have := View.laid (w.alloc (.cells #[.int .i64 i.pl, .int .i64 i.op, .int .i64 i.a, .int .i64 i.b] 33)) [i.op] (fun x hx => by simp at hx; omega) (by unfold maxLen; simp)
    simpa [bcells] using this
  have O1 := own_alloc (own_alloc hown (.cells #[.int .i64 i.pl, .int .i64 i.op, .int .i64 i.a, .int .i64 i.b] 33)) (.cells #[.int .u8 i.op] 5)
  have HBX := hidIt (fun v1 w1 => box_step (i := i) (v1 := v1) (w1 := w1) (.cells #[.int .u8 i.op] 5) hown)
  have hwo : IntKind.u8.wrap i.op = i.op := by rw [wrap_u8]; omega
  have n132 : (i.op == 132) = false := by
    rw [beq_eq_false_iff_ne]; intro e; rw [e] at hk; exact absurd hk (by decide)
  obtain ⟨ao, cap, rfl⟩ := own_slice hown
  generalize oneB i = ob at *
  unfold IN.val
  obtain ⟨pl, op, a, b⟩ := i
  simp only at *
  have hwr : IntKind.u8.wrap a = a % 256 := wrap_u8 a
  have hw8 : IntKind.u8.wrap (a / 256) = a / 256 % 256 := wrap_u8 _
  have hsh : ∀ W : World, (Op.shift .shr .i64 a .u64 8).run Try.prog W = .ok (.int .i64 (a / 256)) W := fun W => shr8 a W
  go_enter Try.func34, Try.ntmps34
  go_wp2_with (at_builtin; refine wpList_append_view rfl _ _ rfl B _ _ _ _ [op] rfl O1 rfl V1 (by simp; omega) (by simp; omega) ?_; intro v1 w1 ho1 st1; obtain ⟨hI, S1⟩ := HBX.out v1 w1 st1; obtain ⟨d0, d1, d2, d3⟩ := hI; obtain ⟨ao1, cap1, rfl⟩ := own_slice ho1; have HS1 := hidIt S1; have HO1 := hidIt ho1; clear st1 S1 ho1 V1 O1 HBX hown)
  go_wp2_with fail
  refine (gB.out _).mono ?_
  rintro e w2 ⟨rfl, hww⟩; cases hww
  go_wp2_with fail
  refine (gS.out _).mono ?_
  rintro e w2 ⟨rfl, hww⟩; cases hww
  go_wp2_with fail
  refine (gS.out _).mono ?_
  rintro e w2 ⟨rfl, hww⟩; cases hww
  have V2 : View (w1.alloc (.cells #[.int .u8 (a / 256 % 256), .int .u8 (a % 256)] 5)) (.slice (some ⟨w1.heap.size, 0, none⟩) 2 2) [a / 256 % 256, a % 256] := View.laid w1 [a / 256 % 256, a % 256] (fun x hx => by simp at hx; omega) (by unfold maxLen; simp)
  have O2 := own_alloc HO1.out (.cells #[.int .u8 (a / 256 % 256), .int .u8 (a % 256)] 5)
  have hB1 : B ≤ w1.heap.size := Nat.le_trans hB HS1.out.grown.size
  go_wp2_with (at_builtin; refine wpList_append_view rfl _ _ rfl B _ _ _ _ [a / 256 % 256, a % 256] rfl O2 rfl V2 (by simp; omega) (by simp; omega) ?_; intro v2 w2 ho2 st2; obtain ⟨ao2, cap2, rfl⟩ := own_slice ho2; have HS2 := hidIt (HS1.out.trans (of_alloc st2)); have HO2 := hidIt ho2; clear st2 ho2)
  go_ret
  refine ⟨_, rfl, ?_, HS2.out⟩
  rw [HO.out]
  have := HO2.out
  simpa [bcells] using this
set_option maxRecDepth 8000 in
set_option maxHeartbeats 2000000 in
theorem write_k5 (B : Nat) (v : Value) (l : List Int) (i : IN) (w : World) (hk : kd i.op = 5) (hown : w.ownsRow B 5 1 v l.length (bcells l)) (hlen : l.length + 3 ≤ 140737488355328) (hB : B ≤ w.heap.size) :
    Calls Try.prog 34 #[v, i.val] w fun e w' => ∃ v', e = .returned v' ∧ w'.ownsRow B 5 1 v' (l ++ oneB i).length (bcells (l ++ oneB i)) ∧ Step v w v' w' := by
  obtain ⟨o0, o1⟩ := kd_byte (op := i.op) (by omega)
  have HO : Hid (oneB i = i.op :: [i.a / 256 % 256, i.a % 256]) := by show _ = _; unfold oneB; rw [hk]; rfl
  have gB := hidIt (fun W => branch_any i.op W)
  rw [decide_eq_false (show ¬ kd i.op = 6 by omega)] at gB
  have gS := hidIt (fun W => size_any i.op W)
  rw [show sz i.op = 3 by unfold sz; rw [hk]; rfl] at gS
  have V1 : View ((w.alloc (.cells #[.int .i64 i.pl, .int .i64 i.op, .int .i64 i.a, .int .i64 i.b] 33)).alloc (.cells #[.int .u8 i.op] 5)) (.slice (some ⟨w.heap.size + 1, 0, none⟩) 1 1) [i.op] := by
    have := View.laid (w.alloc (.cells #[.int .i64 i.pl, .int .i64 i.op, .int .i64 i.a, .int .i64 i.b] 33)) [i.op] (fun x hx => by simp at hx; omega) (by unfold maxLen; simp)
    simpa [bcells] using this
  have O1 := own_alloc (own_alloc hown (.cells #[.int .i64 i.pl, .int .i64 i.op, .int .i64 i.a, .int .i64 i.b] 33)) (.cells #[.int .u8 i.op] 5)
  have HBX := hidIt (fun v1 w1 => box_step (i := i) (v1 := v1) (w1 := w1) (.cells #[.int .u8 i.op] 5) hown)
  have hwo : IntKind.u8.wrap i.op = i.op := by rw [wrap_u8]; omega
  have n132 : (i.op == 132) = false := by
    rw [beq_eq_false_iff_ne]; intro e; rw [e] at hk; exact absurd hk (by decide)
  obtain ⟨ao, cap, rfl⟩ := own_slice hown
  generalize oneB i = ob at *
  unfold IN.val
  obtain ⟨pl, op, a, b⟩ := i
  simp only at *
  have hwr : IntKind.u8.wrap a = a % 256 := wrap_u8 a
  have hw8 : IntKind.u8.wrap (a / 256) = a / 256 % 256 := wrap_u8 _
  have hsh : ∀ W : World, (Op.shift .shr .i64 a .u64 8).run Try.prog W = .ok (.int .i64 (a / 256)) W := fun W => shr8 a W
  go_enter Try.func34, Try.ntmps34
  go_wp2_with (at_builtin; refine wpList_append_view rfl _ _ rfl B _ _ _ _ [op] rfl O1 rfl V1 (by simp; omega) (by simp; omega) ?_; intro v1 w1 ho1 st1; obtain ⟨hI, S1⟩ := HBX.out v1 w1 st1; obtain ⟨d0, d1, d2, d3⟩ := hI; obtain ⟨ao1, cap1, rfl⟩ := own_slice ho1; have HS1 := hidIt S1; have HO1 := hidIt ho1; clear st1 S1 ho1 V1 O1 HBX hown)
  go_wp2_with fail
  refine (gB.out _).mono ?_
  rintro e w2 ⟨rfl, hww⟩; cases hww
  go_wp2_with fail
  refine (gS.out _).mono ?_
  rintro e w2 ⟨rfl, hww⟩; cases hww
  go_wp2_with fail
  refine (gS.out _).mono ?_
  rintro e w2 ⟨rfl, hww⟩; cases hww
  have V2 : View (w1.alloc (.cells #[.int .u8 (a / 256 % 256), .int .u8 (a % 256)] 5)) (.slice (some ⟨w1.heap.size, 0, none⟩) 2 2) [a / 256 % 256, a % 256] := View.laid w1 [a / 256 % 256, a % 256] (fun x hx => by simp at hx; omega) (by unfold maxLen; simp)
  have O2 := own_alloc HO1.out (.cells #[.int .u8 (a / 256 % 256), .int .u8 (a % 256)] 5)
  have hB1 : B ≤ w1.heap.size := Nat.le_trans hB HS1.out.grown.size
  go_wp2_with (at_builtin; refine wpList_append_view rfl _ _ rfl B _ _ _ _ [a / 256 % 256, a % 256] rfl O2 rfl V2 (by simp; omega) (by simp; omega) ?_; intro v2 w2 ho2 st2; obtain ⟨ao2, cap2, rfl⟩ := own_slice ho2; have HS2 := hidIt (HS1.out.trans (of_alloc st2)); have HO2 := hidIt ho2; clear st2 ho2)
  go_ret
  refine ⟨_, rfl, ?_, HS2.out⟩
  rw [HO.out]
  have := HO2.out
  simpa [bcells] using this
set_option maxRecDepth 8000 in
set_option maxHeartbeats 2000000 in
theorem write_k6 (B : Nat) (v : Value) (l : List Int) (i : IN) (w : World) (hk : kd i.op = 6) (hown : w.ownsRow B 5 1 v l.length (bcells l)) (hlen : l.length + 3 ≤ 140737488355328) (hB : B ≤ w.heap.size) :
    Calls Try.prog 34 #[v, i.val] w fun e w' => ∃ v', e = .returned v' ∧ w'.ownsRow B 5 1 v' (l ++ oneB i).length (bcells (l ++ oneB i)) ∧ Step v w v' w' := by
  obtain ⟨o0, o1⟩ := kd_byte (op := i.op) (by omega)
  have HO : Hid (oneB i = i.op :: [(i.a - i.pl) / 256 % 256, (i.a - i.pl) % 256]) := by show _ = _; unfold oneB; rw [hk]; rfl
  have gB := hidIt (fun W => branch_any i.op W)
  rw [decide_eq_true hk] at gB
  have gS := hidIt (fun W => size_any i.op W)
  rw [show sz i.op = 3 by unfold sz; rw [hk]; rfl] at gS
  have V1 : View ((w.alloc (.cells #[.int .i64 i.pl, .int .i64 i.op, .int .i64 i.a, .int .i64 i.b] 33)).alloc (.cells #[.int .u8 i.op] 5)) (.slice (some ⟨w.heap.size + 1, 0, none⟩) 1 1) [i.op] := by
    have := View.laid (w.alloc (.cells #[.int .i64 i.pl, .int .i64 i.op, .int .i64 i.a, .int .i64 i.b] 33)) [i.op] (fun x hx => by simp at hx; omega) (by unfold maxLen; simp)
    simpa [bcells] using this
  have O1 := own_alloc (own_alloc hown (.cells #[.int .i64 i.pl, .int .i64 i.op, .int .i64 i.a, .int .i64 i.b] 33)) (.cells #[.int .u8 i.op] 5)
  have HBX := hidIt (fun v1 w1 => box_step (i := i) (v1 := v1) (w1 := w1) (.cells #[.int .u8 i.op] 5) hown)
  have hwo : IntKind.u8.wrap i.op = i.op := by rw [wrap_u8]; omega
  have n132 : (i.op == 132) = false := by
    rw [beq_eq_false_iff_ne]; intro e; rw [e] at hk; exact absurd hk (by decide)
  obtain ⟨ao, cap, rfl⟩ := own_slice hown
  generalize oneB i = ob at *
  unfold IN.val
  obtain ⟨pl, op, a, b⟩ := i
  simp only at *
  obtain ⟨D, hD⟩ : ∃ D, wrap64 (a - pl) = D := ⟨_, rfl⟩
  have HL : Hid (D % 256 = (a - pl) % 256 ∧ D / 256 % 256 = (a - pl) / 256 % 256) := by show _ ∧ _; rw [← hD]; exact wrap_lo _
  rw [← HL.out.1, ← HL.out.2] at HO
  have hwr : IntKind.u8.wrap D = D % 256 := wrap_u8 D
  have hw8 : IntKind.u8.wrap (D / 256) = D / 256 % 256 := wrap_u8 _
  have hsh : ∀ W : World, (Op.shift .shr .i64 D .u64 8).run Try.prog W = .ok (.int .i64 (D / 256)) W := fun W => shr8 D W
  go_enter Try.func34, Try.ntmps34
  go_wp2_with (at_builtin; refine wpList_append_view rfl _ _ rfl B _ _ _ _ [op] rfl O1 rfl V1 (by simp; omega) (by simp; omega) ?_; intro v1 w1 ho1 st1; obtain ⟨hI, S1⟩ := HBX.out v1 w1 st1; obtain ⟨d0, d1, d2, d3⟩ := hI; obtain ⟨ao1, cap1, rfl⟩ := own_slice ho1; have HS1 := hidIt S1; have HO1 := hidIt ho1; clear st1 S1 ho1 V1 O1 HBX hown)
  go_wp2_with fail
  refine (gB.out _).mono ?_
  rintro e w2 ⟨rfl, hww⟩; cases hww
  go_wp2_with fail
  refine (gS.out _).mono ?_
  rintro e w2 ⟨rfl, hww⟩; cases hww
  go_wp2_with fail
  refine (gS.out _).mono ?_
  rintro e w2 ⟨rfl, hww⟩; cases hww
  have V2 : View (w1.alloc (.cells #[.int .u8 (D / 256 % 256), .int .u8 (D % 256)] 5)) (.slice (some ⟨w1.heap.size, 0, none⟩) 2 2) [D / 256 % 256, D % 256] := View.laid w1 [D / 256 % 256, D % 256] (fun x hx => by simp at hx; omega) (by unfold maxLen; simp)
  have O2 := own_alloc HO1.out (.cells #[.int .u8 (D / 256 % 256), .int .u8 (D % 256)] 5)
  have hB1 : B ≤ w1.heap.size := Nat.le_trans hB HS1.out.grown.size
  go_wp2_with (at_builtin; refine wpList_append_view rfl _ _ rfl B _ _ _ _ [D / 256 % 256, D % 256] rfl O2 rfl V2 (by simp; omega) (by simp; omega) ?_; intro v2 w2 ho2 st2; obtain ⟨ao2, cap2, rfl⟩ := own_slice ho2; have HS2 := hidIt (HS1.out.trans (of_alloc st2)); have HO2 := hidIt ho2; clear st2 ho2)
  go_ret
  refine ⟨_, rfl, ?_, HS2.out⟩
  rw [HO.out]
  have := HO2.out
  simpa [bcells] using this
set_option maxRecDepth 8000 in
set_option maxHeartbeats 2000000 in
theorem write_k7 (B : Nat) (v : Value) (l : List Int) (i : IN) (w : World) (hk : kd i.op = 7) (hown : w.ownsRow B 5 1 v l.length (bcells l)) (hlen : l.length + 3 ≤ 140737488355328) (hB : B ≤ w.heap.size) :
    Calls Try.prog 34 #[v, i.val] w fun e w' => ∃ v', e = .returned v' ∧ w'.ownsRow B 5 1 v' (l ++ oneB i).length (bcells (l ++ oneB i)) ∧ Step v w v' w' := by
  obtain ⟨o0, o1⟩ := kd_byte (op := i.op) (by omega)
  have HO : Hid (oneB i = i.op :: [i.a % 256, i.b % 256]) := by show _ = _; unfold oneB; rw [hk]; rfl
  have gB := hidIt (fun W => branch_any i.op W)
  rw [decide_eq_false (show ¬ kd i.op = 6 by omega)] at gB
  have gS := hidIt (fun W => size_any i.op W)
  rw [show sz i.op = 3 by unfold sz; rw [hk]; rfl] at gS
  have V1 : View ((w.alloc (.cells #[.int .i64 i.pl, .int .i64 i.op, .int .i64 i.a, .int .i64 i.b] 33)).alloc (.cells #[.int .u8 i.op] 5)) (.slice (some ⟨w.heap.size + 1, 0, none⟩) 1 1) [i.op] := by
    have := View.laid (w.alloc (.cells #[.int .i64 i.pl, .int .i64 i.op, .int .i64 i.a, .int .i64 i.b] 33)) [i.op] (fun x hx => by simp at hx; omega) (by unfold maxLen; simp)
    simpa [bcells] using this
  have O1 := own_alloc (own_alloc hown (.cells #[.int .i64 i.pl, .int .i64 i.op, .int .i64 i.a, .int .i64 i.b] 33)) (.cells #[.int .u8 i.op] 5)
  have HBX := hidIt (fun v1 w1 => box_step (i := i) (v1 := v1) (w1 := w1) (.cells #[.int .u8 i.op] 5) hown)
  have hwo : IntKind.u8.wrap i.op = i.op := by rw [wrap_u8]; omega
  have e132 : (i.op == 132) = true := by rw [(kd_seven i.op).1 hk]; rfl
  obtain ⟨ao, cap, rfl⟩ := own_slice hown
  generalize oneB i = ob at *
  unfold IN.val
  obtain ⟨pl, op, a, b⟩ := i
  simp only at *
  have hwr : IntKind.u8.wrap a = a % 256 := wrap_u8 a
  have hwb : IntKind.u8.wrap b = b % 256 := wrap_u8 b
  go_enter Try.func34, Try.ntmps34
  go_wp2_with (at_builtin; refine wpList_append_view rfl _ _ rfl B _ _ _ _ [op] rfl O1 rfl V1 (by simp; omega) (by simp; omega) ?_; intro v1 w1 ho1 st1; obtain ⟨hI, S1⟩ := HBX.out v1 w1 st1; obtain ⟨d0, d1, d2, d3⟩ := hI; obtain ⟨ao1, cap1, rfl⟩ := own_slice ho1; have HS1 := hidIt S1; have HO1 := hidIt ho1; clear st1 S1 ho1 V1 O1 HBX hown)
  go_wp2_with fail
  refine (gB.out _).mono ?_
  rintro e w2 ⟨rfl, hww⟩; cases hww
  have V2 : View (w1.alloc (.cells #[.int .u8 (a % 256), .int .u8 (b % 256)] 5)) (.slice (some ⟨w1.heap.size, 0, none⟩) 2 2) [a % 256, b % 256] := View.laid w1 [a % 256, b % 256] (fun x hx => by simp at hx; omega) (by unfold maxLen; simp)
  have O2 := own_alloc HO1.out (.cells #[.int .u8 (a % 256), .int .u8 (b % 256)] 5)
  have hB1 : B ≤ w1.heap.size := Nat.le_trans hB HS1.out.grown.size
  go_wp2_with (at_builtin; refine wpList_append_view rfl _ _ rfl B _ _ _ _ [a % 256, b % 256] rfl O2 rfl V2 (by simp; omega) (by simp; omega) ?_; intro v2 w2 ho2 st2; obtain ⟨ao2, cap2, rfl⟩ := own_slice ho2; have HS2 := hidIt (HS1.out.trans (of_alloc st2)); have HO2 := hidIt ho2; clear st2 ho2)
  go_ret
  refine ⟨_, rfl, ?_, HS2.out⟩
  rw [HO.out]
  have := HO2.out
  simpa [bcells] using this
/-- write appends the instruction's bytes. -/
theorem write_any (B : Nat) (v : Value) (l : List Int) (i : IN) (w : World) (hk : kd i.op ≠ 0) (hown : w.ownsRow B 5 1 v l.length (bcells l)) (hlen : l.length + 3 ≤ 140737488355328) (hB : B ≤ w.heap.size) :
    Calls Try.prog 34 #[v, i.val] w fun e w' => ∃ v', e = .returned v' ∧ w'.ownsRow B 5 1 v' (l ++ oneB i).length (bcells (l ++ oneB i)) ∧ Step v w v' w' := by
  rcases kd_cases i.op with e | e | e | e | e | e | e | e
  · exact absurd e hk
  · exact write_k1 B v l i w e hown hlen hB
  · exact write_k2 B v l i w e hown hlen hB
  · exact write_k3 B v l i w e hown hlen hB
  · exact write_k4 B v l i w e hown hlen hB
  · exact write_k5 B v l i w e hown hlen hB
  · exact write_k6 B v l i w e hown hlen hB
  · exact write_k7 B v l i w e hown hlen hB
end Go.Proofs.Ytcmneinhcfejhaa
