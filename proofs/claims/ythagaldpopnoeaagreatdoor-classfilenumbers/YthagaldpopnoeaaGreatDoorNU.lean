/- Numbers: walked. -/
import Derived.Test.YthagaldpopnoeaaGreatDoorRE
import Derived.Test.YthagaldpopnoeaaGreatDoorMN
namespace Go.Proofs.YthagaldpopnoeaaGreatDoor
open Go.RowKit D
/-! Closed classes. -/
def mN : MD := ⟨⟨#[109]⟩, ⟨#[40, 41, 86]⟩, false, false, 0, 0, [], [], []⟩
def nN : MD := ⟨⟨#[109]⟩, ⟨#[40, 41, 86]⟩, false, true, 0, 0, [1], [], []⟩
def zF : FD := ⟨⟨#[]⟩, ⟨#[]⟩, false⟩
def k1N : KD := ⟨⟨#[49]⟩, ⟨#[]⟩, [], [], []⟩
theorem right_1 : rightZ k1N = 13 := by first | rfl | decide | kernel_rfl
theorem right_mm : rightZ (kM [mN, mN]) = 23 := by rw [right_M _ (by decide)]; first | rfl | decide | kernel_rfl
theorem right_n : rightZ (kM [nN]) = 12 := by rw [right_M _ (by decide)]; first | rfl | decide | kernel_rfl
theorem right_17 : rightZ (kC (List.replicate 17 zF)) = 4 := right_C4 _ (by simp)
def mcs : List Value := [.string ⟨#[109]⟩, .string ⟨#[40, 41, 86]⟩, .bool false, .bool false, .int .i64 0, .int .i64 0, .slice none 0 0, .slice none 0 0, .slice none 0 0]
theorem slot_q : slotB ⟨#[63]⟩ = true ∧ slotB ⟨#[48]⟩ = true ∧ slotB ⟨#[73]⟩ = true ∧ slotB ⟨#[91, 73]⟩ = true ∧ slotB ⟨#[]⟩ = false ∧ slotB ⟨#[73, 73]⟩ = false := by
  unfold slotB
  simp only [Lib.toList_data]
  refine ⟨?_, ?_, ?_, ?_, ?_, ?_⟩ <;> first | rfl | decide | kernel_rfl
theorem make_bytes (n : Nat) (hn : n ≤ 140737488355328) : ∃ cs : Array Value, cs.size = n ∧ ∀ wx : World, (Instr.makeSlice 22 (.int .i64 (n : Int)) (.int .i64 (n : Int))).run Tryz.prog wx = .ok (.slice (some ⟨wx.heap.size, 0, none⟩) n n) (wx.alloc (.cells cs 5)) := by
  obtain ⟨i0, hi, hz0, hz1, hz2⟩ := info_parts Tryz.info5
  refine ⟨_, size_madeCells (Value.int .u8 0).cells (n * 1) |>.trans (by omega), fun wx => ?_⟩
  have := run_make (P := Tryz.prog) wx 22 5 i0 (.int .u8 0) Tryz.underlying22 hi hz0 .i64 .i64 n n (by omega) (Int.le_refl _) (by rw [hz2]; omega) (by omega)
  rw [hz1] at this
  simpa only [Int.toNat_natCast] using this
theorem make_long : ∃ (N : Nat) (cs : Array Value), 32768 < N ∧ ∀ wx : World, (Instr.makeSlice 22 (.int .i64 32769) (.int .i64 32769)).run Tryz.prog wx = .ok (.slice (some ⟨wx.heap.size, 0, none⟩) N N) (wx.alloc (.cells cs 5)) := by
  obtain ⟨cs, _, h⟩ := make_bytes 32769 (by omega)
  exact ⟨32769, cs, by omega, h⟩
theorem make_fields : ∃ cs : Array Value, cs.toList = (List.replicate 17 zF).flatMap frow ∧ ∀ wx : World, (Instr.makeSlice 30 (.int .i64 17) (.int .i64 17)).run Tryz.prog wx = .ok (.slice (some ⟨wx.heap.size, 0, none⟩) 17 17) (wx.alloc (.cells cs 63)) := by
  obtain ⟨i0, hi, hz0, hz1, hz2⟩ := info_parts Tryz.info63
  refine ⟨madeCells (Value.agg #[.string ⟨#[]⟩, .string ⟨#[]⟩, .bool false]).cells (17 * 3), by first | rfl | kernel_rfl, fun wx => ?_⟩
  have := run_make (P := Tryz.prog) wx 30 63 i0 (.agg #[.string ⟨#[]⟩, .string ⟨#[]⟩, .bool false]) Tryz.underlying30 hi hz0 .i64 .i64 17 17 (by decide) (Int.le_refl _) (by rw [hz2]; decide) (by decide)
  rw [hz1] at this
  exact this
theorem r1_any (W : World) : Calls Tryz.prog 11 #[.agg #[.string ⟨#[49]⟩, .string ⟨#[]⟩, .slice none 0 0, .slice none 0 0, .slice none 0 0]] W fun e w' => e = .returned (.int .i64 13) ∧ Below W.heap.size W w' := by
  have := right_class k1N _ W ⟨none, 0, none, 0, none, 0, rfl, by decide, by decide, LAt.nil _ _ _ _ _ (Nat.zero_le _), LAt.nil _ _ _ _ _ (Nat.zero_le _), LAt.nil _ _ _ _ _ (Nat.zero_le _)⟩
  rw [right_1] at this
  exact this
theorem r2_any (W : World) : Calls Tryz.prog 11 #[.agg #[.string ⟨#[65]⟩, .string ⟨#[]⟩, .slice none 0 0, .slice none 0 0, .slice (some ⟨W.heap.size, 0, none⟩) 2 2]] (W.alloc (.cells (mcs ++ mcs).toArray 26)) fun e w' => e = .returned (.int .i64 23) ∧ Below (W.alloc (.cells (mcs ++ mcs).toArray 26)).heap.size (W.alloc (.cells (mcs ++ mcs).toArray 26)) w' := by
  have hl : LAt 9 MethR (W.alloc (.cells (mcs ++ mcs).toArray 26)) (some ⟨W.heap.size, 0, none⟩) 2 [mN, mN] :=
    LAt.of_block (T := 26) mrow0_len (heap_alloc_new _ _) (by rfl) (Nat.le_refl _) (by unfold maxLen; omega) (fun x hx => by
      simp at hx; subst hx; exact mrow0_R (by decide) (by decide) rfl rfl rfl)
  have := right_class (kM [mN, mN]) _ _ ⟨none, 0, none, 0, _, _, rfl, by simp [kM, ByteArray.size], by simp [kM, ByteArray.size], LAt.nil _ _ _ _ _ (Nat.zero_le _), LAt.nil _ _ _ _ _ (Nat.zero_le _), hl⟩
  rw [right_mm] at this
  exact this
theorem r3_any (W : World) (b : Nat) (hb : W.heap[b]? = some (.cells #[.int .u8 1] 5)) : Calls Tryz.prog 11 #[.agg #[.string ⟨#[65]⟩, .string ⟨#[]⟩, .slice none 0 0, .slice none 0 0, .slice (some ⟨W.heap.size, 0, none⟩) 1 1]] (W.alloc (.cells #[.string ⟨#[109]⟩, .string ⟨#[40, 41, 86]⟩, .bool false, .bool true, .int .i64 0, .int .i64 0, .slice (some ⟨b, 0, none⟩) 1 1, .slice none 0 0, .slice none 0 0] 26))
    fun e w' => e = .returned (.int .i64 12) ∧ Below (W.alloc (.cells #[.string ⟨#[109]⟩, .string ⟨#[40, 41, 86]⟩, .bool false, .bool true, .int .i64 0, .int .i64 0, .slice (some ⟨b, 0, none⟩) 1 1, .slice none 0 0, .slice none 0 0] 26)).heap.size (W.alloc (.cells #[.string ⟨#[109]⟩, .string ⟨#[40, 41, 86]⟩, .bool false, .bool true, .int .i64 0, .int .i64 0, .slice (some ⟨b, 0, none⟩) 1 1, .slice none 0 0, .slice none 0 0] 26)) w' := by
  have hlt := (Array.getElem?_eq_some_iff.1 hb).1
  have hb' : (W.alloc (.cells #[.string ⟨#[109]⟩, .string ⟨#[40, 41, 86]⟩, .bool false, .bool true, .int .i64 0, .int .i64 0, .slice (some ⟨b, 0, none⟩) 1 1, .slice none 0 0, .slice none 0 0] 26)).heap[b]? = some (.cells #[.int .u8 1] 5) := (heap_alloc_old W _ hlt).trans hb
  have hV : View (W.alloc (.cells #[.string ⟨#[109]⟩, .string ⟨#[40, 41, 86]⟩, .bool false, .bool true, .int .i64 0, .int .i64 0, .slice (some ⟨b, 0, none⟩) 1 1, .slice none 0 0, .slice none 0 0] 26)) (.slice (some ⟨b, 0, none⟩) 1 1) [1] :=
    View.of_own (B := b) (l := [1]) ⟨rfl, .inr ⟨b, 1, _, rfl, Nat.le_refl _, hb', Nat.le_refl _, by unfold maxLen; omega, rfl, rfl⟩⟩ (by intro x hx; simp at hx; omega)
  have hl : LAt 9 MethR (W.alloc (.cells #[.string ⟨#[109]⟩, .string ⟨#[40, 41, 86]⟩, .bool false, .bool true, .int .i64 0, .int .i64 0, .slice (some ⟨b, 0, none⟩) 1 1, .slice none 0 0, .slice none 0 0] 26)) (some ⟨W.heap.size, 0, none⟩) 1 [nN] :=
    LAt.of_block (T := 26) (row := fun _ => [.string ⟨#[109]⟩, .string ⟨#[40, 41, 86]⟩, .bool false, .bool true, .int .i64 0, .int .i64 0, .slice (some ⟨b, 0, none⟩) 1 1, .slice none 0 0, .slice none 0 0]) (fun _ => rfl) (heap_alloc_new _ _) (by rfl) (Nat.le_refl _) (by unfold maxLen; omega) (fun x hx => by
      simp at hx; subst hx
      exact ⟨_, _, none, 0, none, 0, rfl, by decide, by decide, hV, LAt.nil _ _ _ _ _ (Nat.zero_le _), LAt.nil _ _ _ _ _ (Nat.zero_le _)⟩)
  have := right_class (kM [nN]) _ _ ⟨none, 0, none, 0, _, _, rfl, by simp [kM, ByteArray.size], by simp [kM, ByteArray.size], LAt.nil _ _ _ _ _ (Nat.zero_le _), LAt.nil _ _ _ _ _ (Nat.zero_le _), hl⟩
  rw [right_n] at this
  exact this
theorem r4_any (W : World) (cs : Array Value) (hcs : cs.toList = (List.replicate 17 zF).flatMap frow) : Calls Tryz.prog 11 #[.agg #[.string ⟨#[65]⟩, .string ⟨#[]⟩, .slice none 0 0, .slice (some ⟨W.heap.size, 0, none⟩) 17 17, .slice none 0 0]] (W.alloc (.cells cs 63)) fun e w' => e = .returned (.int .i64 4) ∧ Below (W.alloc (.cells cs 63)).heap.size (W.alloc (.cells cs 63)) w' := by
  have hl : LAt 3 FieldR (W.alloc (.cells cs 63)) (some ⟨W.heap.size, 0, none⟩) 17 (List.replicate 17 zF) :=
    LAt.of_block (T := 63) frow_len (heap_alloc_new _ _) (by rw [List.length_replicate, hcs, List.take_of_length_le (by rw [flatR_len frow 3 frow_len]; simp)]) (by simp) (by unfold maxLen; omega) (fun x hx => by
      have := List.eq_of_mem_replicate hx; subst this; exact frow_R (by decide) (by decide))
  have := right_class (kC (List.replicate 17 zF)) _ _ ⟨none, 0, _, 17, none, 0, rfl, by simp [kC, ByteArray.size], by simp [kC, ByteArray.size], LAt.nil _ _ _ _ _ (Nat.zero_le _), hl, LAt.nil _ _ _ _ _ (Nat.zero_le _)⟩
  rw [right_17] at this
  exact this
def l16 : List Int := [202, 254, 186, 190, 0, 1, 0, 0, 0, 1, 65, 0, 0, 0, 0, 0]
theorem decode_16 (v : Value) (w : World) (hv : View w v l16) : Calls Tryz.prog 10 #[v] w fun e w' => e = .returned (.tuple #[zeroK, .int .i64 11, .int .i64 15]) ∧ Below w.heap.size w w' :=
  decode_refused v l16 6 8 11 13 14 15 0 0 0 0 0 0 11 15 ⟨#[65]⟩ ⟨#[]⟩ w hv (by decide) rfl (by first | rfl | decide | kernel_rfl) (by first | rfl | decide | kernel_rfl) (by first | rfl | decide | kernel_rfl) (by first | rfl | decide | kernel_rfl) (.inr (by first | rfl | decide)) (.inr (by first | rfl | decide)) (by first | rfl | decide) (by decide)

set_option maxRecDepth 8000 in
set_option maxHeartbeats 4000000 in
theorem numbers_any (w : World) (hT : Tabs w) (h2 : 2 ≤ w.heap.size) : Calls Tryz.prog 3 #[] w fun e w' => e = .returned (.bool true) ∧ Below w.heap.size w w' := by
  obtain ⟨i0, hi, hz0, hz1, hz2⟩ := info_parts Tryz.info5
  have gE := fun W => D.hidIt (rencode_A W)
  unfold vA at gE
  have B0 := D.hidIt (next (balloc w (.cells mcs.toArray 26)) (next (balloc (w.alloc (.cells mcs.toArray 26)) (.cells #[.string ⟨#[109]⟩, .string ⟨#[40, 41, 86]⟩, .bool false, .bool true, .int .i64 0, .int .i64 0, .slice (some ⟨w.heap.size + 1 + 1, 0, none⟩) 1 1, .slice none 0 0, .slice none 0 0] 26)) (balloc _ (.cells #[.int .u8 1] 5))))
  have X0 : Hid ((((w.alloc (.cells mcs.toArray 26)).alloc (.cells #[.string ⟨#[109]⟩, .string ⟨#[40, 41, 86]⟩, .bool false, .bool true, .int .i64 0, .int .i64 0, .slice (some ⟨w.heap.size + 1 + 1, 0, none⟩) 1 1, .slice none 0 0, .slice none 0 0] 26)).alloc (.cells #[.int .u8 1] 5)).heap[w.heap.size]? = some (.cells mcs.toArray 26)) := by
    show _ = _
    rw [Below.heap_alloc _ _ _ (by simp; omega), Below.heap_alloc _ _ _ (by simp)]; exact heap_alloc_new _ _
  have Y0 : Hid ((((w.alloc (.cells mcs.toArray 26)).alloc (.cells #[.string ⟨#[109]⟩, .string ⟨#[40, 41, 86]⟩, .bool false, .bool true, .int .i64 0, .int .i64 0, .slice (some ⟨w.heap.size + 1 + 1, 0, none⟩) 1 1, .slice none 0 0, .slice none 0 0] 26)).alloc (.cells #[.int .u8 1] 5)).heap[w.heap.size + 1]? = some (.cells #[.string ⟨#[109]⟩, .string ⟨#[40, 41, 86]⟩, .bool false, .bool true, .int .i64 0, .int .i64 0, .slice (some ⟨w.heap.size + 1 + 1, 0, none⟩) 1 1, .slice none 0 0, .slice none 0 0] 26)) := by
    show _ = _
    rw [Below.heap_alloc _ _ _ (by simp)]
    have := heap_alloc_new (w.alloc (.cells mcs.toArray 26)) (.cells #[.string ⟨#[109]⟩, .string ⟨#[40, 41, 86]⟩, .bool false, .bool true, .int .i64 0, .int .i64 0, .slice (some ⟨w.heap.size + 1 + 1, 0, none⟩) 1 1, .slice none 0 0, .slice none 0 0] 26)
    simpa using this
  have C0 : Hid ((((w.alloc (.cells mcs.toArray 26)).alloc (.cells #[.string ⟨#[109]⟩, .string ⟨#[40, 41, 86]⟩, .bool false, .bool true, .int .i64 0, .int .i64 0, .slice (some ⟨w.heap.size + 1 + 1, 0, none⟩) 1 1, .slice none 0 0, .slice none 0 0] 26)).alloc (.cells #[.int .u8 1] 5)).heap[w.heap.size + 1 + 1]? = some (.cells #[.int .u8 1] 5)) := by
    show _ = _
    have := heap_alloc_new ((w.alloc (.cells mcs.toArray 26)).alloc (.cells #[.string ⟨#[109]⟩, .string ⟨#[40, 41, 86]⟩, .bool false, .bool true, .int .i64 0, .int .i64 0, .slice (some ⟨w.heap.size + 1 + 1, 0, none⟩) 1 1, .slice none 0 0, .slice none 0 0] 26)) (.cells #[.int .u8 1] 5)
    simpa using this
  go_enter Tryz.func3, Tryz.ntmps3
  go_wp2_with fail
  refine (gE _).out.mono ?_
  rintro e w1 ⟨b1, ao, c, rfl, V1⟩
  have B1 := D.hidIt (next B0.out b1)
  have X1 := D.hidIt ((b1.block _ (by simp; omega)).trans X0.out)
  have Y1 := D.hidIt ((b1.block _ (by simp)).trans Y0.out)
  have C1 := D.hidIt ((b1.block _ (by simp)).trans C0.out)
  clear B0 X0 Y0 C0 gE b1
  have hown0 : (w1.alloc (.cells #[] 5)).ownsRow w1.heap.size 5 1 (.slice (some ⟨w1.heap.size, 0, none⟩) 0 0) 0 [] := World.ownsRow_made w1 #[] 0 (Nat.le_refl _) (by unfold maxLen; omega) rfl
  have hv0 : View (w1.alloc (.cells #[] 5)) (.slice ao 15 c) [202, 254, 186, 190, 0, 1, 0, 0, 0, 1, 65, 0, 0, 0, 0] := V1.below (balloc _ _)
  have z1 := B1.out.size
  go_wp2_with (first
    | (at_builtin; refine wpList_append_view rfl _ _ rfl w1.heap.size (.slice (some ⟨w1.heap.size, 0, none⟩) 0 0) _ _ _ _ rfl hown0 rfl hv0 (by decide) (by simp) ?_; intro v2 w2 o2' st2; have o2 : w2.ownsRow w1.heap.size 5 1 v2 15 (bcells [202, 254, 186, 190, 0, 1, 0, 0, 0, 1, 65, 0, 0, 0, 0]) := o2'; obtain ⟨ao2, c2, rfl⟩ := own_slice o2; have z2 := st2.grown.size; simp at z2)
    | (at_builtin; refine wpList_append_own_at _ rfl _ _ 22 rfl w1.heap.size 5 i0 (.int .u8 0) 1 1 Tryz.underlying22 hi hz0 hz1 hz2 rfl (by decide) _ _ _ rfl (o2.alloc _) _ 1 1 [_] rfl rfl (cell_one_new _ _ _) (by intro u hu; simp at hu; subst hu; rfl) (by unfold maxLen; omega) (by omega) (by simp; omega) ?_; intro v3 w3 o3 g3 _ _; obtain ⟨ao3, c3, rfl⟩ := own_slice o3))
  have hb1 : Below w1.heap.size w1 w2 := (balloc w1 (.cells #[] 5)).trans (st2.below (by simp) (fun k h => (hown0.lt k h).1))
  have hb3 : Below w1.heap.size w1 w3 := (hb1.alloc (by omega) _).grown g3 (by simp; omega) (fun k h => (o2.lt k h).1)
  have V3 : View w3 (.slice ao3 16 c3) l16 := View.of_own (l := l16) o3 (by intro x hx; simp [l16] at hx; omega)
  have gD := D.hidIt (decode_16 _ w3 V3)
  unfold zeroK at gD
  have B3 := D.hidIt (next B1.out hb3)
  have X3 := D.hidIt ((hb3.block _ (Array.getElem?_eq_some_iff.1 X1.out).1).trans X1.out)
  have Y3 := D.hidIt ((hb3.block _ (Array.getElem?_eq_some_iff.1 Y1.out).1).trans Y1.out)
  have C3 := D.hidIt ((hb3.block _ (Array.getElem?_eq_some_iff.1 C1.out).1).trans C1.out)
  clear hb1 hb3 V3 o3 g3 o2 o2' st2 hown0 hv0 V1 B1 X1 Y1 C1 z1 z2
  refine gD.out.mono ?_
  rintro e w4 ⟨rfl, b4⟩
  have B4 := D.hidIt (next B3.out b4)
  have X4 := D.hidIt ((b4.block _ (Array.getElem?_eq_some_iff.1 X3.out).1).trans X3.out)
  have Y4 := D.hidIt ((b4.block _ (Array.getElem?_eq_some_iff.1 Y3.out).1).trans Y3.out)
  have C4 := D.hidIt ((b4.block _ (Array.getElem?_eq_some_iff.1 C3.out).1).trans C3.out)
  clear B3 X3 Y3 C3 b4 gD
  obtain ⟨N, csb, hN, mkb⟩ := make_long
  have gL := fun (ao : Option Addr) (W : World) => D.hidIt (decode_long ao N N W hN)
  unfold zeroK at gL
  clear hN
  go_wp2_with fail
  refine (gL _ _).out.mono ?_
  rintro e w5 ⟨rfl, b5'⟩
  have b5 := next (balloc w4 _) (next (balloc _ _) b5')
  have B5 := D.hidIt (next B4.out b5)
  have X5 := D.hidIt ((b5.block _ (Array.getElem?_eq_some_iff.1 X4.out).1).trans X4.out)
  have Y5 := D.hidIt ((b5.block _ (Array.getElem?_eq_some_iff.1 Y4.out).1).trans Y4.out)
  have C5 := D.hidIt ((b5.block _ (Array.getElem?_eq_some_iff.1 C4.out).1).trans C4.out)
  clear B4 X4 Y4 C4 b5 b5' gL mkb
  have g1 := fun W => D.hidIt (r1_any W)
  go_wp2_with fail
  refine (g1 _).out.mono ?_
  rintro e w6 ⟨rfl, b6'⟩
  have b6 := next (balloc w5 _) b6'
  have B6 := D.hidIt (next B5.out b6)
  have X6 := D.hidIt ((b6.block _ (Array.getElem?_eq_some_iff.1 X5.out).1).trans X5.out)
  have Y6 := D.hidIt ((b6.block _ (Array.getElem?_eq_some_iff.1 Y5.out).1).trans Y5.out)
  have C6 := D.hidIt ((b6.block _ (Array.getElem?_eq_some_iff.1 C5.out).1).trans C5.out)
  clear B5 X5 Y5 C5 b6 b6' g1
  unfold mcs at X6
  have x0 := cell_row X6.out 0 rfl
  have x1 := cell_row X6.out 1 rfl
  have x2 := cell_row X6.out 2 rfl
  have x3 := cell_row X6.out 3 rfl
  have x4 := cell_row X6.out 4 rfl
  have x5 := cell_row X6.out 5 rfl
  have x6 := cell_row X6.out 6 rfl
  have x7 := cell_row X6.out 7 rfl
  have x8 := cell_row X6.out 8 rfl
  have g2 := D.hidIt (r2_any w6)
  simp only [mcs, List.cons_append, List.nil_append] at g2
  go_wp2_with fail
  refine g2.out.mono ?_
  rintro e w7 ⟨rfl, b7'⟩
  have b7 := next (balloc w6 _) b7'
  have B7 := D.hidIt (next B6.out b7)
  have Y7 := D.hidIt ((b7.block _ (Array.getElem?_eq_some_iff.1 Y6.out).1).trans Y6.out)
  have C7 := D.hidIt ((b7.block _ (Array.getElem?_eq_some_iff.1 C6.out).1).trans C6.out)
  clear B6 X6 Y6 C6 b7 b7' g2 x0 x1 x2 x3 x4 x5 x6 x7 x8
  have x0 := cell_row Y7.out 0 rfl
  have x1 := cell_row Y7.out 1 rfl
  have x2 := cell_row Y7.out 2 rfl
  have x3 := cell_row Y7.out 3 rfl
  have x4 := cell_row Y7.out 4 rfl
  have x5 := cell_row Y7.out 5 rfl
  have x6 := cell_row Y7.out 6 rfl
  have x7 := cell_row Y7.out 7 rfl
  have x8 := cell_row Y7.out 8 rfl
  have g3 := D.hidIt (r3_any w7 (w.heap.size + 1 + 1) C7.out)
  go_wp2_with fail
  refine g3.out.mono ?_
  rintro e w8 ⟨rfl, b8'⟩
  have b8 := next (balloc w7 _) b8'
  have B8 := D.hidIt (next B7.out b8)
  clear B7 Y7 C7 b8 b8' g3 x0 x1 x2 x3 x4 x5 x6 x7 x8
  obtain ⟨csf, hcf, mkf⟩ := make_fields
  have g4 := D.hidIt (r4_any w8 csf hcf)
  clear hcf
  go_wp2_with fail
  refine g4.out.mono ?_
  rintro e w9 ⟨rfl, b9'⟩
  have b9 := next (balloc w8 _) b9'
  have B9 := D.hidIt (next B8.out b9)
  clear B8 b9 b9' g4 mkf
  obtain ⟨q1, q2, q3, q4, q5, q6⟩ := slot_q
  have s1 := D.hidIt (slot_any ⟨#[63]⟩ w9 (by decide))
  have s2 := D.hidIt (slot_any ⟨#[48]⟩ w9 (by decide))
  have s3 := D.hidIt (slot_any ⟨#[73]⟩ w9 (by decide))
  have s4 := D.hidIt (slot_any ⟨#[91, 73]⟩ w9 (by decide))
  have s5 := D.hidIt (slot_any ⟨#[]⟩ w9 (by decide))
  have s6 := D.hidIt (slot_any ⟨#[73, 73]⟩ w9 (by decide))
  rw [q1] at s1; rw [q2] at s2; rw [q3] at s3; rw [q4] at s4; rw [q5] at s5; rw [q6] at s6
  clear q1 q2 q3 q4 q5 q6
  have gK := D.hidIt (known_any w9 (hT.below B9.out) (Nat.le_trans h2 B9.out.size))
  go_wp2_with fail
  refine s1.out.mono ?_
  rintro e w' ⟨rfl, hww⟩; cases hww
  go_wp2_with fail
  refine s2.out.mono ?_
  rintro e w' ⟨rfl, hww⟩; cases hww
  go_wp2_with fail
  refine s3.out.mono ?_
  rintro e w' ⟨rfl, hww⟩; cases hww
  go_wp2_with fail
  refine s4.out.mono ?_
  rintro e w' ⟨rfl, hww⟩; cases hww
  go_wp2_with fail
  refine s5.out.mono ?_
  rintro e w' ⟨rfl, hww⟩; cases hww
  go_wp2_with fail
  refine s6.out.mono ?_
  rintro e w' ⟨rfl, hww⟩; cases hww
  go_wp2_with fail
  refine gK.out.mono ?_
  rintro e w10 ⟨rfl, b10⟩
  have B10 := D.hidIt (next B9.out b10)
  clear b10
  go_wp2
  go_ret
  exact ⟨rfl, B10.out⟩
end Go.Proofs.YthagaldpopnoeaaGreatDoor
