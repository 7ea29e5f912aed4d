/- The document's own New. -/
import Derived.Test.YtlkhfpbniogllaaKNa
namespace Go.Proofs.Ytlkhfpbniogllaa.K
open Go.RowKit Q Q.D

def putK (w : World) (v : Value) : World := w.alloc (.cells #[v] 63)
theorem GvI.box {w W : World} {v v' : Value} {ks : List KD} {rows : Nat → List Value} (I : GvI (putK w v) W v' ks rows) : Blk W w.heap.size #[v] 63 := (I.B.block _ (by simp [putK])).trans (Blk.new w _ _)
theorem GvI.bx {w W : World} {v v' : Value} {ks : List KD} {rows : Nat → List Value} (I : GvI (putK w v) W v' ks rows) : W.cell? ⟨w.heap.size, 0, none⟩ = some v := (I.box.cell 0).trans rfl
theorem GvI.restore {w W : World} {v v' : Value} {ks : List KD} {rows : Nat → List Value} (I : GvI (putK w v) W v' ks rows) : GvI (putK w v') (W.setCell ⟨w.heap.size, 0, none⟩ v') v' ks rows := by
  have hb := I.box
  have hsz : (putK w v').heap.size = (putK w v).heap.size := by simp [putK]
  have hs : (putK w v).heap.size = w.heap.size + 1 := by simp [putK]
  refine ⟨⟨I.B.os, I.B.tape, I.B.output, by have := I.B.size; simp; omega, fun b hb' => ?_⟩, ?_, I.k, fun j x hx => ?_⟩
  · by_cases e : b = w.heap.size
    · subst e; exact (show Blk _ _ #[v'] _ from hb.set 0 v').trans (Blk.new w _ _).symm
    · rw [heap_setCell_other W ⟨w.heap.size, 0, none⟩ b _ e, I.B.block b (by omega)]
      unfold putK
      rw [Below.heap_alloc _ _ _ (by omega), Below.heap_alloc _ _ _ (by omega)]
  · rw [hsz]; exact ownsRow_setCell_other (a := ⟨w.heap.size, 0, none⟩) I.o (own_not I.o hb (by decide)) v'
  · rw [hsz]; exact ClassV.ext (newBut_set (Or.inl (by omega)) 0 v') (I.r j x hx)
theorem cls1 {B gT : Nat} {w X : World} {cs : Array Value} {t : TypeId} (h : Below B w X) (K : Blk X gT cs t) (f : Nat → Array Value) (hB : B ≤ X.heap.size) :
    Blk (X.alloc (.cells (f gT) 33)) X.heap.size (f gT) 33 ∧ Below B w (X.alloc (.cells (f gT) 33)) ∧ Blk (X.alloc (.cells (f gT) 33)) gT cs t :=
  ⟨Blk.new X _ _, h.alloc hB _, K.alloc _⟩
theorem newOf {W : World} {B : Nat} {e : TypeId} {k : Nat} {v : Value} {n : Nat} {xs : List Value} (o : W.ownsRow B e k v n xs) {g : Nat} {cs : Array Value} {t : TypeId} (hb : Blk W g cs t) (ht : t ≠ e) (hg : B ≤ g) : newBut B v g = true := by
  simp only [newBut, Bool.and_eq_true, decide_eq_true_eq, bne_iff_ne]
  exact ⟨hg, own_not o hb ht⟩
theorem GvI.push1 {w W W' : World} {v v' : Value} {ks : List KD} {rows : Nat → List Value} {N : Nat} (I : GvI w W v ks rows) (hlen : ks.length = N) (k : KD) (row : Array Value)
    (ho : W'.ownsRow w.heap.size 33 5 v' (N + 1) (flatR rows N ++ row.toList)) (hg : W.grownBy W' v.ownBlock) (hat : v'.ownBlock = v.ownBlock ∨ v'.ownBlock = some W.heap.size)
    (hsz : row.size = 5) (hc : ClassV (seen (newBut w.heap.size v) W) (.agg row) k) : ∃ rows', GvI w W' v' (ks ++ [k]) rows' := by
  have hf : flatR (fun _ => row.toList) [k].length = row.toList := by
    rw [show [k].length = 0 + 1 from rfl, flatR_succ]; rfl
  exact ⟨_, I.push [k] (fun _ => row.toList) (by rw [hlen, hf]; exact ho) hg hat (fun _ _ => by simpa using hsz) (fun j x hx => by
    match j, hx with
    | 0, hx => cases hx; exact hc
    | j + 1, hx => simp at hx)⟩

theorem thrC {W : World} {gT gq : Nat} {X : Nat → Bool} (K4 : Blk W gT #[.string ⟨#[114, 117, 110]⟩, .string ⟨#[40, 41, 86]⟩, .bool false, .bool false, .int .i64 0, .int .i64 1, .slice (some ⟨gq, 0, none⟩) 1 1, .slice none 0 0, .slice none 0 0, .string ⟨#[115, 116, 97, 114, 116]⟩, .string ⟨#[40, 41, 86]⟩, .bool false, .bool true, .int .i64 0, .int .i64 0, .slice none 0 0, .slice none 0 0, .slice none 0 0, .string ⟨#[106, 111, 105, 110]⟩, .string ⟨#[40, 41, 86]⟩, .bool false, .bool true, .int .i64 0, .int .i64 0, .slice none 0 0, .slice none 0 0, .slice none 0 0] 43) (h4 : X gT = true) (QB : Blk W gq #[.int .u8 177] 5) (hq : X gq = true) : ClassV (seen X W) (.agg #[.string ⟨#[84, 104, 114, 101, 97, 100]⟩, .string ⟨#[79, 98, 106, 101, 99, 116]⟩, .slice none 0 0, .slice none 0 0, .slice (some ⟨gT, 0, none⟩) 3 3]) threadK := by
  refine ⟨none, 0, none, 0, some ⟨gT, 0, none⟩, 3, rfl, by decide, by decide, LAt.nil _ _ _ _ _ (by unfold maxLen; omega), LAt.nil _ _ _ _ _ (by unfold maxLen; omega), ?_⟩
  refine block_meths K4 h4 3 3 (Nat.le_refl _) (by unfold maxLen; omega) _ rfl (rowsT gq) (ix9 rfl (fun j hj => by match j, hj with | 0, _ => rfl | 1, _ => rfl | 2, _ => rfl)) (fun j x hx => ?_)
  match j, hx with
  | 0, hx => cases hx; exact run_meth QB hq
  | 1, hx => cases hx; exact nat_meth _ _ _ _ (by decide) (by decide)
  | 2, hx => cases hx; exact nat_meth _ _ _ _ (by decide) (by decide)
  | j + 3, hx => simp [threadK] at hx
theorem sysC {W : World} {gS : Nat} {X : Nat → Bool} (K8 : Blk W gS #[.string ⟨#[112, 114, 105, 110, 116]⟩, .string ⟨#[40, 73, 41, 86]⟩, .bool true, .bool true, .int .i64 0, .int .i64 0, .slice none 0 0, .slice none 0 0, .slice none 0 0, .string ⟨#[115, 108, 101, 101, 112]⟩, .string ⟨#[40, 73, 41, 86]⟩, .bool true, .bool true, .int .i64 0, .int .i64 0, .slice none 0 0, .slice none 0 0, .slice none 0 0] 43) (h8 : X gS = true) : ClassV (seen X W) (.agg #[.string ⟨#[83, 121, 115, 116, 101, 109]⟩, .string ⟨#[79, 98, 106, 101, 99, 116]⟩, .slice none 0 0, .slice none 0 0, .slice (some ⟨gS, 0, none⟩) 2 2]) systemK := by
  refine ⟨none, 0, none, 0, some ⟨gS, 0, none⟩, 2, rfl, by decide, by decide, LAt.nil _ _ _ _ _ (by unfold maxLen; omega), LAt.nil _ _ _ _ _ (by unfold maxLen; omega), ?_⟩
  refine block_meths K8 h8 2 2 (Nat.le_refl _) (by unfold maxLen; omega) _ rfl rowsS (ix9 rfl (fun j hj => by match j, hj with | 0, _ => rfl | 1, _ => rfl)) (fun j x hx => ?_)
  match j, hx with
  | 0, hx => cases hx; exact nat_meth _ _ _ _ (by decide) (by decide)
  | 1, hx => cases hx; exact nat_meth _ _ _ _ (by decide) (by decide)
  | j + 2, hx => simp [systemK] at hx
theorem tcell {X : World} {g i : Nat} {n : ByteArray} (T : Blk X g (troubles.map Value.string).toArray 9) (hn : troubles[i]? = some n) : X.cell? ⟨g, i, none⟩ = some (.string n) := by
  rw [T.cell i, List.getElem?_toArray, List.getElem?_map, hn]; rfl
theorem trouble_size {i : Nat} {n : ByteArray} (hn : troubles[i]? = some n) : n.size ≤ 1000 := by
  have := List.mem_of_getElem? hn
  revert this
  generalize n = x
  unfold troubles
  simp only [List.mem_cons, List.not_mem_nil, or_false]
  rintro (rfl | rfl | rfl | rfl | rfl | rfl | rfl | rfl | rfl) <;> decide
theorem mkU67 (w : World) (x2 x3 x4 x5 x6 x7 x8 x9 x10 x11 x12 x13 x14 x15 x16 x17 x18 x19 x20 x21 x22 x23 x24 x25 x26 x27 x28 x29 x30 x31 x32 x33 x34 x35 x36 x37 x38 x39 x40 x41 x42 x43 x44 x45 x46 x47 x48 x49 x50 x51 x52 x53 x54 x55 x56 x57 x58 x59 x60 x61 x62 x63 x64 x65 x66 x67 : Value) : ∃ u : Nat → Value, ({ tmps := #[.pointer none, .pointer (some ⟨w.heap.size, 0, none⟩), x2, x3, x4, x5, x6, x7, x8, x9, x10, x11, x12, x13, x14, x15, x16, x17, x18, x19, x20, x21, x22, x23, x24, x25, x26, x27, x28, x29, x30, x31, x32, x33, x34, x35, x36, x37, x38, x39, x40, x41, x42, x43, x44, x45, x46, x47, x48, x49, x50, x51, x52, x53, x54, x55, x56, x57, x58, x59, x60, x61, x62, x63, x64, x65, x66, x67, undef, undef, undef, undef, undef, undef, undef, undef, undef, undef, undef, undef, undef, undef], defers := [] } : Act) = { tmps := #[.pointer none, .pointer (some ⟨w.heap.size, 0, none⟩), u 2, u 3, u 4, u 5, u 6, u 7, u 8, u 9, u 10, u 11, u 12, u 13, u 14, u 15, u 16, u 17, u 18, u 19, u 20, u 21, u 22, u 23, u 24, u 25, u 26, u 27, u 28, u 29, u 30, u 31, u 32, u 33, u 34, u 35, u 36, u 37, u 38, u 39, u 40, u 41, u 42, u 43, u 44, u 45, u 46, u 47, u 48, u 49, u 50, u 51, u 52, u 53, u 54, u 55, u 56, u 57, u 58, u 59, u 60, u 61, u 62, u 63, u 64, u 65, u 66, u 67, undef, undef, undef, undef, undef, undef, undef, undef, undef, undef, undef, undef, undef, undef], defers := [] } := ⟨fun n => (#[undef, undef, x2, x3, x4, x5, x6, x7, x8, x9, x10, x11, x12, x13, x14, x15, x16, x17, x18, x19, x20, x21, x22, x23, x24, x25, x26, x27, x28, x29, x30, x31, x32, x33, x34, x35, x36, x37, x38, x39, x40, x41, x42, x43, x44, x45, x46, x47, x48, x49, x50, x51, x52, x53, x54, x55, x56, x57, x58, x59, x60, x61, x62, x63, x64, x65, x66, x67] : Array Value).getD n undef, rfl⟩
theorem mkU80 (w : World) (x2 x3 x4 x5 x6 x7 x8 x9 x10 x11 x12 x13 x14 x15 x16 x17 x18 x19 x20 x21 x22 x23 x24 x25 x26 x27 x28 x29 x30 x31 x32 x33 x34 x35 x36 x37 x38 x39 x40 x41 x42 x43 x44 x45 x46 x47 x48 x49 x50 x51 x52 x53 x54 x55 x56 x57 x58 x59 x60 x61 x62 x63 x64 x65 x66 x67 x68 x69 x70 x71 x72 x73 x74 x75 x76 x77 x78 x79 x80 : Value) : ∃ u : Nat → Value, ({ tmps := #[.pointer none, .pointer (some ⟨w.heap.size, 0, none⟩), x2, x3, x4, x5, x6, x7, x8, x9, x10, x11, x12, x13, x14, x15, x16, x17, x18, x19, x20, x21, x22, x23, x24, x25, x26, x27, x28, x29, x30, x31, x32, x33, x34, x35, x36, x37, x38, x39, x40, x41, x42, x43, x44, x45, x46, x47, x48, x49, x50, x51, x52, x53, x54, x55, x56, x57, x58, x59, x60, x61, x62, x63, x64, x65, x66, x67, x68, x69, x70, x71, x72, x73, x74, x75, x76, x77, x78, x79, x80, undef], defers := [] } : Act) = { tmps := #[.pointer none, .pointer (some ⟨w.heap.size, 0, none⟩), u 2, u 3, u 4, u 5, u 6, u 7, u 8, u 9, u 10, u 11, u 12, u 13, u 14, u 15, u 16, u 17, u 18, u 19, u 20, u 21, u 22, u 23, u 24, u 25, u 26, u 27, u 28, u 29, u 30, u 31, u 32, u 33, u 34, u 35, u 36, u 37, u 38, u 39, u 40, u 41, u 42, u 43, u 44, u 45, u 46, u 47, u 48, u 49, u 50, u 51, u 52, u 53, u 54, u 55, u 56, u 57, u 58, u 59, u 60, u 61, u 62, u 63, u 64, u 65, u 66, u 67, u 68, u 69, u 70, u 71, u 72, u 73, u 74, u 75, u 76, u 77, u 78, u 79, u 80, undef], defers := [] } := ⟨fun n => (#[undef, undef, x2, x3, x4, x5, x6, x7, x8, x9, x10, x11, x12, x13, x14, x15, x16, x17, x18, x19, x20, x21, x22, x23, x24, x25, x26, x27, x28, x29, x30, x31, x32, x33, x34, x35, x36, x37, x38, x39, x40, x41, x42, x43, x44, x45, x46, x47, x48, x49, x50, x51, x52, x53, x54, x55, x56, x57, x58, x59, x60, x61, x62, x63, x64, x65, x66, x67, x68, x69, x70, x71, x72, x73, x74, x75, x76, x77, x78, x79, x80] : Array Value).getD n undef, rfl⟩

set_option maxRecDepth 8000 in
set_option maxHeartbeats 4000000 in
theorem rnew_any (w : World) : Calls Try.prog 7 #[] w fun e w' => ∃ v rows, e = .returned (.pointer (some ⟨w.heap.size, 0, none⟩)) ∧ GvI (putK w v) w' v givenK rows := by
  obtain ⟨i0, hi, hz0, hz1, hz2⟩ := info_parts infoK
  go_enter Try.func7, Try.ntmps7
  go_wp2_with fail
  have IC : GvI (putK w (.slice none 0 0)) (putK w (.slice none 0 0)) (.slice none 0 0) [] (fun _ => []) := ⟨Below.refl _ _, World.ownsRow_nil _ _ _ _, fun j hj => by simp at hj, fun j x hx => by simp at hx⟩
  rw [show w.alloc (.cells #[.slice none 0 0] 63) = putK w (.slice none 0 0) from rfl]
  obtain ⟨WC, hWC⟩ : ∃ WC, WC = putK w (.slice none 0 0) := ⟨_, rfl⟩
  rw [← hWC]
  have IC : GvI (putK w (.slice none 0 0)) WC (.slice none 0 0) [] (fun _ => []) := hWC ▸ IC
  clear hWC
  have hcur := (Below.refl WC.heap.size WC).drew
  have zb := (IC.below hcur).bx
  have hlen : ([] : List KD).length = 0 := rfl
  refine Code.wp_mono (Q := fun e a W => e = Exit.normal ∧ ∃ u5 u6 u7 u8 u9 u10 u11 u12 u13 u14 u15 u16 u17 u18 u19 u20 : Value, a = { tmps := #[.pointer none, .pointer (some ⟨w.heap.size, 0, none⟩), undef, undef, undef, u5, u6, u7, u8, u9, u10, u11, u12, u13, u14, u15, u16, u17, u18, u19, u20, undef, undef, undef, undef, undef, undef, undef, undef, undef, undef, undef, undef, undef, undef, undef, undef, undef, undef, undef, undef, undef, undef, undef, undef, undef, undef, undef, undef, undef, undef, undef, undef, undef, undef, undef, undef, undef, undef, undef, undef, undef, undef, undef, undef, undef, undef, undef, undef, undef, undef, undef, undef, undef, undef, undef, undef, undef, undef, undef, undef, undef], defers := [] } ∧ ∃ v rows, GvI (putK w v) W v [objectK] rows) ?next ?reg
  case reg =>
    refine wp_region_noPanic ?_
    refine wp_region_held_drew (S := (fun _ => True)) (by kernel_rfl) ?_ (fun hHeld => ?_)
    · (try dsimp only); all_goals trivial
    refine wpAnyH_take (i := 0) (oi := { dst := some 7, op := Op.move (Operand.tmp 1), type := 24, pos := "ref.go:32", after := #[], guard := none }) (v := ?va_1) rfl (by kernel_rfl) (by kernel_rfl) (by kernel_rfl) (fun _ _ _ h => h) (Or.inl ⟨by rfl, ?hya_1⟩) (by assumption) ?resta_1
    case hya_1 => intro w hSw; (try dsimp only at hSw); go_simp; try with_reducible rfl
    try simp only [Act.put, List.setIfInBounds_toArray, List.set_cons_zero, List.set_cons_succ]
    refine wpAnyH_take (i := 1) (oi := { dst := some 8, op := Op.move (Operand.tmp 1), type := 24, pos := "ref.go:32", after := #[], guard := none }) (v := ?va_2) rfl (by kernel_rfl) (by kernel_rfl) (by kernel_rfl) (fun _ _ _ h => h) (Or.inl ⟨by rfl, ?hya_2⟩) (by assumption) ?resta_2
    case hya_2 => intro w hSw; (try dsimp only at hSw); go_simp; try with_reducible rfl
    try simp only [Act.put, List.setIfInBounds_toArray, List.set_cons_zero, List.set_cons_succ]
    refine wpAnyH_take (i := 2) (oi := { dst := some 9, op := Op.nilCheck (Operand.tmp 8), type := 0, pos := "ref.go:32", after := #[{ on := 1, ground := Ground.data }], guard := none }) (v := ?va_3) rfl (by kernel_rfl) (by kernel_rfl) (by kernel_rfl) (fun _ _ _ h => h) (Or.inl ⟨by rfl, ?hya_3⟩) (by assumption) ?resta_3
    case hya_3 => intro w hSw; (try dsimp only at hSw); go_simp; try with_reducible rfl
    try simp only [Act.put, List.setIfInBounds_toArray, List.set_cons_zero, List.set_cons_succ]
    refine wpAnyH_take (i := 3) (oi := { dst := some 10, op := Op.fieldAddr 63 (Operand.tmp 9) 0, type := 0, pos := "ref.go:32", after := #[{ on := 2, ground := Ground.data }], guard := none }) (v := ?va_4) rfl (by kernel_rfl) (by kernel_rfl) (by kernel_rfl) (fun _ _ _ h => h) (Or.inl ⟨by rfl, ?hya_4⟩) (by assumption) ?resta_4
    case hya_4 => intro w hSw; (try dsimp only at hSw); go_simp; try with_reducible rfl
    try simp only [Act.put, List.setIfInBounds_toArray, List.set_cons_zero, List.set_cons_succ]
    refine wpAnyH_ready (rs := [4, 5]) (by kernel_rfl) (by simp) ?_
    refine (AllReadyH.cons (o := { dst := some 11, op := Op.load 59 (Operand.tmp 10), type := 59, pos := "ref.go:32", after := #[{ on := 3, ground := Ground.data }], guard := none }) rfl (fun K hK => ?_) (AllReadyH.cons (o := { dst := some 12, op := Op.call { callee := Callee.value (Operand.func 23), args := #[Operand.const (Value.string { data := #[119, 97, 105, 116] }), Operand.const (Value.string { data := #[40, 41, 86] }), Operand.const (Value.bool false)], argTypes := #[9, 9, 4] }, type := 43, pos := "ref.go:32", after := #[], guard := none }) rfl (fun K hK => ?_) AllReadyH.nil))
    · have hdum := True.intro
      go_simp
      try go_wp2_with fail
      refine hK.out _ _ ?hSa_5 ?resta_5
      case hSa_5 => (try dsimp only); all_goals trivial
      clear hK K hHeld
      intro hHeld
      try simp only [Act.put, List.setIfInBounds_toArray, List.set_cons_zero, List.set_cons_succ]
      refine wpAnyH_ready (rs := [5]) (by kernel_rfl) (by simp) ?_
      refine AllReadyH.cons (o := { dst := some 12, op := Op.call { callee := Callee.value (Operand.func 23), args := #[Operand.const (Value.string { data := #[119, 97, 105, 116] }), Operand.const (Value.string { data := #[40, 41, 86] }), Operand.const (Value.bool false)], argTypes := #[9, 9, 4] }, type := 43, pos := "ref.go:32", after := #[], guard := none }) rfl (fun K hK => ?_) AllReadyH.nil
      go_simp
      refine (rnat_any _ _ _ _).mono ?_; rintro e y1 ⟨rfl, c1⟩; have hcur := next hcur c1; have zb := (IC.below hcur).bx
      try go_wp2_with fail
      refine hK.out _ _ ?hSa_6 ?resta_6
      case hSa_6 => (try dsimp only); all_goals trivial
      clear hK K hHeld
      intro hHeld
      try simp only [Act.put, List.setIfInBounds_toArray, List.set_cons_zero, List.set_cons_succ]
      refine wpAnyH_ready (rs := [6]) (by kernel_rfl) (by simp) ?_
      refine AllReadyH.cons (o := { dst := some 13, op := Op.call { callee := Callee.value (Operand.func 23), args := #[Operand.const (Value.string { data := #[110, 111, 116, 105, 102, 121] }), Operand.const (Value.string { data := #[40, 41, 86] }), Operand.const (Value.bool false)], argTypes := #[9, 9, 4] }, type := 43, pos := "ref.go:32", after := #[{ on := 5, ground := Ground.chain }], guard := none }) rfl (fun K hK => ?_) AllReadyH.nil
      go_simp
      refine (rnat_any _ _ _ _).mono ?_; rintro e y2 ⟨rfl, c2⟩; have hcur := next hcur c2; have zb := (IC.below hcur).bx
      try go_wp2_with fail
      refine hK.out _ _ ?hSa_7 ?resta_7
      case hSa_7 => (try dsimp only); all_goals trivial
      clear hK K hHeld
      intro hHeld
      try simp only [Act.put, List.setIfInBounds_toArray, List.set_cons_zero, List.set_cons_succ]
      refine wpAnyH_ready (rs := [7]) (by kernel_rfl) (by simp) ?_
      refine AllReadyH.cons (o := { dst := some 14, op := Op.call { callee := Callee.value (Operand.func 23), args := #[Operand.const (Value.string { data := #[110, 111, 116, 105, 102, 121, 65, 108, 108] }), Operand.const (Value.string { data := #[40, 41, 86] }), Operand.const (Value.bool false)], argTypes := #[9, 9, 4] }, type := 43, pos := "ref.go:32", after := #[{ on := 6, ground := Ground.chain }], guard := none }) rfl (fun K hK => ?_) AllReadyH.nil
      go_simp
      refine (rnat_any _ _ _ _).mono ?_; rintro e y3 ⟨rfl, c3⟩; have hcur := next hcur c3; have zb := (IC.below hcur).bx
      try go_wp2_with fail
      refine hK.out _ _ ?hSa_8 ?resta_8
      case hSa_8 => (try dsimp only); all_goals trivial
      clear hK K hHeld
      intro hHeld
      try simp only [Act.put, List.setIfInBounds_toArray, List.set_cons_zero, List.set_cons_succ]
      refine wpAnyH_ready (rs := [8]) (by kernel_rfl) (by simp) ?_
      refine AllReadyH.cons (o := { dst := some 15, op := Op.buildSlice 31 3 #[(0, Operand.tmp 12), (1, Operand.tmp 13), (2, Operand.tmp 14)], type := 31, pos := "ref.go:32", after := #[{ on := 5, ground := Ground.data }, { on := 6, ground := Ground.data }, { on := 7, ground := Ground.data }], guard := none }) rfl (fun K hK => ?_) AllReadyH.nil
      go_simp
      have qg := geOf IC hcur; have K8 := blkOf hcur #[.string ⟨#[119, 97, 105, 116]⟩, .string ⟨#[40, 41, 86]⟩, .bool false, .bool true, .int .i64 0, .int .i64 0, .slice none 0 0, .slice none 0 0, .slice none 0 0, .string ⟨#[110, 111, 116, 105, 102, 121]⟩, .string ⟨#[40, 41, 86]⟩, .bool false, .bool true, .int .i64 0, .int .i64 0, .slice none 0 0, .slice none 0 0, .slice none 0 0, .string ⟨#[110, 111, 116, 105, 102, 121, 65, 108, 108]⟩, .string ⟨#[40, 41, 86]⟩, .bool false, .bool true, .int .i64 0, .int .i64 0, .slice none 0 0, .slice none 0 0, .slice none 0 0] 43; (try simp only [World.size_alloc] at K8 qg); have hcur := allocOf hcur (.cells #[.string ⟨#[119, 97, 105, 116]⟩, .string ⟨#[40, 41, 86]⟩, .bool false, .bool true, .int .i64 0, .int .i64 0, .slice none 0 0, .slice none 0 0, .slice none 0 0, .string ⟨#[110, 111, 116, 105, 102, 121]⟩, .string ⟨#[40, 41, 86]⟩, .bool false, .bool true, .int .i64 0, .int .i64 0, .slice none 0 0, .slice none 0 0, .slice none 0 0, .string ⟨#[110, 111, 116, 105, 102, 121, 65, 108, 108]⟩, .string ⟨#[40, 41, 86]⟩, .bool false, .bool true, .int .i64 0, .int .i64 0, .slice none 0 0, .slice none 0 0, .slice none 0 0] 43); have zb := (IC.below hcur).bx
      try go_wp2_with fail
      refine hK.out _ _ ?hSa_9 ?resta_9
      case hSa_9 => (try dsimp only); all_goals trivial
      clear hK K hHeld
      intro hHeld
      try simp only [Act.put, List.setIfInBounds_toArray, List.set_cons_zero, List.set_cons_succ]
      refine wpAnyH_take (i := 9) (oi := { dst := some 16, op := Op.build 33 #[(0, Operand.const (Value.string { data := #[79, 98, 106, 101, 99, 116] })), (4, Operand.tmp 15)], type := 33, pos := "ref.go:32", after := #[{ on := 8, ground := Ground.data }], guard := none }) (v := ?va_10) rfl (by kernel_rfl) (by kernel_rfl) (by kernel_rfl) (fun _ _ _ h => h) (Or.inl ⟨by rfl, ?hya_10⟩) (by assumption) ?resta_10
      case hya_10 => intro w hSw; (try dsimp only at hSw); go_simp; try with_reducible rfl
      try simp only [Act.put, List.setIfInBounds_toArray, List.set_cons_zero, List.set_cons_succ]
      refine wpAnyH_ready (rs := [10]) (by kernel_rfl) (by simp) ?_
      refine AllReadyH.cons (o := { dst := some 17, op := Op.buildSlice 59 1 #[(0, Operand.tmp 16)], type := 59, pos := "ref.go:32", after := #[{ on := 9, ground := Ground.data }], guard := none }) rfl (fun K hK => ?_) AllReadyH.nil
      go_simp
      obtain ⟨K10, hcur, K8⟩ := cls1 hcur K8 (fun g => #[.string ⟨#[79, 98, 106, 101, 99, 116]⟩, .string ⟨#[]⟩, .slice none 0 0, .slice none 0 0, .slice (some ⟨g, 0, none⟩) 3 3]) hcur.size; (try simp only [World.size_alloc] at K10); have zb := (IC.below hcur).bx
      try go_wp2_with fail
      refine hK.out _ _ ?hSa_11 ?resta_11
      case hSa_11 => (try dsimp only); all_goals trivial
      clear hK K hHeld
      intro hHeld
      try simp only [Act.put, List.setIfInBounds_toArray, List.set_cons_zero, List.set_cons_succ]
      refine wpAnyH_ready (rs := [11]) (by kernel_rfl) (by simp) ?_
      refine AllReadyH.cons (o := { dst := some 18, op := Op.call { callee := Callee.builtin Builtin.append, args := #[Operand.tmp 11, Operand.tmp 17], argTypes := #[59, 59] }, type := 59, pos := "ref.go:32", after := #[{ on := 4, ground := Ground.data }, { on := 10, ground := Ground.data }, { on := 7, ground := Ground.chain }], guard := none }) rfl (fun K hK => ?_) AllReadyH.nil
      have I9 := IC.below hcur
      have o9 := I9.o
      rw [hlen] at o9
      obtain ⟨v9, w9, hr9, ho9, hg9, _, hat9⟩ := run_append_own_at (P := Try.prog) _ _ 59 59 33 i0 (.agg #[.string ⟨#[]⟩, .string ⟨#[]⟩, .slice none 0 0, .slice none 0 0, .slice none 0 0]) 5 104 Try.underlying59 hi hz0 hz1 hz2 rfl (by decide) _ _ _ o9 _ 1 1 _ rfl (World.news_of_block K10) (by intro u hu; simp at hu; rcases hu with rfl | rfl | rfl | rfl | rfl <;> rfl) (by unfold maxLen; omega) (by omega) I9.B.size
      obtain ⟨g9, cap9, rfl⟩ := own_form ho9 (by omega)
      obtain ⟨rows10, I10⟩ := I9.push1 hlen objectK _ ho9 hg9 hat9 rfl (objA K8 (newOf I9.o K8 (by decide) qg))
      have zb := I10.bx
      have zf := I10.box.frozen 0
      have FIN := I10.restore
      refine op_append (v := .slice none 0 0) (vb := .slice (some ⟨_, 0, none⟩) 1 1) rfl rfl rfl rfl hr9 ?_
      refine hK.out _ _ ?hSa_12 ?resta_12
      case hSa_12 => (try dsimp only); all_goals trivial
      clear hK K hHeld
      intro hHeld
      try simp only [Act.put, List.setIfInBounds_toArray, List.set_cons_zero, List.set_cons_succ]
      refine wpAnyH_take (i := 12) (oi := { dst := some 19, op := Op.nilCheck (Operand.tmp 7), type := 0, pos := "ref.go:32", after := #[{ on := 0, ground := Ground.data }, { on := 0, ground := Ground.phase }, { on := 1, ground := Ground.phase }, { on := 2, ground := Ground.phase }, { on := 3, ground := Ground.phase }, { on := 4, ground := Ground.phase }, { on := 5, ground := Ground.phase }, { on := 6, ground := Ground.phase }, { on := 7, ground := Ground.phase }, { on := 8, ground := Ground.phase }, { on := 9, ground := Ground.phase }, { on := 10, ground := Ground.phase }, { on := 11, ground := Ground.phase }], guard := none }) (v := ?va_13) rfl (by kernel_rfl) (by kernel_rfl) (by kernel_rfl) (fun _ _ _ h => h) (Or.inl ⟨by rfl, ?hya_13⟩) (by assumption) ?resta_13
      case hya_13 => intro w hSw; (try dsimp only at hSw); go_simp; try with_reducible rfl
      try simp only [Act.put, List.setIfInBounds_toArray, List.set_cons_zero, List.set_cons_succ]
      refine wpAnyH_take (i := 13) (oi := { dst := some 20, op := Op.fieldAddr 63 (Operand.tmp 19) 0, type := 0, pos := "ref.go:32", after := #[{ on := 12, ground := Ground.data }, { on := 0, ground := Ground.phase }, { on := 1, ground := Ground.phase }, { on := 2, ground := Ground.phase }, { on := 3, ground := Ground.phase }, { on := 4, ground := Ground.phase }, { on := 5, ground := Ground.phase }, { on := 6, ground := Ground.phase }, { on := 7, ground := Ground.phase }, { on := 8, ground := Ground.phase }, { on := 9, ground := Ground.phase }, { on := 10, ground := Ground.phase }, { on := 11, ground := Ground.phase }], guard := none }) (v := ?va_14) rfl (by kernel_rfl) (by kernel_rfl) (by kernel_rfl) (fun _ _ _ h => h) (Or.inl ⟨by rfl, ?hya_14⟩) (by assumption) ?resta_14
      case hya_14 => intro w hSw; (try dsimp only at hSw); go_simp; try with_reducible rfl
      try simp only [Act.put, List.setIfInBounds_toArray, List.set_cons_zero, List.set_cons_succ]
      refine wpAnyH_ready (rs := [14]) (by kernel_rfl) (by simp) ?_
      refine AllReadyH.cons (o := { dst := none, op := Op.store 59 (Operand.tmp 20) (Operand.tmp 18), type := 0, pos := "ref.go:32", after := #[{ on := 13, ground := Ground.data }, { on := 11, ground := Ground.data }, { on := 11, ground := Ground.chain }, { on := 0, ground := Ground.phase }, { on := 1, ground := Ground.phase }, { on := 2, ground := Ground.phase }, { on := 3, ground := Ground.phase }, { on := 4, ground := Ground.phase }, { on := 5, ground := Ground.phase }, { on := 6, ground := Ground.phase }, { on := 7, ground := Ground.phase }, { on := 8, ground := Ground.phase }, { on := 9, ground := Ground.phase }, { on := 10, ground := Ground.phase }, { on := 11, ground := Ground.phase }], guard := none }) rfl (fun K hK => ?_) AllReadyH.nil
      go_simp
      try go_wp2_with fail
      refine hK.out _ _ ?hSa_15 ?resta_15
      case hSa_15 => (try dsimp only); all_goals trivial
      clear hK K hHeld
      intro hHeld
      try simp only [Act.put, List.setIfInBounds_toArray, List.set_cons_zero, List.set_cons_succ]
      refine wpAnyH_done (by kernel_rfl) ?_ _
      refine NoPanic.normal ?_
      exact ⟨rfl, _, _, _, _, _, _, _, _, _, _, _, _, _, _, _, _, rfl, _, _, FIN⟩
    · have hdum := True.intro
      go_simp
      refine (rnat_any _ _ _ _).mono ?_; rintro e y1 ⟨rfl, c1⟩; have hcur := next hcur c1; have zb := (IC.below hcur).bx
      try go_wp2_with fail
      refine hK.out _ _ ?hSa_16 ?resta_16
      case hSa_16 => (try dsimp only); all_goals trivial
      clear hK K hHeld
      intro hHeld
      try simp only [Act.put, List.setIfInBounds_toArray, List.set_cons_zero, List.set_cons_succ]
      refine wpAnyH_ready (rs := [4, 6]) (by kernel_rfl) (by simp) ?_
      refine (AllReadyH.cons (o := { dst := some 11, op := Op.load 59 (Operand.tmp 10), type := 59, pos := "ref.go:32", after := #[{ on := 3, ground := Ground.data }], guard := none }) rfl (fun K hK => ?_) (AllReadyH.cons (o := { dst := some 13, op := Op.call { callee := Callee.value (Operand.func 23), args := #[Operand.const (Value.string { data := #[110, 111, 116, 105, 102, 121] }), Operand.const (Value.string { data := #[40, 41, 86] }), Operand.const (Value.bool false)], argTypes := #[9, 9, 4] }, type := 43, pos := "ref.go:32", after := #[{ on := 5, ground := Ground.chain }], guard := none }) rfl (fun K hK => ?_) AllReadyH.nil))
      · have hdum := True.intro
        go_simp
        try go_wp2_with fail
        refine hK.out _ _ ?hSa_17 ?resta_17
        case hSa_17 => (try dsimp only); all_goals trivial
        clear hK K hHeld
        intro hHeld
        try simp only [Act.put, List.setIfInBounds_toArray, List.set_cons_zero, List.set_cons_succ]
        refine wpAnyH_ready (rs := [6]) (by kernel_rfl) (by simp) ?_
        refine AllReadyH.cons (o := { dst := some 13, op := Op.call { callee := Callee.value (Operand.func 23), args := #[Operand.const (Value.string { data := #[110, 111, 116, 105, 102, 121] }), Operand.const (Value.string { data := #[40, 41, 86] }), Operand.const (Value.bool false)], argTypes := #[9, 9, 4] }, type := 43, pos := "ref.go:32", after := #[{ on := 5, ground := Ground.chain }], guard := none }) rfl (fun K hK => ?_) AllReadyH.nil
        go_simp
        refine (rnat_any _ _ _ _).mono ?_; rintro e y2 ⟨rfl, c2⟩; have hcur := next hcur c2; have zb := (IC.below hcur).bx
        try go_wp2_with fail
        refine hK.out _ _ ?hSa_18 ?resta_18
        case hSa_18 => (try dsimp only); all_goals trivial
        clear hK K hHeld
        intro hHeld
        try simp only [Act.put, List.setIfInBounds_toArray, List.set_cons_zero, List.set_cons_succ]
        refine wpAnyH_ready (rs := [7]) (by kernel_rfl) (by simp) ?_
        refine AllReadyH.cons (o := { dst := some 14, op := Op.call { callee := Callee.value (Operand.func 23), args := #[Operand.const (Value.string { data := #[110, 111, 116, 105, 102, 121, 65, 108, 108] }), Operand.const (Value.string { data := #[40, 41, 86] }), Operand.const (Value.bool false)], argTypes := #[9, 9, 4] }, type := 43, pos := "ref.go:32", after := #[{ on := 6, ground := Ground.chain }], guard := none }) rfl (fun K hK => ?_) AllReadyH.nil
        go_simp
        refine (rnat_any _ _ _ _).mono ?_; rintro e y3 ⟨rfl, c3⟩; have hcur := next hcur c3; have zb := (IC.below hcur).bx
        try go_wp2_with fail
        refine hK.out _ _ ?hSa_19 ?resta_19
        case hSa_19 => (try dsimp only); all_goals trivial
        clear hK K hHeld
        intro hHeld
        try simp only [Act.put, List.setIfInBounds_toArray, List.set_cons_zero, List.set_cons_succ]
        refine wpAnyH_ready (rs := [8]) (by kernel_rfl) (by simp) ?_
        refine AllReadyH.cons (o := { dst := some 15, op := Op.buildSlice 31 3 #[(0, Operand.tmp 12), (1, Operand.tmp 13), (2, Operand.tmp 14)], type := 31, pos := "ref.go:32", after := #[{ on := 5, ground := Ground.data }, { on := 6, ground := Ground.data }, { on := 7, ground := Ground.data }], guard := none }) rfl (fun K hK => ?_) AllReadyH.nil
        go_simp
        have qg := geOf IC hcur; have K8 := blkOf hcur #[.string ⟨#[119, 97, 105, 116]⟩, .string ⟨#[40, 41, 86]⟩, .bool false, .bool true, .int .i64 0, .int .i64 0, .slice none 0 0, .slice none 0 0, .slice none 0 0, .string ⟨#[110, 111, 116, 105, 102, 121]⟩, .string ⟨#[40, 41, 86]⟩, .bool false, .bool true, .int .i64 0, .int .i64 0, .slice none 0 0, .slice none 0 0, .slice none 0 0, .string ⟨#[110, 111, 116, 105, 102, 121, 65, 108, 108]⟩, .string ⟨#[40, 41, 86]⟩, .bool false, .bool true, .int .i64 0, .int .i64 0, .slice none 0 0, .slice none 0 0, .slice none 0 0] 43; (try simp only [World.size_alloc] at K8 qg); have hcur := allocOf hcur (.cells #[.string ⟨#[119, 97, 105, 116]⟩, .string ⟨#[40, 41, 86]⟩, .bool false, .bool true, .int .i64 0, .int .i64 0, .slice none 0 0, .slice none 0 0, .slice none 0 0, .string ⟨#[110, 111, 116, 105, 102, 121]⟩, .string ⟨#[40, 41, 86]⟩, .bool false, .bool true, .int .i64 0, .int .i64 0, .slice none 0 0, .slice none 0 0, .slice none 0 0, .string ⟨#[110, 111, 116, 105, 102, 121, 65, 108, 108]⟩, .string ⟨#[40, 41, 86]⟩, .bool false, .bool true, .int .i64 0, .int .i64 0, .slice none 0 0, .slice none 0 0, .slice none 0 0] 43); have zb := (IC.below hcur).bx
        try go_wp2_with fail
        refine hK.out _ _ ?hSa_20 ?resta_20
        case hSa_20 => (try dsimp only); all_goals trivial
        clear hK K hHeld
        intro hHeld
        try simp only [Act.put, List.setIfInBounds_toArray, List.set_cons_zero, List.set_cons_succ]
        refine wpAnyH_take (i := 9) (oi := { dst := some 16, op := Op.build 33 #[(0, Operand.const (Value.string { data := #[79, 98, 106, 101, 99, 116] })), (4, Operand.tmp 15)], type := 33, pos := "ref.go:32", after := #[{ on := 8, ground := Ground.data }], guard := none }) (v := ?va_21) rfl (by kernel_rfl) (by kernel_rfl) (by kernel_rfl) (fun _ _ _ h => h) (Or.inl ⟨by rfl, ?hya_21⟩) (by assumption) ?resta_21
        case hya_21 => intro w hSw; (try dsimp only at hSw); go_simp; try with_reducible rfl
        try simp only [Act.put, List.setIfInBounds_toArray, List.set_cons_zero, List.set_cons_succ]
        refine wpAnyH_ready (rs := [10]) (by kernel_rfl) (by simp) ?_
        refine AllReadyH.cons (o := { dst := some 17, op := Op.buildSlice 59 1 #[(0, Operand.tmp 16)], type := 59, pos := "ref.go:32", after := #[{ on := 9, ground := Ground.data }], guard := none }) rfl (fun K hK => ?_) AllReadyH.nil
        go_simp
        obtain ⟨K10, hcur, K8⟩ := cls1 hcur K8 (fun g => #[.string ⟨#[79, 98, 106, 101, 99, 116]⟩, .string ⟨#[]⟩, .slice none 0 0, .slice none 0 0, .slice (some ⟨g, 0, none⟩) 3 3]) hcur.size; (try simp only [World.size_alloc] at K10); have zb := (IC.below hcur).bx
        try go_wp2_with fail
        refine hK.out _ _ ?hSa_22 ?resta_22
        case hSa_22 => (try dsimp only); all_goals trivial
        clear hK K hHeld
        intro hHeld
        try simp only [Act.put, List.setIfInBounds_toArray, List.set_cons_zero, List.set_cons_succ]
        refine wpAnyH_ready (rs := [11]) (by kernel_rfl) (by simp) ?_
        refine AllReadyH.cons (o := { dst := some 18, op := Op.call { callee := Callee.builtin Builtin.append, args := #[Operand.tmp 11, Operand.tmp 17], argTypes := #[59, 59] }, type := 59, pos := "ref.go:32", after := #[{ on := 4, ground := Ground.data }, { on := 10, ground := Ground.data }, { on := 7, ground := Ground.chain }], guard := none }) rfl (fun K hK => ?_) AllReadyH.nil
        have I9 := IC.below hcur
        have o9 := I9.o
        rw [hlen] at o9
        obtain ⟨v9, w9, hr9, ho9, hg9, _, hat9⟩ := run_append_own_at (P := Try.prog) _ _ 59 59 33 i0 (.agg #[.string ⟨#[]⟩, .string ⟨#[]⟩, .slice none 0 0, .slice none 0 0, .slice none 0 0]) 5 104 Try.underlying59 hi hz0 hz1 hz2 rfl (by decide) _ _ _ o9 _ 1 1 _ rfl (World.news_of_block K10) (by intro u hu; simp at hu; rcases hu with rfl | rfl | rfl | rfl | rfl <;> rfl) (by unfold maxLen; omega) (by omega) I9.B.size
        obtain ⟨g9, cap9, rfl⟩ := own_form ho9 (by omega)
        obtain ⟨rows10, I10⟩ := I9.push1 hlen objectK _ ho9 hg9 hat9 rfl (objA K8 (newOf I9.o K8 (by decide) qg))
        have zb := I10.bx
        have zf := I10.box.frozen 0
        have FIN := I10.restore
        refine op_append (v := .slice none 0 0) (vb := .slice (some ⟨_, 0, none⟩) 1 1) rfl rfl rfl rfl hr9 ?_
        refine hK.out _ _ ?hSa_23 ?resta_23
        case hSa_23 => (try dsimp only); all_goals trivial
        clear hK K hHeld
        intro hHeld
        try simp only [Act.put, List.setIfInBounds_toArray, List.set_cons_zero, List.set_cons_succ]
        refine wpAnyH_take (i := 12) (oi := { dst := some 19, op := Op.nilCheck (Operand.tmp 7), type := 0, pos := "ref.go:32", after := #[{ on := 0, ground := Ground.data }, { on := 0, ground := Ground.phase }, { on := 1, ground := Ground.phase }, { on := 2, ground := Ground.phase }, { on := 3, ground := Ground.phase }, { on := 4, ground := Ground.phase }, { on := 5, ground := Ground.phase }, { on := 6, ground := Ground.phase }, { on := 7, ground := Ground.phase }, { on := 8, ground := Ground.phase }, { on := 9, ground := Ground.phase }, { on := 10, ground := Ground.phase }, { on := 11, ground := Ground.phase }], guard := none }) (v := ?va_24) rfl (by kernel_rfl) (by kernel_rfl) (by kernel_rfl) (fun _ _ _ h => h) (Or.inl ⟨by rfl, ?hya_24⟩) (by assumption) ?resta_24
        case hya_24 => intro w hSw; (try dsimp only at hSw); go_simp; try with_reducible rfl
        try simp only [Act.put, List.setIfInBounds_toArray, List.set_cons_zero, List.set_cons_succ]
        refine wpAnyH_take (i := 13) (oi := { dst := some 20, op := Op.fieldAddr 63 (Operand.tmp 19) 0, type := 0, pos := "ref.go:32", after := #[{ on := 12, ground := Ground.data }, { on := 0, ground := Ground.phase }, { on := 1, ground := Ground.phase }, { on := 2, ground := Ground.phase }, { on := 3, ground := Ground.phase }, { on := 4, ground := Ground.phase }, { on := 5, ground := Ground.phase }, { on := 6, ground := Ground.phase }, { on := 7, ground := Ground.phase }, { on := 8, ground := Ground.phase }, { on := 9, ground := Ground.phase }, { on := 10, ground := Ground.phase }, { on := 11, ground := Ground.phase }], guard := none }) (v := ?va_25) rfl (by kernel_rfl) (by kernel_rfl) (by kernel_rfl) (fun _ _ _ h => h) (Or.inl ⟨by rfl, ?hya_25⟩) (by assumption) ?resta_25
        case hya_25 => intro w hSw; (try dsimp only at hSw); go_simp; try with_reducible rfl
        try simp only [Act.put, List.setIfInBounds_toArray, List.set_cons_zero, List.set_cons_succ]
        refine wpAnyH_ready (rs := [14]) (by kernel_rfl) (by simp) ?_
        refine AllReadyH.cons (o := { dst := none, op := Op.store 59 (Operand.tmp 20) (Operand.tmp 18), type := 0, pos := "ref.go:32", after := #[{ on := 13, ground := Ground.data }, { on := 11, ground := Ground.data }, { on := 11, ground := Ground.chain }, { on := 0, ground := Ground.phase }, { on := 1, ground := Ground.phase }, { on := 2, ground := Ground.phase }, { on := 3, ground := Ground.phase }, { on := 4, ground := Ground.phase }, { on := 5, ground := Ground.phase }, { on := 6, ground := Ground.phase }, { on := 7, ground := Ground.phase }, { on := 8, ground := Ground.phase }, { on := 9, ground := Ground.phase }, { on := 10, ground := Ground.phase }, { on := 11, ground := Ground.phase }], guard := none }) rfl (fun K hK => ?_) AllReadyH.nil
        go_simp
        try go_wp2_with fail
        refine hK.out _ _ ?hSa_26 ?resta_26
        case hSa_26 => (try dsimp only); all_goals trivial
        clear hK K hHeld
        intro hHeld
        try simp only [Act.put, List.setIfInBounds_toArray, List.set_cons_zero, List.set_cons_succ]
        refine wpAnyH_done (by kernel_rfl) ?_ _
        refine NoPanic.normal ?_
        exact ⟨rfl, _, _, _, _, _, _, _, _, _, _, _, _, _, _, _, _, rfl, _, _, FIN⟩
      · have hdum := True.intro
        go_simp
        refine (rnat_any _ _ _ _).mono ?_; rintro e y2 ⟨rfl, c2⟩; have hcur := next hcur c2; have zb := (IC.below hcur).bx
        try go_wp2_with fail
        refine hK.out _ _ ?hSa_27 ?resta_27
        case hSa_27 => (try dsimp only); all_goals trivial
        clear hK K hHeld
        intro hHeld
        try simp only [Act.put, List.setIfInBounds_toArray, List.set_cons_zero, List.set_cons_succ]
        refine wpAnyH_ready (rs := [4, 7]) (by kernel_rfl) (by simp) ?_
        refine (AllReadyH.cons (o := { dst := some 11, op := Op.load 59 (Operand.tmp 10), type := 59, pos := "ref.go:32", after := #[{ on := 3, ground := Ground.data }], guard := none }) rfl (fun K hK => ?_) (AllReadyH.cons (o := { dst := some 14, op := Op.call { callee := Callee.value (Operand.func 23), args := #[Operand.const (Value.string { data := #[110, 111, 116, 105, 102, 121, 65, 108, 108] }), Operand.const (Value.string { data := #[40, 41, 86] }), Operand.const (Value.bool false)], argTypes := #[9, 9, 4] }, type := 43, pos := "ref.go:32", after := #[{ on := 6, ground := Ground.chain }], guard := none }) rfl (fun K hK => ?_) AllReadyH.nil))
        · have hdum := True.intro
          go_simp
          try go_wp2_with fail
          refine hK.out _ _ ?hSa_28 ?resta_28
          case hSa_28 => (try dsimp only); all_goals trivial
          clear hK K hHeld
          intro hHeld
          try simp only [Act.put, List.setIfInBounds_toArray, List.set_cons_zero, List.set_cons_succ]
          refine wpAnyH_ready (rs := [7]) (by kernel_rfl) (by simp) ?_
          refine AllReadyH.cons (o := { dst := some 14, op := Op.call { callee := Callee.value (Operand.func 23), args := #[Operand.const (Value.string { data := #[110, 111, 116, 105, 102, 121, 65, 108, 108] }), Operand.const (Value.string { data := #[40, 41, 86] }), Operand.const (Value.bool false)], argTypes := #[9, 9, 4] }, type := 43, pos := "ref.go:32", after := #[{ on := 6, ground := Ground.chain }], guard := none }) rfl (fun K hK => ?_) AllReadyH.nil
          go_simp
          refine (rnat_any _ _ _ _).mono ?_; rintro e y3 ⟨rfl, c3⟩; have hcur := next hcur c3; have zb := (IC.below hcur).bx
          try go_wp2_with fail
          refine hK.out _ _ ?hSa_29 ?resta_29
          case hSa_29 => (try dsimp only); all_goals trivial
          clear hK K hHeld
          intro hHeld
          try simp only [Act.put, List.setIfInBounds_toArray, List.set_cons_zero, List.set_cons_succ]
          refine wpAnyH_ready (rs := [8]) (by kernel_rfl) (by simp) ?_
          refine AllReadyH.cons (o := { dst := some 15, op := Op.buildSlice 31 3 #[(0, Operand.tmp 12), (1, Operand.tmp 13), (2, Operand.tmp 14)], type := 31, pos := "ref.go:32", after := #[{ on := 5, ground := Ground.data }, { on := 6, ground := Ground.data }, { on := 7, ground := Ground.data }], guard := none }) rfl (fun K hK => ?_) AllReadyH.nil
          go_simp
          have qg := geOf IC hcur; have K8 := blkOf hcur #[.string ⟨#[119, 97, 105, 116]⟩, .string ⟨#[40, 41, 86]⟩, .bool false, .bool true, .int .i64 0, .int .i64 0, .slice none 0 0, .slice none 0 0, .slice none 0 0, .string ⟨#[110, 111, 116, 105, 102, 121]⟩, .string ⟨#[40, 41, 86]⟩, .bool false, .bool true, .int .i64 0, .int .i64 0, .slice none 0 0, .slice none 0 0, .slice none 0 0, .string ⟨#[110, 111, 116, 105, 102, 121, 65, 108, 108]⟩, .string ⟨#[40, 41, 86]⟩, .bool false, .bool true, .int .i64 0, .int .i64 0, .slice none 0 0, .slice none 0 0, .slice none 0 0] 43; (try simp only [World.size_alloc] at K8 qg); have hcur := allocOf hcur (.cells #[.string ⟨#[119, 97, 105, 116]⟩, .string ⟨#[40, 41, 86]⟩, .bool false, .bool true, .int .i64 0, .int .i64 0, .slice none 0 0, .slice none 0 0, .slice none 0 0, .string ⟨#[110, 111, 116, 105, 102, 121]⟩, .string ⟨#[40, 41, 86]⟩, .bool false, .bool true, .int .i64 0, .int .i64 0, .slice none 0 0, .slice none 0 0, .slice none 0 0, .string ⟨#[110, 111, 116, 105, 102, 121, 65, 108, 108]⟩, .string ⟨#[40, 41, 86]⟩, .bool false, .bool true, .int .i64 0, .int .i64 0, .slice none 0 0, .slice none 0 0, .slice none 0 0] 43); have zb := (IC.below hcur).bx
          try go_wp2_with fail
          refine hK.out _ _ ?hSa_30 ?resta_30
          case hSa_30 => (try dsimp only); all_goals trivial
          clear hK K hHeld
          intro hHeld
          try simp only [Act.put, List.setIfInBounds_toArray, List.set_cons_zero, List.set_cons_succ]
          refine wpAnyH_take (i := 9) (oi := { dst := some 16, op := Op.build 33 #[(0, Operand.const (Value.string { data := #[79, 98, 106, 101, 99, 116] })), (4, Operand.tmp 15)], type := 33, pos := "ref.go:32", after := #[{ on := 8, ground := Ground.data }], guard := none }) (v := ?va_31) rfl (by kernel_rfl) (by kernel_rfl) (by kernel_rfl) (fun _ _ _ h => h) (Or.inl ⟨by rfl, ?hya_31⟩) (by assumption) ?resta_31
          case hya_31 => intro w hSw; (try dsimp only at hSw); go_simp; try with_reducible rfl
          try simp only [Act.put, List.setIfInBounds_toArray, List.set_cons_zero, List.set_cons_succ]
          refine wpAnyH_ready (rs := [10]) (by kernel_rfl) (by simp) ?_
          refine AllReadyH.cons (o := { dst := some 17, op := Op.buildSlice 59 1 #[(0, Operand.tmp 16)], type := 59, pos := "ref.go:32", after := #[{ on := 9, ground := Ground.data }], guard := none }) rfl (fun K hK => ?_) AllReadyH.nil
          go_simp
          obtain ⟨K10, hcur, K8⟩ := cls1 hcur K8 (fun g => #[.string ⟨#[79, 98, 106, 101, 99, 116]⟩, .string ⟨#[]⟩, .slice none 0 0, .slice none 0 0, .slice (some ⟨g, 0, none⟩) 3 3]) hcur.size; (try simp only [World.size_alloc] at K10); have zb := (IC.below hcur).bx
          try go_wp2_with fail
          refine hK.out _ _ ?hSa_32 ?resta_32
          case hSa_32 => (try dsimp only); all_goals trivial
          clear hK K hHeld
          intro hHeld
          try simp only [Act.put, List.setIfInBounds_toArray, List.set_cons_zero, List.set_cons_succ]
          refine wpAnyH_ready (rs := [11]) (by kernel_rfl) (by simp) ?_
          refine AllReadyH.cons (o := { dst := some 18, op := Op.call { callee := Callee.builtin Builtin.append, args := #[Operand.tmp 11, Operand.tmp 17], argTypes := #[59, 59] }, type := 59, pos := "ref.go:32", after := #[{ on := 4, ground := Ground.data }, { on := 10, ground := Ground.data }, { on := 7, ground := Ground.chain }], guard := none }) rfl (fun K hK => ?_) AllReadyH.nil
          have I9 := IC.below hcur
          have o9 := I9.o
          rw [hlen] at o9
          obtain ⟨v9, w9, hr9, ho9, hg9, _, hat9⟩ := run_append_own_at (P := Try.prog) _ _ 59 59 33 i0 (.agg #[.string ⟨#[]⟩, .string ⟨#[]⟩, .slice none 0 0, .slice none 0 0, .slice none 0 0]) 5 104 Try.underlying59 hi hz0 hz1 hz2 rfl (by decide) _ _ _ o9 _ 1 1 _ rfl (World.news_of_block K10) (by intro u hu; simp at hu; rcases hu with rfl | rfl | rfl | rfl | rfl <;> rfl) (by unfold maxLen; omega) (by omega) I9.B.size
          obtain ⟨g9, cap9, rfl⟩ := own_form ho9 (by omega)
          obtain ⟨rows10, I10⟩ := I9.push1 hlen objectK _ ho9 hg9 hat9 rfl (objA K8 (newOf I9.o K8 (by decide) qg))
          have zb := I10.bx
          have zf := I10.box.frozen 0
          have FIN := I10.restore
          refine op_append (v := .slice none 0 0) (vb := .slice (some ⟨_, 0, none⟩) 1 1) rfl rfl rfl rfl hr9 ?_
          refine hK.out _ _ ?hSa_33 ?resta_33
          case hSa_33 => (try dsimp only); all_goals trivial
          clear hK K hHeld
          intro hHeld
          try simp only [Act.put, List.setIfInBounds_toArray, List.set_cons_zero, List.set_cons_succ]
          refine wpAnyH_take (i := 12) (oi := { dst := some 19, op := Op.nilCheck (Operand.tmp 7), type := 0, pos := "ref.go:32", after := #[{ on := 0, ground := Ground.data }, { on := 0, ground := Ground.phase }, { on := 1, ground := Ground.phase }, { on := 2, ground := Ground.phase }, { on := 3, ground := Ground.phase }, { on := 4, ground := Ground.phase }, { on := 5, ground := Ground.phase }, { on := 6, ground := Ground.phase }, { on := 7, ground := Ground.phase }, { on := 8, ground := Ground.phase }, { on := 9, ground := Ground.phase }, { on := 10, ground := Ground.phase }, { on := 11, ground := Ground.phase }], guard := none }) (v := ?va_34) rfl (by kernel_rfl) (by kernel_rfl) (by kernel_rfl) (fun _ _ _ h => h) (Or.inl ⟨by rfl, ?hya_34⟩) (by assumption) ?resta_34
          case hya_34 => intro w hSw; (try dsimp only at hSw); go_simp; try with_reducible rfl
          try simp only [Act.put, List.setIfInBounds_toArray, List.set_cons_zero, List.set_cons_succ]
          refine wpAnyH_take (i := 13) (oi := { dst := some 20, op := Op.fieldAddr 63 (Operand.tmp 19) 0, type := 0, pos := "ref.go:32", after := #[{ on := 12, ground := Ground.data }, { on := 0, ground := Ground.phase }, { on := 1, ground := Ground.phase }, { on := 2, ground := Ground.phase }, { on := 3, ground := Ground.phase }, { on := 4, ground := Ground.phase }, { on := 5, ground := Ground.phase }, { on := 6, ground := Ground.phase }, { on := 7, ground := Ground.phase }, { on := 8, ground := Ground.phase }, { on := 9, ground := Ground.phase }, { on := 10, ground := Ground.phase }, { on := 11, ground := Ground.phase }], guard := none }) (v := ?va_35) rfl (by kernel_rfl) (by kernel_rfl) (by kernel_rfl) (fun _ _ _ h => h) (Or.inl ⟨by rfl, ?hya_35⟩) (by assumption) ?resta_35
          case hya_35 => intro w hSw; (try dsimp only at hSw); go_simp; try with_reducible rfl
          try simp only [Act.put, List.setIfInBounds_toArray, List.set_cons_zero, List.set_cons_succ]
          refine wpAnyH_ready (rs := [14]) (by kernel_rfl) (by simp) ?_
          refine AllReadyH.cons (o := { dst := none, op := Op.store 59 (Operand.tmp 20) (Operand.tmp 18), type := 0, pos := "ref.go:32", after := #[{ on := 13, ground := Ground.data }, { on := 11, ground := Ground.data }, { on := 11, ground := Ground.chain }, { on := 0, ground := Ground.phase }, { on := 1, ground := Ground.phase }, { on := 2, ground := Ground.phase }, { on := 3, ground := Ground.phase }, { on := 4, ground := Ground.phase }, { on := 5, ground := Ground.phase }, { on := 6, ground := Ground.phase }, { on := 7, ground := Ground.phase }, { on := 8, ground := Ground.phase }, { on := 9, ground := Ground.phase }, { on := 10, ground := Ground.phase }, { on := 11, ground := Ground.phase }], guard := none }) rfl (fun K hK => ?_) AllReadyH.nil
          go_simp
          try go_wp2_with fail
          refine hK.out _ _ ?hSa_36 ?resta_36
          case hSa_36 => (try dsimp only); all_goals trivial
          clear hK K hHeld
          intro hHeld
          try simp only [Act.put, List.setIfInBounds_toArray, List.set_cons_zero, List.set_cons_succ]
          refine wpAnyH_done (by kernel_rfl) ?_ _
          refine NoPanic.normal ?_
          exact ⟨rfl, _, _, _, _, _, _, _, _, _, _, _, _, _, _, _, _, rfl, _, _, FIN⟩
        · have hdum := True.intro
          go_simp
          refine (rnat_any _ _ _ _).mono ?_; rintro e y3 ⟨rfl, c3⟩; have hcur := next hcur c3; have zb := (IC.below hcur).bx
          try go_wp2_with fail
          refine hK.out _ _ ?hSa_37 ?resta_37
          case hSa_37 => (try dsimp only); all_goals trivial
          clear hK K hHeld
          intro hHeld
          try simp only [Act.put, List.setIfInBounds_toArray, List.set_cons_zero, List.set_cons_succ]
          refine wpAnyH_ready (rs := [4, 8]) (by kernel_rfl) (by simp) ?_
          refine (AllReadyH.cons (o := { dst := some 11, op := Op.load 59 (Operand.tmp 10), type := 59, pos := "ref.go:32", after := #[{ on := 3, ground := Ground.data }], guard := none }) rfl (fun K hK => ?_) (AllReadyH.cons (o := { dst := some 15, op := Op.buildSlice 31 3 #[(0, Operand.tmp 12), (1, Operand.tmp 13), (2, Operand.tmp 14)], type := 31, pos := "ref.go:32", after := #[{ on := 5, ground := Ground.data }, { on := 6, ground := Ground.data }, { on := 7, ground := Ground.data }], guard := none }) rfl (fun K hK => ?_) AllReadyH.nil))
          · have hdum := True.intro
            go_simp
            try go_wp2_with fail
            refine hK.out _ _ ?hSa_38 ?resta_38
            case hSa_38 => (try dsimp only); all_goals trivial
            clear hK K hHeld
            intro hHeld
            try simp only [Act.put, List.setIfInBounds_toArray, List.set_cons_zero, List.set_cons_succ]
            refine wpAnyH_ready (rs := [8]) (by kernel_rfl) (by simp) ?_
            refine AllReadyH.cons (o := { dst := some 15, op := Op.buildSlice 31 3 #[(0, Operand.tmp 12), (1, Operand.tmp 13), (2, Operand.tmp 14)], type := 31, pos := "ref.go:32", after := #[{ on := 5, ground := Ground.data }, { on := 6, ground := Ground.data }, { on := 7, ground := Ground.data }], guard := none }) rfl (fun K hK => ?_) AllReadyH.nil
            go_simp
            have qg := geOf IC hcur; have K8 := blkOf hcur #[.string ⟨#[119, 97, 105, 116]⟩, .string ⟨#[40, 41, 86]⟩, .bool false, .bool true, .int .i64 0, .int .i64 0, .slice none 0 0, .slice none 0 0, .slice none 0 0, .string ⟨#[110, 111, 116, 105, 102, 121]⟩, .string ⟨#[40, 41, 86]⟩, .bool false, .bool true, .int .i64 0, .int .i64 0, .slice none 0 0, .slice none 0 0, .slice none 0 0, .string ⟨#[110, 111, 116, 105, 102, 121, 65, 108, 108]⟩, .string ⟨#[40, 41, 86]⟩, .bool false, .bool true, .int .i64 0, .int .i64 0, .slice none 0 0, .slice none 0 0, .slice none 0 0] 43; (try simp only [World.size_alloc] at K8 qg); have hcur := allocOf hcur (.cells #[.string ⟨#[119, 97, 105, 116]⟩, .string ⟨#[40, 41, 86]⟩, .bool false, .bool true, .int .i64 0, .int .i64 0, .slice none 0 0, .slice none 0 0, .slice none 0 0, .string ⟨#[110, 111, 116, 105, 102, 121]⟩, .string ⟨#[40, 41, 86]⟩, .bool false, .bool true, .int .i64 0, .int .i64 0, .slice none 0 0, .slice none 0 0, .slice none 0 0, .string ⟨#[110, 111, 116, 105, 102, 121, 65, 108, 108]⟩, .string ⟨#[40, 41, 86]⟩, .bool false, .bool true, .int .i64 0, .int .i64 0, .slice none 0 0, .slice none 0 0, .slice none 0 0] 43); have zb := (IC.below hcur).bx
            try go_wp2_with fail
            refine hK.out _ _ ?hSa_39 ?resta_39
            case hSa_39 => (try dsimp only); all_goals trivial
            clear hK K hHeld
            intro hHeld
            try simp only [Act.put, List.setIfInBounds_toArray, List.set_cons_zero, List.set_cons_succ]
            refine wpAnyH_take (i := 9) (oi := { dst := some 16, op := Op.build 33 #[(0, Operand.const (Value.string { data := #[79, 98, 106, 101, 99, 116] })), (4, Operand.tmp 15)], type := 33, pos := "ref.go:32", after := #[{ on := 8, ground := Ground.data }], guard := none }) (v := ?va_40) rfl (by kernel_rfl) (by kernel_rfl) (by kernel_rfl) (fun _ _ _ h => h) (Or.inl ⟨by rfl, ?hya_40⟩) (by assumption) ?resta_40
            case hya_40 => intro w hSw; (try dsimp only at hSw); go_simp; try with_reducible rfl
            try simp only [Act.put, List.setIfInBounds_toArray, List.set_cons_zero, List.set_cons_succ]
            refine wpAnyH_ready (rs := [10]) (by kernel_rfl) (by simp) ?_
            refine AllReadyH.cons (o := { dst := some 17, op := Op.buildSlice 59 1 #[(0, Operand.tmp 16)], type := 59, pos := "ref.go:32", after := #[{ on := 9, ground := Ground.data }], guard := none }) rfl (fun K hK => ?_) AllReadyH.nil
            go_simp
            obtain ⟨K10, hcur, K8⟩ := cls1 hcur K8 (fun g => #[.string ⟨#[79, 98, 106, 101, 99, 116]⟩, .string ⟨#[]⟩, .slice none 0 0, .slice none 0 0, .slice (some ⟨g, 0, none⟩) 3 3]) hcur.size; (try simp only [World.size_alloc] at K10); have zb := (IC.below hcur).bx
            try go_wp2_with fail
            refine hK.out _ _ ?hSa_41 ?resta_41
            case hSa_41 => (try dsimp only); all_goals trivial
            clear hK K hHeld
            intro hHeld
            try simp only [Act.put, List.setIfInBounds_toArray, List.set_cons_zero, List.set_cons_succ]
            refine wpAnyH_ready (rs := [11]) (by kernel_rfl) (by simp) ?_
            refine AllReadyH.cons (o := { dst := some 18, op := Op.call { callee := Callee.builtin Builtin.append, args := #[Operand.tmp 11, Operand.tmp 17], argTypes := #[59, 59] }, type := 59, pos := "ref.go:32", after := #[{ on := 4, ground := Ground.data }, { on := 10, ground := Ground.data }, { on := 7, ground := Ground.chain }], guard := none }) rfl (fun K hK => ?_) AllReadyH.nil
            have I9 := IC.below hcur
            have o9 := I9.o
            rw [hlen] at o9
            obtain ⟨v9, w9, hr9, ho9, hg9, _, hat9⟩ := run_append_own_at (P := Try.prog) _ _ 59 59 33 i0 (.agg #[.string ⟨#[]⟩, .string ⟨#[]⟩, .slice none 0 0, .slice none 0 0, .slice none 0 0]) 5 104 Try.underlying59 hi hz0 hz1 hz2 rfl (by decide) _ _ _ o9 _ 1 1 _ rfl (World.news_of_block K10) (by intro u hu; simp at hu; rcases hu with rfl | rfl | rfl | rfl | rfl <;> rfl) (by unfold maxLen; omega) (by omega) I9.B.size
            obtain ⟨g9, cap9, rfl⟩ := own_form ho9 (by omega)
            obtain ⟨rows10, I10⟩ := I9.push1 hlen objectK _ ho9 hg9 hat9 rfl (objA K8 (newOf I9.o K8 (by decide) qg))
            have zb := I10.bx
            have zf := I10.box.frozen 0
            have FIN := I10.restore
            refine op_append (v := .slice none 0 0) (vb := .slice (some ⟨_, 0, none⟩) 1 1) rfl rfl rfl rfl hr9 ?_
            refine hK.out _ _ ?hSa_42 ?resta_42
            case hSa_42 => (try dsimp only); all_goals trivial
            clear hK K hHeld
            intro hHeld
            try simp only [Act.put, List.setIfInBounds_toArray, List.set_cons_zero, List.set_cons_succ]
            refine wpAnyH_take (i := 12) (oi := { dst := some 19, op := Op.nilCheck (Operand.tmp 7), type := 0, pos := "ref.go:32", after := #[{ on := 0, ground := Ground.data }, { on := 0, ground := Ground.phase }, { on := 1, ground := Ground.phase }, { on := 2, ground := Ground.phase }, { on := 3, ground := Ground.phase }, { on := 4, ground := Ground.phase }, { on := 5, ground := Ground.phase }, { on := 6, ground := Ground.phase }, { on := 7, ground := Ground.phase }, { on := 8, ground := Ground.phase }, { on := 9, ground := Ground.phase }, { on := 10, ground := Ground.phase }, { on := 11, ground := Ground.phase }], guard := none }) (v := ?va_43) rfl (by kernel_rfl) (by kernel_rfl) (by kernel_rfl) (fun _ _ _ h => h) (Or.inl ⟨by rfl, ?hya_43⟩) (by assumption) ?resta_43
            case hya_43 => intro w hSw; (try dsimp only at hSw); go_simp; try with_reducible rfl
            try simp only [Act.put, List.setIfInBounds_toArray, List.set_cons_zero, List.set_cons_succ]
            refine wpAnyH_take (i := 13) (oi := { dst := some 20, op := Op.fieldAddr 63 (Operand.tmp 19) 0, type := 0, pos := "ref.go:32", after := #[{ on := 12, ground := Ground.data }, { on := 0, ground := Ground.phase }, { on := 1, ground := Ground.phase }, { on := 2, ground := Ground.phase }, { on := 3, ground := Ground.phase }, { on := 4, ground := Ground.phase }, { on := 5, ground := Ground.phase }, { on := 6, ground := Ground.phase }, { on := 7, ground := Ground.phase }, { on := 8, ground := Ground.phase }, { on := 9, ground := Ground.phase }, { on := 10, ground := Ground.phase }, { on := 11, ground := Ground.phase }], guard := none }) (v := ?va_44) rfl (by kernel_rfl) (by kernel_rfl) (by kernel_rfl) (fun _ _ _ h => h) (Or.inl ⟨by rfl, ?hya_44⟩) (by assumption) ?resta_44
            case hya_44 => intro w hSw; (try dsimp only at hSw); go_simp; try with_reducible rfl
            try simp only [Act.put, List.setIfInBounds_toArray, List.set_cons_zero, List.set_cons_succ]
            refine wpAnyH_ready (rs := [14]) (by kernel_rfl) (by simp) ?_
            refine AllReadyH.cons (o := { dst := none, op := Op.store 59 (Operand.tmp 20) (Operand.tmp 18), type := 0, pos := "ref.go:32", after := #[{ on := 13, ground := Ground.data }, { on := 11, ground := Ground.data }, { on := 11, ground := Ground.chain }, { on := 0, ground := Ground.phase }, { on := 1, ground := Ground.phase }, { on := 2, ground := Ground.phase }, { on := 3, ground := Ground.phase }, { on := 4, ground := Ground.phase }, { on := 5, ground := Ground.phase }, { on := 6, ground := Ground.phase }, { on := 7, ground := Ground.phase }, { on := 8, ground := Ground.phase }, { on := 9, ground := Ground.phase }, { on := 10, ground := Ground.phase }, { on := 11, ground := Ground.phase }], guard := none }) rfl (fun K hK => ?_) AllReadyH.nil
            go_simp
            try go_wp2_with fail
            refine hK.out _ _ ?hSa_45 ?resta_45
            case hSa_45 => (try dsimp only); all_goals trivial
            clear hK K hHeld
            intro hHeld
            try simp only [Act.put, List.setIfInBounds_toArray, List.set_cons_zero, List.set_cons_succ]
            refine wpAnyH_done (by kernel_rfl) ?_ _
            refine NoPanic.normal ?_
            exact ⟨rfl, _, _, _, _, _, _, _, _, _, _, _, _, _, _, _, _, rfl, _, _, FIN⟩
          · have hdum := True.intro
            go_simp
            have qg := geOf IC hcur; have K8 := blkOf hcur #[.string ⟨#[119, 97, 105, 116]⟩, .string ⟨#[40, 41, 86]⟩, .bool false, .bool true, .int .i64 0, .int .i64 0, .slice none 0 0, .slice none 0 0, .slice none 0 0, .string ⟨#[110, 111, 116, 105, 102, 121]⟩, .string ⟨#[40, 41, 86]⟩, .bool false, .bool true, .int .i64 0, .int .i64 0, .slice none 0 0, .slice none 0 0, .slice none 0 0, .string ⟨#[110, 111, 116, 105, 102, 121, 65, 108, 108]⟩, .string ⟨#[40, 41, 86]⟩, .bool false, .bool true, .int .i64 0, .int .i64 0, .slice none 0 0, .slice none 0 0, .slice none 0 0] 43; (try simp only [World.size_alloc] at K8 qg); have hcur := allocOf hcur (.cells #[.string ⟨#[119, 97, 105, 116]⟩, .string ⟨#[40, 41, 86]⟩, .bool false, .bool true, .int .i64 0, .int .i64 0, .slice none 0 0, .slice none 0 0, .slice none 0 0, .string ⟨#[110, 111, 116, 105, 102, 121]⟩, .string ⟨#[40, 41, 86]⟩, .bool false, .bool true, .int .i64 0, .int .i64 0, .slice none 0 0, .slice none 0 0, .slice none 0 0, .string ⟨#[110, 111, 116, 105, 102, 121, 65, 108, 108]⟩, .string ⟨#[40, 41, 86]⟩, .bool false, .bool true, .int .i64 0, .int .i64 0, .slice none 0 0, .slice none 0 0, .slice none 0 0] 43); have zb := (IC.below hcur).bx
            try go_wp2_with fail
            refine hK.out _ _ ?hSa_46 ?resta_46
            case hSa_46 => (try dsimp only); all_goals trivial
            clear hK K hHeld
            intro hHeld
            try simp only [Act.put, List.setIfInBounds_toArray, List.set_cons_zero, List.set_cons_succ]
            refine wpAnyH_take (i := 9) (oi := { dst := some 16, op := Op.build 33 #[(0, Operand.const (Value.string { data := #[79, 98, 106, 101, 99, 116] })), (4, Operand.tmp 15)], type := 33, pos := "ref.go:32", after := #[{ on := 8, ground := Ground.data }], guard := none }) (v := ?va_47) rfl (by kernel_rfl) (by kernel_rfl) (by kernel_rfl) (fun _ _ _ h => h) (Or.inl ⟨by rfl, ?hya_47⟩) (by assumption) ?resta_47
            case hya_47 => intro w hSw; (try dsimp only at hSw); go_simp; try with_reducible rfl
            try simp only [Act.put, List.setIfInBounds_toArray, List.set_cons_zero, List.set_cons_succ]
            refine wpAnyH_ready (rs := [4, 10]) (by kernel_rfl) (by simp) ?_
            refine (AllReadyH.cons (o := { dst := some 11, op := Op.load 59 (Operand.tmp 10), type := 59, pos := "ref.go:32", after := #[{ on := 3, ground := Ground.data }], guard := none }) rfl (fun K hK => ?_) (AllReadyH.cons (o := { dst := some 17, op := Op.buildSlice 59 1 #[(0, Operand.tmp 16)], type := 59, pos := "ref.go:32", after := #[{ on := 9, ground := Ground.data }], guard := none }) rfl (fun K hK => ?_) AllReadyH.nil))
            · have hdum := True.intro
              go_simp
              try go_wp2_with fail
              refine hK.out _ _ ?hSa_48 ?resta_48
              case hSa_48 => (try dsimp only); all_goals trivial
              clear hK K hHeld
              intro hHeld
              try simp only [Act.put, List.setIfInBounds_toArray, List.set_cons_zero, List.set_cons_succ]
              refine wpAnyH_ready (rs := [10]) (by kernel_rfl) (by simp) ?_
              refine AllReadyH.cons (o := { dst := some 17, op := Op.buildSlice 59 1 #[(0, Operand.tmp 16)], type := 59, pos := "ref.go:32", after := #[{ on := 9, ground := Ground.data }], guard := none }) rfl (fun K hK => ?_) AllReadyH.nil
              go_simp
              obtain ⟨K10, hcur, K8⟩ := cls1 hcur K8 (fun g => #[.string ⟨#[79, 98, 106, 101, 99, 116]⟩, .string ⟨#[]⟩, .slice none 0 0, .slice none 0 0, .slice (some ⟨g, 0, none⟩) 3 3]) hcur.size; (try simp only [World.size_alloc] at K10); have zb := (IC.below hcur).bx
              try go_wp2_with fail
              refine hK.out _ _ ?hSa_49 ?resta_49
              case hSa_49 => (try dsimp only); all_goals trivial
              clear hK K hHeld
              intro hHeld
              try simp only [Act.put, List.setIfInBounds_toArray, List.set_cons_zero, List.set_cons_succ]
              refine wpAnyH_ready (rs := [11]) (by kernel_rfl) (by simp) ?_
              refine AllReadyH.cons (o := { dst := some 18, op := Op.call { callee := Callee.builtin Builtin.append, args := #[Operand.tmp 11, Operand.tmp 17], argTypes := #[59, 59] }, type := 59, pos := "ref.go:32", after := #[{ on := 4, ground := Ground.data }, { on := 10, ground := Ground.data }, { on := 7, ground := Ground.chain }], guard := none }) rfl (fun K hK => ?_) AllReadyH.nil
              have I9 := IC.below hcur
              have o9 := I9.o
              rw [hlen] at o9
              obtain ⟨v9, w9, hr9, ho9, hg9, _, hat9⟩ := run_append_own_at (P := Try.prog) _ _ 59 59 33 i0 (.agg #[.string ⟨#[]⟩, .string ⟨#[]⟩, .slice none 0 0, .slice none 0 0, .slice none 0 0]) 5 104 Try.underlying59 hi hz0 hz1 hz2 rfl (by decide) _ _ _ o9 _ 1 1 _ rfl (World.news_of_block K10) (by intro u hu; simp at hu; rcases hu with rfl | rfl | rfl | rfl | rfl <;> rfl) (by unfold maxLen; omega) (by omega) I9.B.size
              obtain ⟨g9, cap9, rfl⟩ := own_form ho9 (by omega)
              obtain ⟨rows10, I10⟩ := I9.push1 hlen objectK _ ho9 hg9 hat9 rfl (objA K8 (newOf I9.o K8 (by decide) qg))
              have zb := I10.bx
              have zf := I10.box.frozen 0
              have FIN := I10.restore
              refine op_append (v := .slice none 0 0) (vb := .slice (some ⟨_, 0, none⟩) 1 1) rfl rfl rfl rfl hr9 ?_
              refine hK.out _ _ ?hSa_50 ?resta_50
              case hSa_50 => (try dsimp only); all_goals trivial
              clear hK K hHeld
              intro hHeld
              try simp only [Act.put, List.setIfInBounds_toArray, List.set_cons_zero, List.set_cons_succ]
              refine wpAnyH_take (i := 12) (oi := { dst := some 19, op := Op.nilCheck (Operand.tmp 7), type := 0, pos := "ref.go:32", after := #[{ on := 0, ground := Ground.data }, { on := 0, ground := Ground.phase }, { on := 1, ground := Ground.phase }, { on := 2, ground := Ground.phase }, { on := 3, ground := Ground.phase }, { on := 4, ground := Ground.phase }, { on := 5, ground := Ground.phase }, { on := 6, ground := Ground.phase }, { on := 7, ground := Ground.phase }, { on := 8, ground := Ground.phase }, { on := 9, ground := Ground.phase }, { on := 10, ground := Ground.phase }, { on := 11, ground := Ground.phase }], guard := none }) (v := ?va_51) rfl (by kernel_rfl) (by kernel_rfl) (by kernel_rfl) (fun _ _ _ h => h) (Or.inl ⟨by rfl, ?hya_51⟩) (by assumption) ?resta_51
              case hya_51 => intro w hSw; (try dsimp only at hSw); go_simp; try with_reducible rfl
              try simp only [Act.put, List.setIfInBounds_toArray, List.set_cons_zero, List.set_cons_succ]
              refine wpAnyH_take (i := 13) (oi := { dst := some 20, op := Op.fieldAddr 63 (Operand.tmp 19) 0, type := 0, pos := "ref.go:32", after := #[{ on := 12, ground := Ground.data }, { on := 0, ground := Ground.phase }, { on := 1, ground := Ground.phase }, { on := 2, ground := Ground.phase }, { on := 3, ground := Ground.phase }, { on := 4, ground := Ground.phase }, { on := 5, ground := Ground.phase }, { on := 6, ground := Ground.phase }, { on := 7, ground := Ground.phase }, { on := 8, ground := Ground.phase }, { on := 9, ground := Ground.phase }, { on := 10, ground := Ground.phase }, { on := 11, ground := Ground.phase }], guard := none }) (v := ?va_52) rfl (by kernel_rfl) (by kernel_rfl) (by kernel_rfl) (fun _ _ _ h => h) (Or.inl ⟨by rfl, ?hya_52⟩) (by assumption) ?resta_52
              case hya_52 => intro w hSw; (try dsimp only at hSw); go_simp; try with_reducible rfl
              try simp only [Act.put, List.setIfInBounds_toArray, List.set_cons_zero, List.set_cons_succ]
              refine wpAnyH_ready (rs := [14]) (by kernel_rfl) (by simp) ?_
              refine AllReadyH.cons (o := { dst := none, op := Op.store 59 (Operand.tmp 20) (Operand.tmp 18), type := 0, pos := "ref.go:32", after := #[{ on := 13, ground := Ground.data }, { on := 11, ground := Ground.data }, { on := 11, ground := Ground.chain }, { on := 0, ground := Ground.phase }, { on := 1, ground := Ground.phase }, { on := 2, ground := Ground.phase }, { on := 3, ground := Ground.phase }, { on := 4, ground := Ground.phase }, { on := 5, ground := Ground.phase }, { on := 6, ground := Ground.phase }, { on := 7, ground := Ground.phase }, { on := 8, ground := Ground.phase }, { on := 9, ground := Ground.phase }, { on := 10, ground := Ground.phase }, { on := 11, ground := Ground.phase }], guard := none }) rfl (fun K hK => ?_) AllReadyH.nil
              go_simp
              try go_wp2_with fail
              refine hK.out _ _ ?hSa_53 ?resta_53
              case hSa_53 => (try dsimp only); all_goals trivial
              clear hK K hHeld
              intro hHeld
              try simp only [Act.put, List.setIfInBounds_toArray, List.set_cons_zero, List.set_cons_succ]
              refine wpAnyH_done (by kernel_rfl) ?_ _
              refine NoPanic.normal ?_
              exact ⟨rfl, _, _, _, _, _, _, _, _, _, _, _, _, _, _, _, _, rfl, _, _, FIN⟩
            · have hdum := True.intro
              go_simp
              obtain ⟨K10, hcur, K8⟩ := cls1 hcur K8 (fun g => #[.string ⟨#[79, 98, 106, 101, 99, 116]⟩, .string ⟨#[]⟩, .slice none 0 0, .slice none 0 0, .slice (some ⟨g, 0, none⟩) 3 3]) hcur.size; (try simp only [World.size_alloc] at K10); have zb := (IC.below hcur).bx
              try go_wp2_with fail
              refine hK.out _ _ ?hSa_54 ?resta_54
              case hSa_54 => (try dsimp only); all_goals trivial
              clear hK K hHeld
              intro hHeld
              try simp only [Act.put, List.setIfInBounds_toArray, List.set_cons_zero, List.set_cons_succ]
              refine wpAnyH_ready (rs := [4]) (by kernel_rfl) (by simp) ?_
              refine AllReadyH.cons (o := { dst := some 11, op := Op.load 59 (Operand.tmp 10), type := 59, pos := "ref.go:32", after := #[{ on := 3, ground := Ground.data }], guard := none }) rfl (fun K hK => ?_) AllReadyH.nil
              go_simp
              try go_wp2_with fail
              refine hK.out _ _ ?hSa_55 ?resta_55
              case hSa_55 => (try dsimp only); all_goals trivial
              clear hK K hHeld
              intro hHeld
              try simp only [Act.put, List.setIfInBounds_toArray, List.set_cons_zero, List.set_cons_succ]
              refine wpAnyH_ready (rs := [11]) (by kernel_rfl) (by simp) ?_
              refine AllReadyH.cons (o := { dst := some 18, op := Op.call { callee := Callee.builtin Builtin.append, args := #[Operand.tmp 11, Operand.tmp 17], argTypes := #[59, 59] }, type := 59, pos := "ref.go:32", after := #[{ on := 4, ground := Ground.data }, { on := 10, ground := Ground.data }, { on := 7, ground := Ground.chain }], guard := none }) rfl (fun K hK => ?_) AllReadyH.nil
              have I9 := IC.below hcur
              have o9 := I9.o
              rw [hlen] at o9
              obtain ⟨v9, w9, hr9, ho9, hg9, _, hat9⟩ := run_append_own_at (P := Try.prog) _ _ 59 59 33 i0 (.agg #[.string ⟨#[]⟩, .string ⟨#[]⟩, .slice none 0 0, .slice none 0 0, .slice none 0 0]) 5 104 Try.underlying59 hi hz0 hz1 hz2 rfl (by decide) _ _ _ o9 _ 1 1 _ rfl (World.news_of_block K10) (by intro u hu; simp at hu; rcases hu with rfl | rfl | rfl | rfl | rfl <;> rfl) (by unfold maxLen; omega) (by omega) I9.B.size
              obtain ⟨g9, cap9, rfl⟩ := own_form ho9 (by omega)
              obtain ⟨rows10, I10⟩ := I9.push1 hlen objectK _ ho9 hg9 hat9 rfl (objA K8 (newOf I9.o K8 (by decide) qg))
              have zb := I10.bx
              have zf := I10.box.frozen 0
              have FIN := I10.restore
              refine op_append (v := .slice none 0 0) (vb := .slice (some ⟨_, 0, none⟩) 1 1) rfl rfl rfl rfl hr9 ?_
              refine hK.out _ _ ?hSa_56 ?resta_56
              case hSa_56 => (try dsimp only); all_goals trivial
              clear hK K hHeld
              intro hHeld
              try simp only [Act.put, List.setIfInBounds_toArray, List.set_cons_zero, List.set_cons_succ]
              refine wpAnyH_take (i := 12) (oi := { dst := some 19, op := Op.nilCheck (Operand.tmp 7), type := 0, pos := "ref.go:32", after := #[{ on := 0, ground := Ground.data }, { on := 0, ground := Ground.phase }, { on := 1, ground := Ground.phase }, { on := 2, ground := Ground.phase }, { on := 3, ground := Ground.phase }, { on := 4, ground := Ground.phase }, { on := 5, ground := Ground.phase }, { on := 6, ground := Ground.phase }, { on := 7, ground := Ground.phase }, { on := 8, ground := Ground.phase }, { on := 9, ground := Ground.phase }, { on := 10, ground := Ground.phase }, { on := 11, ground := Ground.phase }], guard := none }) (v := ?va_57) rfl (by kernel_rfl) (by kernel_rfl) (by kernel_rfl) (fun _ _ _ h => h) (Or.inl ⟨by rfl, ?hya_57⟩) (by assumption) ?resta_57
              case hya_57 => intro w hSw; (try dsimp only at hSw); go_simp; try with_reducible rfl
              try simp only [Act.put, List.setIfInBounds_toArray, List.set_cons_zero, List.set_cons_succ]
              refine wpAnyH_take (i := 13) (oi := { dst := some 20, op := Op.fieldAddr 63 (Operand.tmp 19) 0, type := 0, pos := "ref.go:32", after := #[{ on := 12, ground := Ground.data }, { on := 0, ground := Ground.phase }, { on := 1, ground := Ground.phase }, { on := 2, ground := Ground.phase }, { on := 3, ground := Ground.phase }, { on := 4, ground := Ground.phase }, { on := 5, ground := Ground.phase }, { on := 6, ground := Ground.phase }, { on := 7, ground := Ground.phase }, { on := 8, ground := Ground.phase }, { on := 9, ground := Ground.phase }, { on := 10, ground := Ground.phase }, { on := 11, ground := Ground.phase }], guard := none }) (v := ?va_58) rfl (by kernel_rfl) (by kernel_rfl) (by kernel_rfl) (fun _ _ _ h => h) (Or.inl ⟨by rfl, ?hya_58⟩) (by assumption) ?resta_58
              case hya_58 => intro w hSw; (try dsimp only at hSw); go_simp; try with_reducible rfl
              try simp only [Act.put, List.setIfInBounds_toArray, List.set_cons_zero, List.set_cons_succ]
              refine wpAnyH_ready (rs := [14]) (by kernel_rfl) (by simp) ?_
              refine AllReadyH.cons (o := { dst := none, op := Op.store 59 (Operand.tmp 20) (Operand.tmp 18), type := 0, pos := "ref.go:32", after := #[{ on := 13, ground := Ground.data }, { on := 11, ground := Ground.data }, { on := 11, ground := Ground.chain }, { on := 0, ground := Ground.phase }, { on := 1, ground := Ground.phase }, { on := 2, ground := Ground.phase }, { on := 3, ground := Ground.phase }, { on := 4, ground := Ground.phase }, { on := 5, ground := Ground.phase }, { on := 6, ground := Ground.phase }, { on := 7, ground := Ground.phase }, { on := 8, ground := Ground.phase }, { on := 9, ground := Ground.phase }, { on := 10, ground := Ground.phase }, { on := 11, ground := Ground.phase }], guard := none }) rfl (fun K hK => ?_) AllReadyH.nil
              go_simp
              try go_wp2_with fail
              refine hK.out _ _ ?hSa_59 ?resta_59
              case hSa_59 => (try dsimp only); all_goals trivial
              clear hK K hHeld
              intro hHeld
              try simp only [Act.put, List.setIfInBounds_toArray, List.set_cons_zero, List.set_cons_succ]
              refine wpAnyH_done (by kernel_rfl) ?_ _
              refine NoPanic.normal ?_
              exact ⟨rfl, _, _, _, _, _, _, _, _, _, _, _, _, _, _, _, _, rfl, _, _, FIN⟩
  case next =>
    clear IC hcur zb hlen
    rintro e a W ⟨rfl, u5, u6, u7, u8, u9, u10, u11, u12, u13, u14, u15, u16, u17, u18, u19, u20, rfl, v, rows, IC⟩
    obtain ⟨ga, gc, rfl⟩ := own_form IC.o (by decide)
    have zb := IC.bx
    have I2 := IC.below (balloc W (.cells #[.string ⟨#[84, 104, 114, 111, 119, 97, 98, 108, 101]⟩, .string ⟨#[79, 98, 106, 101, 99, 116]⟩, .slice none 0 0, .slice none 0 0, .slice none 0 0] 33))
    have K10 := Blk.new W #[.string ⟨#[84, 104, 114, 111, 119, 97, 98, 108, 101]⟩, .string ⟨#[79, 98, 106, 101, 99, 116]⟩, .slice none 0 0, .slice none 0 0, .slice none 0 0] 33
    have o2 : (W.alloc (.cells #[.string ⟨#[84, 104, 114, 111, 119, 97, 98, 108, 101]⟩, .string ⟨#[79, 98, 106, 101, 99, 116]⟩, .slice none 0 0, .slice none 0 0, .slice none 0 0] 33)).ownsRow (putK w (.slice (some ⟨ga, 0, none⟩) 1 gc)).heap.size 33 5 (.slice (some ⟨ga, 0, none⟩) 1 gc) 1 (flatR rows 1) := I2.o
    go_wp2_with (first | (go_at_call 24; fail) | (at_builtin; refine wpList_append_own_at _ rfl _ _ 59 rfl (putK w (.slice (some ⟨ga, 0, none⟩) 1 gc)).heap.size 33 i0 (.agg #[.string ⟨#[]⟩, .string ⟨#[]⟩, .slice none 0 0, .slice none 0 0, .slice none 0 0]) 5 104 Try.underlying59 hi hz0 hz1 hz2 rfl (by decide) _ _ _ rfl o2 _ 1 1 (plainRow throwableN objectN) rfl rfl (World.news_of_block K10) (by intro u hu; simp [plainRow] at hu; rcases hu with rfl | rfl | rfl | rfl | rfl <;> rfl) (by unfold maxLen; omega) (by omega) I2.B.size ?_; intro v1 w2 ho1 hg1 _ hat1; obtain ⟨g1, cap1, rfl⟩ := own_form ho1 (by omega); obtain ⟨rows3, I3⟩ := I2.push1 rfl (plainK throwableN objectN) #[.string ⟨#[84, 104, 114, 111, 119, 97, 98, 108, 101]⟩, .string ⟨#[79, 98, 106, 101, 99, 116]⟩, .slice none 0 0, .slice none 0 0, .slice none 0 0] ho1 hg1 hat1 rfl (plain_class _ _ _ (by decide) (by decide)); have zb := I3.bx; have zf := I3.box.frozen 0; have I4 := I3.restore))
    clear IC I2 o2 K10 I3 zb zf
    generalize w2.setCell ⟨w.heap.size, 0, none⟩ (.slice (some ⟨g1, 0, none⟩) (1 + 1) cap1) = WB at *
    try go_at_call 24
    refine (rtroubles_any _).mono ?_
    rintro e w4 ⟨rfl, rfl⟩
    have IA := I4.below (balloc WB (.cells (troubles.map Value.string).toArray 9))
    have TA := Blk.new WB (troubles.map Value.string).toArray 9
    go_wp2_with fail
    generalize WB.alloc (.cells (troubles.map Value.string).toArray 9) = WL at *
    have hgt : w.heap.size ≠ WB.heap.size := fun e => by have := I4.box.lt; omega
    generalize WB.heap.size = gt at *
    clear I4
    go_loopw [3] (fun iv wr => ∃ (i : Nat) (v : Value) (rows : Nat → List Value), iv = .int .i64 (i : Int) ∧ i ≤ 9 ∧ GvI (putK w v) wr v ([objectK, plainK throwableN objectN] ++ (troubles.take i).map (fun n => plainK n throwableN)) rows ∧ Blk wr gt (troubles.map Value.string).toArray 9) (fun iv _ => 9 - (intOf iv).toNat)
    case atStart => exact ⟨0, _, _, rfl, Nat.zero_le _, IA, TA⟩
    case round =>
      obtain ⟨i, v, rows, rfl, hi9, IC, TC⟩ := hrel
      clear IA TA
      have hlen : ([objectK, plainK throwableN objectN] ++ (troubles.take i).map (fun n => plainK n throwableN)).length = 2 + i := by
        simp [List.length_take, show troubles.length = 9 from rfl]; omega
      obtain ⟨ga, gc, hlv⟩ := own_form IC.o (by rw [hlen]; omega)
      rw [hlen] at hlv
      subst hlv
      by_cases hlt : i < 9
      · have hlt' : (i : Int) < 9 := by omega
        obtain ⟨n, hn⟩ : ∃ n, troubles[i]? = some n := ⟨_, List.getElem?_eq_getElem (show i < troubles.length from hlt)⟩
        have hns := trouble_size hn
        have hks : ([objectK, plainK throwableN objectN] ++ (troubles.take i).map (fun n => plainK n throwableN)) ++ [plainK n throwableN] = ([objectK, plainK throwableN objectN] ++ (troubles.take (i + 1)).map (fun n => plainK n throwableN)) := by
          rw [List.take_add_one, hn, List.map_append, List.append_assoc]; rfl
        have HKS := D.hidIt hks
        clear hks
        have hcur := (Below.refl wr.heap.size wr).drew
        have zb := (IC.below hcur).bx
        have zw := IC.bx
        have Tc : Blk wr.drew gt (troubles.map Value.string).toArray 9 := TC
        go_wp2_with fail
        refine wp_region_noPanic ?_
        refine wp_region_held_drew (S := (fun X => X.cell? ⟨gt, i, none⟩ = some (.string n))) (by kernel_rfl) ?_ (fun hHeld => ?_)
        · (try dsimp only); first | exact tcell Tc hn | exact tcell (Tc.other (fun e => hgt e.symm) 0 _) hn
        refine wpAnyH_take (i := 0) (oi := { dst := some 38, op := Op.move (Operand.tmp 1), type := 24, pos := "ref.go:36", after := #[], guard := none }) (v := ?vb_1) rfl (by kernel_rfl) (by kernel_rfl) (by kernel_rfl) (fun _ _ _ h => h) (Or.inl ⟨by rfl, ?hyb_1⟩) (by assumption) ?restb_1
        case hyb_1 => intro w hSw; (try dsimp only at hSw); go_simp; try with_reducible rfl
        try simp only [Act.put, List.setIfInBounds_toArray, List.set_cons_zero, List.set_cons_succ]
        refine wpAnyH_take (i := 1) (oi := { dst := some 39, op := Op.move (Operand.tmp 1), type := 24, pos := "ref.go:36", after := #[], guard := none }) (v := ?vb_2) rfl (by kernel_rfl) (by kernel_rfl) (by kernel_rfl) (fun _ _ _ h => h) (Or.inl ⟨by rfl, ?hyb_2⟩) (by assumption) ?restb_2
        case hyb_2 => intro w hSw; (try dsimp only at hSw); go_simp; try with_reducible rfl
        try simp only [Act.put, List.setIfInBounds_toArray, List.set_cons_zero, List.set_cons_succ]
        refine wpAnyH_take (i := 2) (oi := { dst := some 40, op := Op.nilCheck (Operand.tmp 39), type := 0, pos := "ref.go:36", after := #[{ on := 1, ground := Ground.data }], guard := none }) (v := ?vb_3) rfl (by kernel_rfl) (by kernel_rfl) (by kernel_rfl) (fun _ _ _ h => h) (Or.inl ⟨by rfl, ?hyb_3⟩) (by assumption) ?restb_3
        case hyb_3 => intro w hSw; (try dsimp only at hSw); go_simp; try with_reducible rfl
        try simp only [Act.put, List.setIfInBounds_toArray, List.set_cons_zero, List.set_cons_succ]
        refine wpAnyH_take (i := 3) (oi := { dst := some 41, op := Op.fieldAddr 63 (Operand.tmp 40) 0, type := 0, pos := "ref.go:36", after := #[{ on := 2, ground := Ground.data }], guard := none }) (v := ?vb_4) rfl (by kernel_rfl) (by kernel_rfl) (by kernel_rfl) (fun _ _ _ h => h) (Or.inl ⟨by rfl, ?hyb_4⟩) (by assumption) ?restb_4
        case hyb_4 => intro w hSw; (try dsimp only at hSw); go_simp; try with_reducible rfl
        try simp only [Act.put, List.setIfInBounds_toArray, List.set_cons_zero, List.set_cons_succ]
        refine wpAnyH_take (i := 5) (oi := { dst := some 43, op := Op.move (Operand.tmp 2), type := 27, pos := "ref.go:36", after := #[], guard := none }) (v := ?vb_5) rfl (by kernel_rfl) (by kernel_rfl) (by kernel_rfl) (fun _ _ _ h => h) (Or.inl ⟨by rfl, ?hyb_5⟩) (by assumption) ?restb_5
        case hyb_5 => intro w hSw; (try dsimp only at hSw); go_simp; try with_reducible rfl
        try simp only [Act.put, List.setIfInBounds_toArray, List.set_cons_zero, List.set_cons_succ]
        refine wpAnyH_take (i := 6) (oi := { dst := some 44, op := Op.move (Operand.tmp 3), type := 3, pos := "ref.go:36", after := #[], guard := none }) (v := ?vb_6) rfl (by kernel_rfl) (by kernel_rfl) (by kernel_rfl) (fun _ _ _ h => h) (Or.inl ⟨by rfl, ?hyb_6⟩) (by assumption) ?restb_6
        case hyb_6 => intro w hSw; (try dsimp only at hSw); go_simp; try with_reducible rfl
        try simp only [Act.put, List.setIfInBounds_toArray, List.set_cons_zero, List.set_cons_succ]
        refine wpAnyH_take (i := 7) (oi := { dst := some 45, op := Op.indexAddr 27 (Operand.tmp 43) (Operand.tmp 44), type := 0, pos := "ref.go:36", after := #[{ on := 5, ground := Ground.data }, { on := 6, ground := Ground.data }], guard := none }) (v := ?vb_7) rfl (by kernel_rfl) (by kernel_rfl) (by kernel_rfl) (fun _ _ _ h => h) (Or.inl ⟨by rfl, ?hyb_7⟩) (by assumption) ?restb_7
        case hyb_7 => intro w hSw; (try dsimp only at hSw); go_simp; try with_reducible rfl
        try simp only [Act.put, List.setIfInBounds_toArray, List.set_cons_zero, List.set_cons_succ]
        refine wpAnyH_take (i := 8) (oi := { dst := some 46, op := Op.load 9 (Operand.tmp 45), type := 9, pos := "ref.go:36", after := #[{ on := 7, ground := Ground.data }], guard := none }) (v := ?vb_8) rfl (by kernel_rfl) (by kernel_rfl) (by kernel_rfl) (fun _ _ _ h => h) (Or.inl ⟨by rfl, ?hyb_8⟩) (by assumption) ?restb_8
        case hyb_8 => intro w hSw; (try dsimp only at hSw); go_simp; try with_reducible rfl
        try simp only [Act.put, List.setIfInBounds_toArray, List.set_cons_zero, List.set_cons_succ]
        refine wpAnyH_take (i := 9) (oi := { dst := some 47, op := Op.build 33 #[(0, Operand.tmp 46), (1, Operand.const (Value.string { data := #[84, 104, 114, 111, 119, 97, 98, 108, 101] }))], type := 33, pos := "ref.go:36", after := #[{ on := 8, ground := Ground.data }], guard := none }) (v := ?vb_9) rfl (by kernel_rfl) (by kernel_rfl) (by kernel_rfl) (fun _ _ _ h => h) (Or.inl ⟨by rfl, ?hyb_9⟩) (by assumption) ?restb_9
        case hyb_9 => intro w hSw; (try dsimp only at hSw); go_simp; try with_reducible rfl
        try simp only [Act.put, List.setIfInBounds_toArray, List.set_cons_zero, List.set_cons_succ]
        refine wpAnyH_ready (rs := [4, 10]) (by kernel_rfl) (by simp) ?_
        refine (AllReadyH.cons (o := { dst := some 42, op := Op.load 59 (Operand.tmp 41), type := 59, pos := "ref.go:36", after := #[{ on := 3, ground := Ground.data }], guard := none }) rfl (fun K hK => ?_) (AllReadyH.cons (o := { dst := some 48, op := Op.buildSlice 59 1 #[(0, Operand.tmp 47)], type := 59, pos := "ref.go:36", after := #[{ on := 9, ground := Ground.data }], guard := none }) rfl (fun K hK => ?_) AllReadyH.nil))
        · have hdum := True.intro
          go_simp
          try go_wp2_with fail
          refine hK.out _ _ ?hSb_10 ?restb_10
          case hSb_10 => (try dsimp only); first | exact tcell Tc hn | exact tcell (Tc.other (fun e => hgt e.symm) 0 _) hn
          clear hK K hHeld
          intro hHeld
          try simp only [Act.put, List.setIfInBounds_toArray, List.set_cons_zero, List.set_cons_succ]
          refine wpAnyH_ready (rs := [10]) (by kernel_rfl) (by simp) ?_
          refine AllReadyH.cons (o := { dst := some 48, op := Op.buildSlice 59 1 #[(0, Operand.tmp 47)], type := 59, pos := "ref.go:36", after := #[{ on := 9, ground := Ground.data }], guard := none }) rfl (fun K hK => ?_) AllReadyH.nil
          go_simp
          have K10 : Blk (wr.alloc (.cells #[.string n, .string ⟨#[84, 104, 114, 111, 119, 97, 98, 108, 101]⟩, .slice none 0 0, .slice none 0 0, .slice none 0 0] 33)).drew wr.heap.size #[.string n, .string ⟨#[84, 104, 114, 111, 119, 97, 98, 108, 101]⟩, .slice none 0 0, .slice none 0 0, .slice none 0 0] 33 := Blk.new wr _ _; have Tc : Blk (wr.alloc (.cells #[.string n, .string ⟨#[84, 104, 114, 111, 119, 97, 98, 108, 101]⟩, .slice none 0 0, .slice none 0 0, .slice none 0 0] 33)).drew gt (troubles.map Value.string).toArray 9 := TC.alloc _; have hcur : Below wr.heap.size wr (wr.alloc (.cells #[.string n, .string ⟨#[84, 104, 114, 111, 119, 97, 98, 108, 101]⟩, .slice none 0 0, .slice none 0 0, .slice none 0 0] 33)).drew := (balloc wr _).drew; have zb := (IC.below hcur).bx; generalize (wr.alloc (.cells #[.string n, .string ⟨#[84, 104, 114, 111, 119, 97, 98, 108, 101]⟩, .slice none 0 0, .slice none 0 0, .slice none 0 0] 33)).drew = WX at *
          try go_wp2_with fail
          refine hK.out _ _ ?hSb_11 ?restb_11
          case hSb_11 => (try dsimp only); first | exact tcell Tc hn | exact tcell (Tc.other (fun e => hgt e.symm) 0 _) hn
          clear hK K hHeld
          intro hHeld
          try simp only [Act.put, List.setIfInBounds_toArray, List.set_cons_zero, List.set_cons_succ]
          refine wpAnyH_ready (rs := [11]) (by kernel_rfl) (by simp) ?_
          refine AllReadyH.cons (o := { dst := some 49, op := Op.call { callee := Callee.builtin Builtin.append, args := #[Operand.tmp 42, Operand.tmp 48], argTypes := #[59, 59] }, type := 59, pos := "ref.go:36", after := #[{ on := 4, ground := Ground.data }, { on := 10, ground := Ground.data }], guard := none }) rfl (fun K hK => ?_) AllReadyH.nil
          have I9 := IC.below hcur
          have o9 := I9.o
          rw [hlen] at o9
          obtain ⟨v9, w9, hr9, ho9, hg9, _, hat9⟩ := run_append_own_at (P := Try.prog) _ _ 59 59 33 i0 (.agg #[.string ⟨#[]⟩, .string ⟨#[]⟩, .slice none 0 0, .slice none 0 0, .slice none 0 0]) 5 104 Try.underlying59 hi hz0 hz1 hz2 rfl (by decide) _ _ _ o9 _ 1 1 _ rfl (World.news_of_block K10) (by intro u hu; simp at hu; rcases hu with rfl | rfl | rfl | rfl | rfl <;> rfl) (by unfold maxLen; omega) (by omega) I9.B.size
          obtain ⟨g9, cap9, rfl⟩ := own_form ho9 (by omega)
          obtain ⟨rows10, I10⟩ := I9.push1 hlen (plainK n throwableN) _ ho9 hg9 hat9 rfl (plain_class _ _ _ (by omega) (by decide))
          have zb := I10.bx
          have zf := I10.box.frozen 0
          have FIN := I10.restore
          rw [HKS.out] at FIN
          have Tc := blkGrown Tc hg9 (own_not I9.o Tc (by decide))
          refine op_append (v := .slice (some ⟨ga, 0, none⟩) (2 + i) gc) (vb := .slice (some ⟨_, 0, none⟩) 1 1) rfl rfl rfl rfl hr9 ?_
          refine hK.out _ _ ?hSb_12 ?restb_12
          case hSb_12 => (try dsimp only); first | exact tcell Tc hn | exact tcell (Tc.other (fun e => hgt e.symm) 0 _) hn
          clear hK K hHeld
          intro hHeld
          try simp only [Act.put, List.setIfInBounds_toArray, List.set_cons_zero, List.set_cons_succ]
          refine wpAnyH_take (i := 12) (oi := { dst := some 50, op := Op.nilCheck (Operand.tmp 38), type := 0, pos := "ref.go:36", after := #[{ on := 0, ground := Ground.data }, { on := 0, ground := Ground.phase }, { on := 1, ground := Ground.phase }, { on := 2, ground := Ground.phase }, { on := 3, ground := Ground.phase }, { on := 4, ground := Ground.phase }, { on := 5, ground := Ground.phase }, { on := 6, ground := Ground.phase }, { on := 7, ground := Ground.phase }, { on := 8, ground := Ground.phase }, { on := 9, ground := Ground.phase }, { on := 10, ground := Ground.phase }, { on := 11, ground := Ground.phase }], guard := none }) (v := ?vb_13) rfl (by kernel_rfl) (by kernel_rfl) (by kernel_rfl) (fun _ _ _ h => h) (Or.inl ⟨by rfl, ?hyb_13⟩) (by assumption) ?restb_13
          case hyb_13 => intro w hSw; (try dsimp only at hSw); go_simp; try with_reducible rfl
          try simp only [Act.put, List.setIfInBounds_toArray, List.set_cons_zero, List.set_cons_succ]
          refine wpAnyH_take (i := 13) (oi := { dst := some 51, op := Op.fieldAddr 63 (Operand.tmp 50) 0, type := 0, pos := "ref.go:36", after := #[{ on := 12, ground := Ground.data }, { on := 0, ground := Ground.phase }, { on := 1, ground := Ground.phase }, { on := 2, ground := Ground.phase }, { on := 3, ground := Ground.phase }, { on := 4, ground := Ground.phase }, { on := 5, ground := Ground.phase }, { on := 6, ground := Ground.phase }, { on := 7, ground := Ground.phase }, { on := 8, ground := Ground.phase }, { on := 9, ground := Ground.phase }, { on := 10, ground := Ground.phase }, { on := 11, ground := Ground.phase }], guard := none }) (v := ?vb_14) rfl (by kernel_rfl) (by kernel_rfl) (by kernel_rfl) (fun _ _ _ h => h) (Or.inl ⟨by rfl, ?hyb_14⟩) (by assumption) ?restb_14
          case hyb_14 => intro w hSw; (try dsimp only at hSw); go_simp; try with_reducible rfl
          try simp only [Act.put, List.setIfInBounds_toArray, List.set_cons_zero, List.set_cons_succ]
          refine wpAnyH_ready (rs := [14]) (by kernel_rfl) (by simp) ?_
          refine AllReadyH.cons (o := { dst := none, op := Op.store 59 (Operand.tmp 51) (Operand.tmp 49), type := 0, pos := "ref.go:36", after := #[{ on := 13, ground := Ground.data }, { on := 11, ground := Ground.data }, { on := 11, ground := Ground.chain }, { on := 0, ground := Ground.phase }, { on := 1, ground := Ground.phase }, { on := 2, ground := Ground.phase }, { on := 3, ground := Ground.phase }, { on := 4, ground := Ground.phase }, { on := 5, ground := Ground.phase }, { on := 6, ground := Ground.phase }, { on := 7, ground := Ground.phase }, { on := 8, ground := Ground.phase }, { on := 9, ground := Ground.phase }, { on := 10, ground := Ground.phase }, { on := 11, ground := Ground.phase }], guard := none }) rfl (fun K hK => ?_) AllReadyH.nil
          go_simp
          try go_wp2_with fail
          refine hK.out _ _ ?hSb_15 ?restb_15
          case hSb_15 => (try dsimp only); first | exact tcell Tc hn | exact tcell (Tc.other (fun e => hgt e.symm) 0 _) hn
          clear hK K hHeld
          intro hHeld
          try simp only [Act.put, List.setIfInBounds_toArray, List.set_cons_zero, List.set_cons_succ]
          refine wpAnyH_done (by kernel_rfl) ?_ _
          refine NoPanic.normal ?_
          go_wp2
          go_roundw
          case rel => exact ⟨i + 1, _, _, by go_num, by omega, FIN, Tc.other (fun e => hgt e.symm) 0 _⟩
          case measure => simp [intOf]; omega
        · have hdum := True.intro
          go_simp
          have K10 : Blk (wr.alloc (.cells #[.string n, .string ⟨#[84, 104, 114, 111, 119, 97, 98, 108, 101]⟩, .slice none 0 0, .slice none 0 0, .slice none 0 0] 33)).drew wr.heap.size #[.string n, .string ⟨#[84, 104, 114, 111, 119, 97, 98, 108, 101]⟩, .slice none 0 0, .slice none 0 0, .slice none 0 0] 33 := Blk.new wr _ _; have Tc : Blk (wr.alloc (.cells #[.string n, .string ⟨#[84, 104, 114, 111, 119, 97, 98, 108, 101]⟩, .slice none 0 0, .slice none 0 0, .slice none 0 0] 33)).drew gt (troubles.map Value.string).toArray 9 := TC.alloc _; have hcur : Below wr.heap.size wr (wr.alloc (.cells #[.string n, .string ⟨#[84, 104, 114, 111, 119, 97, 98, 108, 101]⟩, .slice none 0 0, .slice none 0 0, .slice none 0 0] 33)).drew := (balloc wr _).drew; have zb := (IC.below hcur).bx; generalize (wr.alloc (.cells #[.string n, .string ⟨#[84, 104, 114, 111, 119, 97, 98, 108, 101]⟩, .slice none 0 0, .slice none 0 0, .slice none 0 0] 33)).drew = WX at *
          try go_wp2_with fail
          refine hK.out _ _ ?hSb_16 ?restb_16
          case hSb_16 => (try dsimp only); first | exact tcell Tc hn | exact tcell (Tc.other (fun e => hgt e.symm) 0 _) hn
          clear hK K hHeld
          intro hHeld
          try simp only [Act.put, List.setIfInBounds_toArray, List.set_cons_zero, List.set_cons_succ]
          refine wpAnyH_ready (rs := [4]) (by kernel_rfl) (by simp) ?_
          refine AllReadyH.cons (o := { dst := some 42, op := Op.load 59 (Operand.tmp 41), type := 59, pos := "ref.go:36", after := #[{ on := 3, ground := Ground.data }], guard := none }) rfl (fun K hK => ?_) AllReadyH.nil
          go_simp
          try go_wp2_with fail
          refine hK.out _ _ ?hSb_17 ?restb_17
          case hSb_17 => (try dsimp only); first | exact tcell Tc hn | exact tcell (Tc.other (fun e => hgt e.symm) 0 _) hn
          clear hK K hHeld
          intro hHeld
          try simp only [Act.put, List.setIfInBounds_toArray, List.set_cons_zero, List.set_cons_succ]
          refine wpAnyH_ready (rs := [11]) (by kernel_rfl) (by simp) ?_
          refine AllReadyH.cons (o := { dst := some 49, op := Op.call { callee := Callee.builtin Builtin.append, args := #[Operand.tmp 42, Operand.tmp 48], argTypes := #[59, 59] }, type := 59, pos := "ref.go:36", after := #[{ on := 4, ground := Ground.data }, { on := 10, ground := Ground.data }], guard := none }) rfl (fun K hK => ?_) AllReadyH.nil
          have I9 := IC.below hcur
          have o9 := I9.o
          rw [hlen] at o9
          obtain ⟨v9, w9, hr9, ho9, hg9, _, hat9⟩ := run_append_own_at (P := Try.prog) _ _ 59 59 33 i0 (.agg #[.string ⟨#[]⟩, .string ⟨#[]⟩, .slice none 0 0, .slice none 0 0, .slice none 0 0]) 5 104 Try.underlying59 hi hz0 hz1 hz2 rfl (by decide) _ _ _ o9 _ 1 1 _ rfl (World.news_of_block K10) (by intro u hu; simp at hu; rcases hu with rfl | rfl | rfl | rfl | rfl <;> rfl) (by unfold maxLen; omega) (by omega) I9.B.size
          obtain ⟨g9, cap9, rfl⟩ := own_form ho9 (by omega)
          obtain ⟨rows10, I10⟩ := I9.push1 hlen (plainK n throwableN) _ ho9 hg9 hat9 rfl (plain_class _ _ _ (by omega) (by decide))
          have zb := I10.bx
          have zf := I10.box.frozen 0
          have FIN := I10.restore
          rw [HKS.out] at FIN
          have Tc := blkGrown Tc hg9 (own_not I9.o Tc (by decide))
          refine op_append (v := .slice (some ⟨ga, 0, none⟩) (2 + i) gc) (vb := .slice (some ⟨_, 0, none⟩) 1 1) rfl rfl rfl rfl hr9 ?_
          refine hK.out _ _ ?hSb_18 ?restb_18
          case hSb_18 => (try dsimp only); first | exact tcell Tc hn | exact tcell (Tc.other (fun e => hgt e.symm) 0 _) hn
          clear hK K hHeld
          intro hHeld
          try simp only [Act.put, List.setIfInBounds_toArray, List.set_cons_zero, List.set_cons_succ]
          refine wpAnyH_take (i := 12) (oi := { dst := some 50, op := Op.nilCheck (Operand.tmp 38), type := 0, pos := "ref.go:36", after := #[{ on := 0, ground := Ground.data }, { on := 0, ground := Ground.phase }, { on := 1, ground := Ground.phase }, { on := 2, ground := Ground.phase }, { on := 3, ground := Ground.phase }, { on := 4, ground := Ground.phase }, { on := 5, ground := Ground.phase }, { on := 6, ground := Ground.phase }, { on := 7, ground := Ground.phase }, { on := 8, ground := Ground.phase }, { on := 9, ground := Ground.phase }, { on := 10, ground := Ground.phase }, { on := 11, ground := Ground.phase }], guard := none }) (v := ?vb_19) rfl (by kernel_rfl) (by kernel_rfl) (by kernel_rfl) (fun _ _ _ h => h) (Or.inl ⟨by rfl, ?hyb_19⟩) (by assumption) ?restb_19
          case hyb_19 => intro w hSw; (try dsimp only at hSw); go_simp; try with_reducible rfl
          try simp only [Act.put, List.setIfInBounds_toArray, List.set_cons_zero, List.set_cons_succ]
          refine wpAnyH_take (i := 13) (oi := { dst := some 51, op := Op.fieldAddr 63 (Operand.tmp 50) 0, type := 0, pos := "ref.go:36", after := #[{ on := 12, ground := Ground.data }, { on := 0, ground := Ground.phase }, { on := 1, ground := Ground.phase }, { on := 2, ground := Ground.phase }, { on := 3, ground := Ground.phase }, { on := 4, ground := Ground.phase }, { on := 5, ground := Ground.phase }, { on := 6, ground := Ground.phase }, { on := 7, ground := Ground.phase }, { on := 8, ground := Ground.phase }, { on := 9, ground := Ground.phase }, { on := 10, ground := Ground.phase }, { on := 11, ground := Ground.phase }], guard := none }) (v := ?vb_20) rfl (by kernel_rfl) (by kernel_rfl) (by kernel_rfl) (fun _ _ _ h => h) (Or.inl ⟨by rfl, ?hyb_20⟩) (by assumption) ?restb_20
          case hyb_20 => intro w hSw; (try dsimp only at hSw); go_simp; try with_reducible rfl
          try simp only [Act.put, List.setIfInBounds_toArray, List.set_cons_zero, List.set_cons_succ]
          refine wpAnyH_ready (rs := [14]) (by kernel_rfl) (by simp) ?_
          refine AllReadyH.cons (o := { dst := none, op := Op.store 59 (Operand.tmp 51) (Operand.tmp 49), type := 0, pos := "ref.go:36", after := #[{ on := 13, ground := Ground.data }, { on := 11, ground := Ground.data }, { on := 11, ground := Ground.chain }, { on := 0, ground := Ground.phase }, { on := 1, ground := Ground.phase }, { on := 2, ground := Ground.phase }, { on := 3, ground := Ground.phase }, { on := 4, ground := Ground.phase }, { on := 5, ground := Ground.phase }, { on := 6, ground := Ground.phase }, { on := 7, ground := Ground.phase }, { on := 8, ground := Ground.phase }, { on := 9, ground := Ground.phase }, { on := 10, ground := Ground.phase }, { on := 11, ground := Ground.phase }], guard := none }) rfl (fun K hK => ?_) AllReadyH.nil
          go_simp
          try go_wp2_with fail
          refine hK.out _ _ ?hSb_21 ?restb_21
          case hSb_21 => (try dsimp only); first | exact tcell Tc hn | exact tcell (Tc.other (fun e => hgt e.symm) 0 _) hn
          clear hK K hHeld
          intro hHeld
          try simp only [Act.put, List.setIfInBounds_toArray, List.set_cons_zero, List.set_cons_succ]
          refine wpAnyH_done (by kernel_rfl) ?_ _
          refine NoPanic.normal ?_
          go_wp2
          go_roundw
          case rel => exact ⟨i + 1, _, _, by go_num, by omega, FIN, Tc.other (fun e => hgt e.symm) 0 _⟩
          case measure => simp [intOf]; omega
      · have hlt' : ¬ (i : Int) < 9 := by omega
        have : i = 9 := by omega
        subst this
        clear TC
        have IC0 := D.hidIt IC
        have IC := IC.below (((Below.refl _ wr).alloc (Nat.le_refl _) (.cells #[.int .u8 177] 5)).alloc (by simp) (.cells #[.string ⟨#[114, 117, 110]⟩, .string ⟨#[40, 41, 86]⟩, .bool false, .bool false, .int .i64 0, .int .i64 1, .slice (some ⟨wr.heap.size, 0, none⟩) 1 1, .slice none 0 0, .slice none 0 0] 43))
        have QB := (Blk.new wr #[.int .u8 177] 5).alloc (.cells #[.string ⟨#[114, 117, 110]⟩, .string ⟨#[40, 41, 86]⟩, .bool false, .bool false, .int .i64 0, .int .i64 1, .slice (some ⟨wr.heap.size, 0, none⟩) 1 1, .slice none 0 0, .slice none 0 0] 43)
        have RB := Blk.new (wr.alloc (.cells #[.int .u8 177] 5)) #[.string ⟨#[114, 117, 110]⟩, .string ⟨#[40, 41, 86]⟩, .bool false, .bool false, .int .i64 0, .int .i64 1, .slice (some ⟨wr.heap.size, 0, none⟩) 1 1, .slice none 0 0, .slice none 0 0] 43
        rw [World.size_alloc] at RB
        have hgq : (putK w (.slice (some ⟨ga, 0, none⟩) (2 + 9) gc)).heap.size ≤ wr.heap.size := IC0.out.B.size
        have hgq1 : wr.heap.size + 1 ≠ w.heap.size := by
          have : (putK w (.slice (some ⟨ga, 0, none⟩) (2 + 9) gc)).heap.size = w.heap.size + 1 := by simp [putK]
          omega
        go_wp2_with fail
        generalize (wr.alloc (.cells #[.int .u8 177] 5)).alloc (.cells #[.string ⟨#[114, 117, 110]⟩, .string ⟨#[40, 41, 86]⟩, .bool false, .bool false, .int .i64 0, .int .i64 1, .slice (some ⟨wr.heap.size, 0, none⟩) 1 1, .slice none 0 0, .slice none 0 0] 43) = WC at *
        generalize wr.heap.size = gq at *
        have ST := D.hidIt (fun (X : World) (h : Blk X (gq + 1) #[.string ⟨#[114, 117, 110]⟩, .string ⟨#[40, 41, 86]⟩, .bool false, .bool false, .int .i64 0, .int .i64 1, .slice (some ⟨gq, 0, none⟩) 1 1, .slice none 0 0, .slice none 0 0] 43) => (⟨h.cell 0, h.cell 1, h.cell 2, h.cell 3, h.cell 4, h.cell 5, h.cell 6, h.cell 7, h.cell 8⟩ : (fun X => X.cell? ⟨gq + 1, 0, none⟩ = some (.string ⟨#[114, 117, 110]⟩) ∧ X.cell? ⟨gq + 1, 1, none⟩ = some (.string ⟨#[40, 41, 86]⟩) ∧ X.cell? ⟨gq + 1, 2, none⟩ = some (.bool false) ∧ X.cell? ⟨gq + 1, 3, none⟩ = some (.bool false) ∧ X.cell? ⟨gq + 1, 4, none⟩ = some (.int .i64 0) ∧ X.cell? ⟨gq + 1, 5, none⟩ = some (.int .i64 1) ∧ X.cell? ⟨gq + 1, 6, none⟩ = some (.slice (some ⟨gq, 0, none⟩) 1 1) ∧ X.cell? ⟨gq + 1, 7, none⟩ = some (.slice none 0 0) ∧ X.cell? ⟨gq + 1, 8, none⟩ = some (.slice none 0 0)) X))
        have hcur := (Below.refl WC.heap.size WC).drew
        have zb := (IC.below hcur).bx
        refine Code.wp_mono (Q := fun e a W => e = Exit.normal ∧ (∃ u : Nat → Value, a = { tmps := #[.pointer none, .pointer (some ⟨w.heap.size, 0, none⟩), u 2, u 3, u 4, u 5, u 6, u 7, u 8, u 9, u 10, u 11, u 12, u 13, u 14, u 15, u 16, u 17, u 18, u 19, u 20, u 21, u 22, u 23, u 24, u 25, u 26, u 27, u 28, u 29, u 30, u 31, u 32, u 33, u 34, u 35, u 36, u 37, u 38, u 39, u 40, u 41, u 42, u 43, u 44, u 45, u 46, u 47, u 48, u 49, u 50, u 51, u 52, u 53, u 54, u 55, u 56, u 57, u 58, u 59, u 60, u 61, u 62, u 63, u 64, u 65, u 66, u 67, undef, undef, undef, undef, undef, undef, undef, undef, undef, undef, undef, undef, undef, undef], defers := [] }) ∧ ∃ v rows, GvI (putK w v) W v (([objectK, plainK throwableN objectN] ++ (troubles.take 9).map (fun n => plainK n throwableN)) ++ [threadK]) rows) ?next ?reg
        case reg =>
          refine wp_region_noPanic ?_
          refine wp_region_held_drew (S := (fun X => X.cell? ⟨gq + 1, 0, none⟩ = some (.string ⟨#[114, 117, 110]⟩) ∧ X.cell? ⟨gq + 1, 1, none⟩ = some (.string ⟨#[40, 41, 86]⟩) ∧ X.cell? ⟨gq + 1, 2, none⟩ = some (.bool false) ∧ X.cell? ⟨gq + 1, 3, none⟩ = some (.bool false) ∧ X.cell? ⟨gq + 1, 4, none⟩ = some (.int .i64 0) ∧ X.cell? ⟨gq + 1, 5, none⟩ = some (.int .i64 1) ∧ X.cell? ⟨gq + 1, 6, none⟩ = some (.slice (some ⟨gq, 0, none⟩) 1 1) ∧ X.cell? ⟨gq + 1, 7, none⟩ = some (.slice none 0 0) ∧ X.cell? ⟨gq + 1, 8, none⟩ = some (.slice none 0 0))) (by kernel_rfl) ?_ (fun hHeld => ?_)
          · (try dsimp only); first | exact ST.out _ (RB9.other hgq1 0 _) | exact ST.out _ RB9 | exact ST.out _ (RB.below hcur)
          refine wpAnyH_take (i := 0) (oi := { dst := some 54, op := Op.move (Operand.tmp 1), type := 24, pos := "ref.go:39", after := #[], guard := none }) (v := ?vc_1) rfl (by kernel_rfl) (by kernel_rfl) (by kernel_rfl) (fun _ _ _ h => h) (Or.inl ⟨by rfl, ?hyc_1⟩) (by assumption) ?restc_1
          case hyc_1 => intro w hSw; (try dsimp only at hSw); go_simp; try with_reducible rfl
          try simp only [Act.put, List.setIfInBounds_toArray, List.set_cons_zero, List.set_cons_succ]
          refine wpAnyH_take (i := 1) (oi := { dst := some 55, op := Op.move (Operand.tmp 1), type := 24, pos := "ref.go:39", after := #[], guard := none }) (v := ?vc_2) rfl (by kernel_rfl) (by kernel_rfl) (by kernel_rfl) (fun _ _ _ h => h) (Or.inl ⟨by rfl, ?hyc_2⟩) (by assumption) ?restc_2
          case hyc_2 => intro w hSw; (try dsimp only at hSw); go_simp; try with_reducible rfl
          try simp only [Act.put, List.setIfInBounds_toArray, List.set_cons_zero, List.set_cons_succ]
          refine wpAnyH_take (i := 2) (oi := { dst := some 56, op := Op.nilCheck (Operand.tmp 55), type := 0, pos := "ref.go:39", after := #[{ on := 1, ground := Ground.data }], guard := none }) (v := ?vc_3) rfl (by kernel_rfl) (by kernel_rfl) (by kernel_rfl) (fun _ _ _ h => h) (Or.inl ⟨by rfl, ?hyc_3⟩) (by assumption) ?restc_3
          case hyc_3 => intro w hSw; (try dsimp only at hSw); go_simp; try with_reducible rfl
          try simp only [Act.put, List.setIfInBounds_toArray, List.set_cons_zero, List.set_cons_succ]
          refine wpAnyH_take (i := 3) (oi := { dst := some 57, op := Op.fieldAddr 63 (Operand.tmp 56) 0, type := 0, pos := "ref.go:39", after := #[{ on := 2, ground := Ground.data }], guard := none }) (v := ?vc_4) rfl (by kernel_rfl) (by kernel_rfl) (by kernel_rfl) (fun _ _ _ h => h) (Or.inl ⟨by rfl, ?hyc_4⟩) (by assumption) ?restc_4
          case hyc_4 => intro w hSw; (try dsimp only at hSw); go_simp; try with_reducible rfl
          try simp only [Act.put, List.setIfInBounds_toArray, List.set_cons_zero, List.set_cons_succ]
          refine wpAnyH_take (i := 5) (oi := { dst := some 59, op := Op.load 43 (Operand.tmp 4), type := 43, pos := "ref.go:39", after := #[], guard := none }) (v := ?vc_5) rfl (by kernel_rfl) (by kernel_rfl) (by kernel_rfl) (fun _ _ _ h => h) (Or.inl ⟨by rfl, ?hyc_5⟩) (by assumption) ?restc_5
          case hyc_5 => intro w hSw; (try dsimp only at hSw); go_simp; try with_reducible rfl
          try simp only [Act.put, List.setIfInBounds_toArray, List.set_cons_zero, List.set_cons_succ]
          refine wpAnyH_ready (rs := [4, 6]) (by kernel_rfl) (by simp) ?_
          refine (AllReadyH.cons (o := { dst := some 58, op := Op.load 59 (Operand.tmp 57), type := 59, pos := "ref.go:39", after := #[{ on := 3, ground := Ground.data }], guard := none }) rfl (fun K hK => ?_) (AllReadyH.cons (o := { dst := some 60, op := Op.call { callee := Callee.value (Operand.func 23), args := #[Operand.const (Value.string { data := #[115, 116, 97, 114, 116] }), Operand.const (Value.string { data := #[40, 41, 86] }), Operand.const (Value.bool false)], argTypes := #[9, 9, 4] }, type := 43, pos := "ref.go:39", after := #[], guard := none }) rfl (fun K hK => ?_) AllReadyH.nil))
          · have hdum := True.intro
            go_simp
            try go_wp2_with fail
            refine hK.out _ _ ?hSc_6 ?restc_6
            case hSc_6 => (try dsimp only); first | exact ST.out _ (RB9.other hgq1 0 _) | exact ST.out _ RB9 | exact ST.out _ (RB.below hcur)
            clear hK K hHeld
            intro hHeld
            try simp only [Act.put, List.setIfInBounds_toArray, List.set_cons_zero, List.set_cons_succ]
            refine wpAnyH_ready (rs := [6]) (by kernel_rfl) (by simp) ?_
            refine AllReadyH.cons (o := { dst := some 60, op := Op.call { callee := Callee.value (Operand.func 23), args := #[Operand.const (Value.string { data := #[115, 116, 97, 114, 116] }), Operand.const (Value.string { data := #[40, 41, 86] }), Operand.const (Value.bool false)], argTypes := #[9, 9, 4] }, type := 43, pos := "ref.go:39", after := #[], guard := none }) rfl (fun K hK => ?_) AllReadyH.nil
            go_simp
            refine (rnat_any _ _ _ _).mono ?_; rintro e y1 ⟨rfl, c1⟩; have hcur := next hcur c1; have zb := (IC.below hcur).bx
            try go_wp2_with fail
            refine hK.out _ _ ?hSc_7 ?restc_7
            case hSc_7 => (try dsimp only); first | exact ST.out _ (RB9.other hgq1 0 _) | exact ST.out _ RB9 | exact ST.out _ (RB.below hcur)
            clear hK K hHeld
            intro hHeld
            try simp only [Act.put, List.setIfInBounds_toArray, List.set_cons_zero, List.set_cons_succ]
            refine wpAnyH_ready (rs := [7]) (by kernel_rfl) (by simp) ?_
            refine AllReadyH.cons (o := { dst := some 61, op := Op.call { callee := Callee.value (Operand.func 23), args := #[Operand.const (Value.string { data := #[106, 111, 105, 110] }), Operand.const (Value.string { data := #[40, 41, 86] }), Operand.const (Value.bool false)], argTypes := #[9, 9, 4] }, type := 43, pos := "ref.go:39", after := #[{ on := 6, ground := Ground.chain }], guard := none }) rfl (fun K hK => ?_) AllReadyH.nil
            go_simp
            refine (rnat_any _ _ _ _).mono ?_; rintro e y2 ⟨rfl, c2⟩; have hcur := next hcur c2; have zb := (IC.below hcur).bx
            try go_wp2_with fail
            refine hK.out _ _ ?hSc_8 ?restc_8
            case hSc_8 => (try dsimp only); first | exact ST.out _ (RB9.other hgq1 0 _) | exact ST.out _ RB9 | exact ST.out _ (RB.below hcur)
            clear hK K hHeld
            intro hHeld
            try simp only [Act.put, List.setIfInBounds_toArray, List.set_cons_zero, List.set_cons_succ]
            refine wpAnyH_ready (rs := [8]) (by kernel_rfl) (by simp) ?_
            refine AllReadyH.cons (o := { dst := some 62, op := Op.buildSlice 31 3 #[(0, Operand.tmp 59), (1, Operand.tmp 60), (2, Operand.tmp 61)], type := 31, pos := "ref.go:39", after := #[{ on := 5, ground := Ground.data }, { on := 6, ground := Ground.data }, { on := 7, ground := Ground.data }], guard := none }) rfl (fun K hK => ?_) AllReadyH.nil
            go_simp
            have qg := geOf IC hcur; have K8 := blkOf hcur #[.string ⟨#[114, 117, 110]⟩, .string ⟨#[40, 41, 86]⟩, .bool false, .bool false, .int .i64 0, .int .i64 1, .slice (some ⟨gq, 0, none⟩) 1 1, .slice none 0 0, .slice none 0 0, .string ⟨#[115, 116, 97, 114, 116]⟩, .string ⟨#[40, 41, 86]⟩, .bool false, .bool true, .int .i64 0, .int .i64 0, .slice none 0 0, .slice none 0 0, .slice none 0 0, .string ⟨#[106, 111, 105, 110]⟩, .string ⟨#[40, 41, 86]⟩, .bool false, .bool true, .int .i64 0, .int .i64 0, .slice none 0 0, .slice none 0 0, .slice none 0 0] 43; (try simp only [World.size_alloc] at K8 qg); have hcur := allocOf hcur (.cells #[.string ⟨#[114, 117, 110]⟩, .string ⟨#[40, 41, 86]⟩, .bool false, .bool false, .int .i64 0, .int .i64 1, .slice (some ⟨gq, 0, none⟩) 1 1, .slice none 0 0, .slice none 0 0, .string ⟨#[115, 116, 97, 114, 116]⟩, .string ⟨#[40, 41, 86]⟩, .bool false, .bool true, .int .i64 0, .int .i64 0, .slice none 0 0, .slice none 0 0, .slice none 0 0, .string ⟨#[106, 111, 105, 110]⟩, .string ⟨#[40, 41, 86]⟩, .bool false, .bool true, .int .i64 0, .int .i64 0, .slice none 0 0, .slice none 0 0, .slice none 0 0] 43); have zb := (IC.below hcur).bx
            try go_wp2_with fail
            refine hK.out _ _ ?hSc_9 ?restc_9
            case hSc_9 => (try dsimp only); first | exact ST.out _ (RB9.other hgq1 0 _) | exact ST.out _ RB9 | exact ST.out _ (RB.below hcur)
            clear hK K hHeld
            intro hHeld
            try simp only [Act.put, List.setIfInBounds_toArray, List.set_cons_zero, List.set_cons_succ]
            refine wpAnyH_take (i := 9) (oi := { dst := some 63, op := Op.build 33 #[(0, Operand.const (Value.string { data := #[84, 104, 114, 101, 97, 100] })), (1, Operand.const (Value.string { data := #[79, 98, 106, 101, 99, 116] })), (4, Operand.tmp 62)], type := 33, pos := "ref.go:39", after := #[{ on := 8, ground := Ground.data }], guard := none }) (v := ?vc_10) rfl (by kernel_rfl) (by kernel_rfl) (by kernel_rfl) (fun _ _ _ h => h) (Or.inl ⟨by rfl, ?hyc_10⟩) (by assumption) ?restc_10
            case hyc_10 => intro w hSw; (try dsimp only at hSw); go_simp; try with_reducible rfl
            try simp only [Act.put, List.setIfInBounds_toArray, List.set_cons_zero, List.set_cons_succ]
            refine wpAnyH_ready (rs := [10]) (by kernel_rfl) (by simp) ?_
            refine AllReadyH.cons (o := { dst := some 64, op := Op.buildSlice 59 1 #[(0, Operand.tmp 63)], type := 59, pos := "ref.go:39", after := #[{ on := 9, ground := Ground.data }], guard := none }) rfl (fun K hK => ?_) AllReadyH.nil
            go_simp
            obtain ⟨K10, hcur, K8⟩ := cls1 hcur K8 (fun g => #[.string ⟨#[84, 104, 114, 101, 97, 100]⟩, .string ⟨#[79, 98, 106, 101, 99, 116]⟩, .slice none 0 0, .slice none 0 0, .slice (some ⟨g, 0, none⟩) 3 3]) hcur.size; (try simp only [World.size_alloc] at K10); have zb := (IC.below hcur).bx
            try go_wp2_with fail
            refine hK.out _ _ ?hSc_11 ?restc_11
            case hSc_11 => (try dsimp only); first | exact ST.out _ (RB9.other hgq1 0 _) | exact ST.out _ RB9 | exact ST.out _ (RB.below hcur)
            clear hK K hHeld
            intro hHeld
            try simp only [Act.put, List.setIfInBounds_toArray, List.set_cons_zero, List.set_cons_succ]
            refine wpAnyH_ready (rs := [11]) (by kernel_rfl) (by simp) ?_
            refine AllReadyH.cons (o := { dst := some 65, op := Op.call { callee := Callee.builtin Builtin.append, args := #[Operand.tmp 58, Operand.tmp 64], argTypes := #[59, 59] }, type := 59, pos := "ref.go:39", after := #[{ on := 4, ground := Ground.data }, { on := 10, ground := Ground.data }, { on := 7, ground := Ground.chain }], guard := none }) rfl (fun K hK => ?_) AllReadyH.nil
            have I9 := IC.below hcur
            have o9 := I9.o
            rw [hlen] at o9
            obtain ⟨v9, w9, hr9, ho9, hg9, _, hat9⟩ := run_append_own_at (P := Try.prog) _ _ 59 59 33 i0 (.agg #[.string ⟨#[]⟩, .string ⟨#[]⟩, .slice none 0 0, .slice none 0 0, .slice none 0 0]) 5 104 Try.underlying59 hi hz0 hz1 hz2 rfl (by decide) _ _ _ o9 _ 1 1 _ rfl (World.news_of_block K10) (by intro u hu; simp at hu; rcases hu with rfl | rfl | rfl | rfl | rfl <;> rfl) (by unfold maxLen; omega) (by omega) I9.B.size
            obtain ⟨g9, cap9, rfl⟩ := own_form ho9 (by omega)
            obtain ⟨rows10, I10⟩ := I9.push1 hlen threadK _ ho9 hg9 hat9 rfl (thrC K8 (newOf I9.o K8 (by decide) qg) (QB.below hcur) (newOf I9.o (QB.below hcur) (by decide) hgq))
            have zb := I10.bx
            have zf := I10.box.frozen 0
            have FIN := I10.restore
            have RB9 := blkGrown (RB.below hcur) hg9 (own_not I9.o (RB.below hcur) (by decide))
            refine op_append (v := .slice (some ⟨ga, 0, none⟩) (2 + 9) gc) (vb := .slice (some ⟨_, 0, none⟩) 1 1) rfl rfl rfl rfl hr9 ?_
            refine hK.out _ _ ?hSc_12 ?restc_12
            case hSc_12 => (try dsimp only); first | exact ST.out _ (RB9.other hgq1 0 _) | exact ST.out _ RB9 | exact ST.out _ (RB.below hcur)
            clear hK K hHeld
            intro hHeld
            try simp only [Act.put, List.setIfInBounds_toArray, List.set_cons_zero, List.set_cons_succ]
            refine wpAnyH_take (i := 12) (oi := { dst := some 66, op := Op.nilCheck (Operand.tmp 54), type := 0, pos := "ref.go:39", after := #[{ on := 0, ground := Ground.data }, { on := 0, ground := Ground.phase }, { on := 1, ground := Ground.phase }, { on := 2, ground := Ground.phase }, { on := 3, ground := Ground.phase }, { on := 4, ground := Ground.phase }, { on := 5, ground := Ground.phase }, { on := 6, ground := Ground.phase }, { on := 7, ground := Ground.phase }, { on := 8, ground := Ground.phase }, { on := 9, ground := Ground.phase }, { on := 10, ground := Ground.phase }, { on := 11, ground := Ground.phase }], guard := none }) (v := ?vc_13) rfl (by kernel_rfl) (by kernel_rfl) (by kernel_rfl) (fun _ _ _ h => h) (Or.inl ⟨by rfl, ?hyc_13⟩) (by assumption) ?restc_13
            case hyc_13 => intro w hSw; (try dsimp only at hSw); go_simp; try with_reducible rfl
            try simp only [Act.put, List.setIfInBounds_toArray, List.set_cons_zero, List.set_cons_succ]
            refine wpAnyH_take (i := 13) (oi := { dst := some 67, op := Op.fieldAddr 63 (Operand.tmp 66) 0, type := 0, pos := "ref.go:39", after := #[{ on := 12, ground := Ground.data }, { on := 0, ground := Ground.phase }, { on := 1, ground := Ground.phase }, { on := 2, ground := Ground.phase }, { on := 3, ground := Ground.phase }, { on := 4, ground := Ground.phase }, { on := 5, ground := Ground.phase }, { on := 6, ground := Ground.phase }, { on := 7, ground := Ground.phase }, { on := 8, ground := Ground.phase }, { on := 9, ground := Ground.phase }, { on := 10, ground := Ground.phase }, { on := 11, ground := Ground.phase }], guard := none }) (v := ?vc_14) rfl (by kernel_rfl) (by kernel_rfl) (by kernel_rfl) (fun _ _ _ h => h) (Or.inl ⟨by rfl, ?hyc_14⟩) (by assumption) ?restc_14
            case hyc_14 => intro w hSw; (try dsimp only at hSw); go_simp; try with_reducible rfl
            try simp only [Act.put, List.setIfInBounds_toArray, List.set_cons_zero, List.set_cons_succ]
            refine wpAnyH_ready (rs := [14]) (by kernel_rfl) (by simp) ?_
            refine AllReadyH.cons (o := { dst := none, op := Op.store 59 (Operand.tmp 67) (Operand.tmp 65), type := 0, pos := "ref.go:39", after := #[{ on := 13, ground := Ground.data }, { on := 11, ground := Ground.data }, { on := 11, ground := Ground.chain }, { on := 0, ground := Ground.phase }, { on := 1, ground := Ground.phase }, { on := 2, ground := Ground.phase }, { on := 3, ground := Ground.phase }, { on := 4, ground := Ground.phase }, { on := 5, ground := Ground.phase }, { on := 6, ground := Ground.phase }, { on := 7, ground := Ground.phase }, { on := 8, ground := Ground.phase }, { on := 9, ground := Ground.phase }, { on := 10, ground := Ground.phase }, { on := 11, ground := Ground.phase }], guard := none }) rfl (fun K hK => ?_) AllReadyH.nil
            go_simp
            try go_wp2_with fail
            refine hK.out _ _ ?hSc_15 ?restc_15
            case hSc_15 => (try dsimp only); first | exact ST.out _ (RB9.other hgq1 0 _) | exact ST.out _ RB9 | exact ST.out _ (RB.below hcur)
            clear hK K hHeld
            intro hHeld
            try simp only [Act.put, List.setIfInBounds_toArray, List.set_cons_zero, List.set_cons_succ]
            refine wpAnyH_done (by kernel_rfl) ?_ _
            refine NoPanic.normal ?_
            exact ⟨rfl, mkU67 w _ _ _ _ _ _ _ _ _ _ _ _ _ _ _ _ _ _ _ _ _ _ _ _ _ _ _ _ _ _ _ _ _ _ _ _ _ _ _ _ _ _ _ _ _ _ _ _ _ _ _ _ _ _ _ _ _ _ _ _ _ _ _ _ _ _, _, _, FIN⟩
          · have hdum := True.intro
            go_simp
            refine (rnat_any _ _ _ _).mono ?_; rintro e y1 ⟨rfl, c1⟩; have hcur := next hcur c1; have zb := (IC.below hcur).bx
            try go_wp2_with fail
            refine hK.out _ _ ?hSc_16 ?restc_16
            case hSc_16 => (try dsimp only); first | exact ST.out _ (RB9.other hgq1 0 _) | exact ST.out _ RB9 | exact ST.out _ (RB.below hcur)
            clear hK K hHeld
            intro hHeld
            try simp only [Act.put, List.setIfInBounds_toArray, List.set_cons_zero, List.set_cons_succ]
            refine wpAnyH_ready (rs := [4, 7]) (by kernel_rfl) (by simp) ?_
            refine (AllReadyH.cons (o := { dst := some 58, op := Op.load 59 (Operand.tmp 57), type := 59, pos := "ref.go:39", after := #[{ on := 3, ground := Ground.data }], guard := none }) rfl (fun K hK => ?_) (AllReadyH.cons (o := { dst := some 61, op := Op.call { callee := Callee.value (Operand.func 23), args := #[Operand.const (Value.string { data := #[106, 111, 105, 110] }), Operand.const (Value.string { data := #[40, 41, 86] }), Operand.const (Value.bool false)], argTypes := #[9, 9, 4] }, type := 43, pos := "ref.go:39", after := #[{ on := 6, ground := Ground.chain }], guard := none }) rfl (fun K hK => ?_) AllReadyH.nil))
            · have hdum := True.intro
              go_simp
              try go_wp2_with fail
              refine hK.out _ _ ?hSc_17 ?restc_17
              case hSc_17 => (try dsimp only); first | exact ST.out _ (RB9.other hgq1 0 _) | exact ST.out _ RB9 | exact ST.out _ (RB.below hcur)
              clear hK K hHeld
              intro hHeld
              try simp only [Act.put, List.setIfInBounds_toArray, List.set_cons_zero, List.set_cons_succ]
              refine wpAnyH_ready (rs := [7]) (by kernel_rfl) (by simp) ?_
              refine AllReadyH.cons (o := { dst := some 61, op := Op.call { callee := Callee.value (Operand.func 23), args := #[Operand.const (Value.string { data := #[106, 111, 105, 110] }), Operand.const (Value.string { data := #[40, 41, 86] }), Operand.const (Value.bool false)], argTypes := #[9, 9, 4] }, type := 43, pos := "ref.go:39", after := #[{ on := 6, ground := Ground.chain }], guard := none }) rfl (fun K hK => ?_) AllReadyH.nil
              go_simp
              refine (rnat_any _ _ _ _).mono ?_; rintro e y2 ⟨rfl, c2⟩; have hcur := next hcur c2; have zb := (IC.below hcur).bx
              try go_wp2_with fail
              refine hK.out _ _ ?hSc_18 ?restc_18
              case hSc_18 => (try dsimp only); first | exact ST.out _ (RB9.other hgq1 0 _) | exact ST.out _ RB9 | exact ST.out _ (RB.below hcur)
              clear hK K hHeld
              intro hHeld
              try simp only [Act.put, List.setIfInBounds_toArray, List.set_cons_zero, List.set_cons_succ]
              refine wpAnyH_ready (rs := [8]) (by kernel_rfl) (by simp) ?_
              refine AllReadyH.cons (o := { dst := some 62, op := Op.buildSlice 31 3 #[(0, Operand.tmp 59), (1, Operand.tmp 60), (2, Operand.tmp 61)], type := 31, pos := "ref.go:39", after := #[{ on := 5, ground := Ground.data }, { on := 6, ground := Ground.data }, { on := 7, ground := Ground.data }], guard := none }) rfl (fun K hK => ?_) AllReadyH.nil
              go_simp
              have qg := geOf IC hcur; have K8 := blkOf hcur #[.string ⟨#[114, 117, 110]⟩, .string ⟨#[40, 41, 86]⟩, .bool false, .bool false, .int .i64 0, .int .i64 1, .slice (some ⟨gq, 0, none⟩) 1 1, .slice none 0 0, .slice none 0 0, .string ⟨#[115, 116, 97, 114, 116]⟩, .string ⟨#[40, 41, 86]⟩, .bool false, .bool true, .int .i64 0, .int .i64 0, .slice none 0 0, .slice none 0 0, .slice none 0 0, .string ⟨#[106, 111, 105, 110]⟩, .string ⟨#[40, 41, 86]⟩, .bool false, .bool true, .int .i64 0, .int .i64 0, .slice none 0 0, .slice none 0 0, .slice none 0 0] 43; (try simp only [World.size_alloc] at K8 qg); have hcur := allocOf hcur (.cells #[.string ⟨#[114, 117, 110]⟩, .string ⟨#[40, 41, 86]⟩, .bool false, .bool false, .int .i64 0, .int .i64 1, .slice (some ⟨gq, 0, none⟩) 1 1, .slice none 0 0, .slice none 0 0, .string ⟨#[115, 116, 97, 114, 116]⟩, .string ⟨#[40, 41, 86]⟩, .bool false, .bool true, .int .i64 0, .int .i64 0, .slice none 0 0, .slice none 0 0, .slice none 0 0, .string ⟨#[106, 111, 105, 110]⟩, .string ⟨#[40, 41, 86]⟩, .bool false, .bool true, .int .i64 0, .int .i64 0, .slice none 0 0, .slice none 0 0, .slice none 0 0] 43); have zb := (IC.below hcur).bx
              try go_wp2_with fail
              refine hK.out _ _ ?hSc_19 ?restc_19
              case hSc_19 => (try dsimp only); first | exact ST.out _ (RB9.other hgq1 0 _) | exact ST.out _ RB9 | exact ST.out _ (RB.below hcur)
              clear hK K hHeld
              intro hHeld
              try simp only [Act.put, List.setIfInBounds_toArray, List.set_cons_zero, List.set_cons_succ]
              refine wpAnyH_take (i := 9) (oi := { dst := some 63, op := Op.build 33 #[(0, Operand.const (Value.string { data := #[84, 104, 114, 101, 97, 100] })), (1, Operand.const (Value.string { data := #[79, 98, 106, 101, 99, 116] })), (4, Operand.tmp 62)], type := 33, pos := "ref.go:39", after := #[{ on := 8, ground := Ground.data }], guard := none }) (v := ?vc_20) rfl (by kernel_rfl) (by kernel_rfl) (by kernel_rfl) (fun _ _ _ h => h) (Or.inl ⟨by rfl, ?hyc_20⟩) (by assumption) ?restc_20
              case hyc_20 => intro w hSw; (try dsimp only at hSw); go_simp; try with_reducible rfl
              try simp only [Act.put, List.setIfInBounds_toArray, List.set_cons_zero, List.set_cons_succ]
              refine wpAnyH_ready (rs := [10]) (by kernel_rfl) (by simp) ?_
              refine AllReadyH.cons (o := { dst := some 64, op := Op.buildSlice 59 1 #[(0, Operand.tmp 63)], type := 59, pos := "ref.go:39", after := #[{ on := 9, ground := Ground.data }], guard := none }) rfl (fun K hK => ?_) AllReadyH.nil
              go_simp
              obtain ⟨K10, hcur, K8⟩ := cls1 hcur K8 (fun g => #[.string ⟨#[84, 104, 114, 101, 97, 100]⟩, .string ⟨#[79, 98, 106, 101, 99, 116]⟩, .slice none 0 0, .slice none 0 0, .slice (some ⟨g, 0, none⟩) 3 3]) hcur.size; (try simp only [World.size_alloc] at K10); have zb := (IC.below hcur).bx
              try go_wp2_with fail
              refine hK.out _ _ ?hSc_21 ?restc_21
              case hSc_21 => (try dsimp only); first | exact ST.out _ (RB9.other hgq1 0 _) | exact ST.out _ RB9 | exact ST.out _ (RB.below hcur)
              clear hK K hHeld
              intro hHeld
              try simp only [Act.put, List.setIfInBounds_toArray, List.set_cons_zero, List.set_cons_succ]
              refine wpAnyH_ready (rs := [11]) (by kernel_rfl) (by simp) ?_
              refine AllReadyH.cons (o := { dst := some 65, op := Op.call { callee := Callee.builtin Builtin.append, args := #[Operand.tmp 58, Operand.tmp 64], argTypes := #[59, 59] }, type := 59, pos := "ref.go:39", after := #[{ on := 4, ground := Ground.data }, { on := 10, ground := Ground.data }, { on := 7, ground := Ground.chain }], guard := none }) rfl (fun K hK => ?_) AllReadyH.nil
              have I9 := IC.below hcur
              have o9 := I9.o
              rw [hlen] at o9
              obtain ⟨v9, w9, hr9, ho9, hg9, _, hat9⟩ := run_append_own_at (P := Try.prog) _ _ 59 59 33 i0 (.agg #[.string ⟨#[]⟩, .string ⟨#[]⟩, .slice none 0 0, .slice none 0 0, .slice none 0 0]) 5 104 Try.underlying59 hi hz0 hz1 hz2 rfl (by decide) _ _ _ o9 _ 1 1 _ rfl (World.news_of_block K10) (by intro u hu; simp at hu; rcases hu with rfl | rfl | rfl | rfl | rfl <;> rfl) (by unfold maxLen; omega) (by omega) I9.B.size
              obtain ⟨g9, cap9, rfl⟩ := own_form ho9 (by omega)
              obtain ⟨rows10, I10⟩ := I9.push1 hlen threadK _ ho9 hg9 hat9 rfl (thrC K8 (newOf I9.o K8 (by decide) qg) (QB.below hcur) (newOf I9.o (QB.below hcur) (by decide) hgq))
              have zb := I10.bx
              have zf := I10.box.frozen 0
              have FIN := I10.restore
              have RB9 := blkGrown (RB.below hcur) hg9 (own_not I9.o (RB.below hcur) (by decide))
              refine op_append (v := .slice (some ⟨ga, 0, none⟩) (2 + 9) gc) (vb := .slice (some ⟨_, 0, none⟩) 1 1) rfl rfl rfl rfl hr9 ?_
              refine hK.out _ _ ?hSc_22 ?restc_22
              case hSc_22 => (try dsimp only); first | exact ST.out _ (RB9.other hgq1 0 _) | exact ST.out _ RB9 | exact ST.out _ (RB.below hcur)
              clear hK K hHeld
              intro hHeld
              try simp only [Act.put, List.setIfInBounds_toArray, List.set_cons_zero, List.set_cons_succ]
              refine wpAnyH_take (i := 12) (oi := { dst := some 66, op := Op.nilCheck (Operand.tmp 54), type := 0, pos := "ref.go:39", after := #[{ on := 0, ground := Ground.data }, { on := 0, ground := Ground.phase }, { on := 1, ground := Ground.phase }, { on := 2, ground := Ground.phase }, { on := 3, ground := Ground.phase }, { on := 4, ground := Ground.phase }, { on := 5, ground := Ground.phase }, { on := 6, ground := Ground.phase }, { on := 7, ground := Ground.phase }, { on := 8, ground := Ground.phase }, { on := 9, ground := Ground.phase }, { on := 10, ground := Ground.phase }, { on := 11, ground := Ground.phase }], guard := none }) (v := ?vc_23) rfl (by kernel_rfl) (by kernel_rfl) (by kernel_rfl) (fun _ _ _ h => h) (Or.inl ⟨by rfl, ?hyc_23⟩) (by assumption) ?restc_23
              case hyc_23 => intro w hSw; (try dsimp only at hSw); go_simp; try with_reducible rfl
              try simp only [Act.put, List.setIfInBounds_toArray, List.set_cons_zero, List.set_cons_succ]
              refine wpAnyH_take (i := 13) (oi := { dst := some 67, op := Op.fieldAddr 63 (Operand.tmp 66) 0, type := 0, pos := "ref.go:39", after := #[{ on := 12, ground := Ground.data }, { on := 0, ground := Ground.phase }, { on := 1, ground := Ground.phase }, { on := 2, ground := Ground.phase }, { on := 3, ground := Ground.phase }, { on := 4, ground := Ground.phase }, { on := 5, ground := Ground.phase }, { on := 6, ground := Ground.phase }, { on := 7, ground := Ground.phase }, { on := 8, ground := Ground.phase }, { on := 9, ground := Ground.phase }, { on := 10, ground := Ground.phase }, { on := 11, ground := Ground.phase }], guard := none }) (v := ?vc_24) rfl (by kernel_rfl) (by kernel_rfl) (by kernel_rfl) (fun _ _ _ h => h) (Or.inl ⟨by rfl, ?hyc_24⟩) (by assumption) ?restc_24
              case hyc_24 => intro w hSw; (try dsimp only at hSw); go_simp; try with_reducible rfl
              try simp only [Act.put, List.setIfInBounds_toArray, List.set_cons_zero, List.set_cons_succ]
              refine wpAnyH_ready (rs := [14]) (by kernel_rfl) (by simp) ?_
              refine AllReadyH.cons (o := { dst := none, op := Op.store 59 (Operand.tmp 67) (Operand.tmp 65), type := 0, pos := "ref.go:39", after := #[{ on := 13, ground := Ground.data }, { on := 11, ground := Ground.data }, { on := 11, ground := Ground.chain }, { on := 0, ground := Ground.phase }, { on := 1, ground := Ground.phase }, { on := 2, ground := Ground.phase }, { on := 3, ground := Ground.phase }, { on := 4, ground := Ground.phase }, { on := 5, ground := Ground.phase }, { on := 6, ground := Ground.phase }, { on := 7, ground := Ground.phase }, { on := 8, ground := Ground.phase }, { on := 9, ground := Ground.phase }, { on := 10, ground := Ground.phase }, { on := 11, ground := Ground.phase }], guard := none }) rfl (fun K hK => ?_) AllReadyH.nil
              go_simp
              try go_wp2_with fail
              refine hK.out _ _ ?hSc_25 ?restc_25
              case hSc_25 => (try dsimp only); first | exact ST.out _ (RB9.other hgq1 0 _) | exact ST.out _ RB9 | exact ST.out _ (RB.below hcur)
              clear hK K hHeld
              intro hHeld
              try simp only [Act.put, List.setIfInBounds_toArray, List.set_cons_zero, List.set_cons_succ]
              refine wpAnyH_done (by kernel_rfl) ?_ _
              refine NoPanic.normal ?_
              exact ⟨rfl, mkU67 w _ _ _ _ _ _ _ _ _ _ _ _ _ _ _ _ _ _ _ _ _ _ _ _ _ _ _ _ _ _ _ _ _ _ _ _ _ _ _ _ _ _ _ _ _ _ _ _ _ _ _ _ _ _ _ _ _ _ _ _ _ _ _ _ _ _, _, _, FIN⟩
            · have hdum := True.intro
              go_simp
              refine (rnat_any _ _ _ _).mono ?_; rintro e y2 ⟨rfl, c2⟩; have hcur := next hcur c2; have zb := (IC.below hcur).bx
              try go_wp2_with fail
              refine hK.out _ _ ?hSc_26 ?restc_26
              case hSc_26 => (try dsimp only); first | exact ST.out _ (RB9.other hgq1 0 _) | exact ST.out _ RB9 | exact ST.out _ (RB.below hcur)
              clear hK K hHeld
              intro hHeld
              try simp only [Act.put, List.setIfInBounds_toArray, List.set_cons_zero, List.set_cons_succ]
              refine wpAnyH_ready (rs := [4, 8]) (by kernel_rfl) (by simp) ?_
              refine (AllReadyH.cons (o := { dst := some 58, op := Op.load 59 (Operand.tmp 57), type := 59, pos := "ref.go:39", after := #[{ on := 3, ground := Ground.data }], guard := none }) rfl (fun K hK => ?_) (AllReadyH.cons (o := { dst := some 62, op := Op.buildSlice 31 3 #[(0, Operand.tmp 59), (1, Operand.tmp 60), (2, Operand.tmp 61)], type := 31, pos := "ref.go:39", after := #[{ on := 5, ground := Ground.data }, { on := 6, ground := Ground.data }, { on := 7, ground := Ground.data }], guard := none }) rfl (fun K hK => ?_) AllReadyH.nil))
              · have hdum := True.intro
                go_simp
                try go_wp2_with fail
                refine hK.out _ _ ?hSc_27 ?restc_27
                case hSc_27 => (try dsimp only); first | exact ST.out _ (RB9.other hgq1 0 _) | exact ST.out _ RB9 | exact ST.out _ (RB.below hcur)
                clear hK K hHeld
                intro hHeld
                try simp only [Act.put, List.setIfInBounds_toArray, List.set_cons_zero, List.set_cons_succ]
                refine wpAnyH_ready (rs := [8]) (by kernel_rfl) (by simp) ?_
                refine AllReadyH.cons (o := { dst := some 62, op := Op.buildSlice 31 3 #[(0, Operand.tmp 59), (1, Operand.tmp 60), (2, Operand.tmp 61)], type := 31, pos := "ref.go:39", after := #[{ on := 5, ground := Ground.data }, { on := 6, ground := Ground.data }, { on := 7, ground := Ground.data }], guard := none }) rfl (fun K hK => ?_) AllReadyH.nil
                go_simp
                have qg := geOf IC hcur; have K8 := blkOf hcur #[.string ⟨#[114, 117, 110]⟩, .string ⟨#[40, 41, 86]⟩, .bool false, .bool false, .int .i64 0, .int .i64 1, .slice (some ⟨gq, 0, none⟩) 1 1, .slice none 0 0, .slice none 0 0, .string ⟨#[115, 116, 97, 114, 116]⟩, .string ⟨#[40, 41, 86]⟩, .bool false, .bool true, .int .i64 0, .int .i64 0, .slice none 0 0, .slice none 0 0, .slice none 0 0, .string ⟨#[106, 111, 105, 110]⟩, .string ⟨#[40, 41, 86]⟩, .bool false, .bool true, .int .i64 0, .int .i64 0, .slice none 0 0, .slice none 0 0, .slice none 0 0] 43; (try simp only [World.size_alloc] at K8 qg); have hcur := allocOf hcur (.cells #[.string ⟨#[114, 117, 110]⟩, .string ⟨#[40, 41, 86]⟩, .bool false, .bool false, .int .i64 0, .int .i64 1, .slice (some ⟨gq, 0, none⟩) 1 1, .slice none 0 0, .slice none 0 0, .string ⟨#[115, 116, 97, 114, 116]⟩, .string ⟨#[40, 41, 86]⟩, .bool false, .bool true, .int .i64 0, .int .i64 0, .slice none 0 0, .slice none 0 0, .slice none 0 0, .string ⟨#[106, 111, 105, 110]⟩, .string ⟨#[40, 41, 86]⟩, .bool false, .bool true, .int .i64 0, .int .i64 0, .slice none 0 0, .slice none 0 0, .slice none 0 0] 43); have zb := (IC.below hcur).bx
                try go_wp2_with fail
                refine hK.out _ _ ?hSc_28 ?restc_28
                case hSc_28 => (try dsimp only); first | exact ST.out _ (RB9.other hgq1 0 _) | exact ST.out _ RB9 | exact ST.out _ (RB.below hcur)
                clear hK K hHeld
                intro hHeld
                try simp only [Act.put, List.setIfInBounds_toArray, List.set_cons_zero, List.set_cons_succ]
                refine wpAnyH_take (i := 9) (oi := { dst := some 63, op := Op.build 33 #[(0, Operand.const (Value.string { data := #[84, 104, 114, 101, 97, 100] })), (1, Operand.const (Value.string { data := #[79, 98, 106, 101, 99, 116] })), (4, Operand.tmp 62)], type := 33, pos := "ref.go:39", after := #[{ on := 8, ground := Ground.data }], guard := none }) (v := ?vc_29) rfl (by kernel_rfl) (by kernel_rfl) (by kernel_rfl) (fun _ _ _ h => h) (Or.inl ⟨by rfl, ?hyc_29⟩) (by assumption) ?restc_29
                case hyc_29 => intro w hSw; (try dsimp only at hSw); go_simp; try with_reducible rfl
                try simp only [Act.put, List.setIfInBounds_toArray, List.set_cons_zero, List.set_cons_succ]
                refine wpAnyH_ready (rs := [10]) (by kernel_rfl) (by simp) ?_
                refine AllReadyH.cons (o := { dst := some 64, op := Op.buildSlice 59 1 #[(0, Operand.tmp 63)], type := 59, pos := "ref.go:39", after := #[{ on := 9, ground := Ground.data }], guard := none }) rfl (fun K hK => ?_) AllReadyH.nil
                go_simp
                obtain ⟨K10, hcur, K8⟩ := cls1 hcur K8 (fun g => #[.string ⟨#[84, 104, 114, 101, 97, 100]⟩, .string ⟨#[79, 98, 106, 101, 99, 116]⟩, .slice none 0 0, .slice none 0 0, .slice (some ⟨g, 0, none⟩) 3 3]) hcur.size; (try simp only [World.size_alloc] at K10); have zb := (IC.below hcur).bx
                try go_wp2_with fail
                refine hK.out _ _ ?hSc_30 ?restc_30
                case hSc_30 => (try dsimp only); first | exact ST.out _ (RB9.other hgq1 0 _) | exact ST.out _ RB9 | exact ST.out _ (RB.below hcur)
                clear hK K hHeld
                intro hHeld
                try simp only [Act.put, List.setIfInBounds_toArray, List.set_cons_zero, List.set_cons_succ]
                refine wpAnyH_ready (rs := [11]) (by kernel_rfl) (by simp) ?_
                refine AllReadyH.cons (o := { dst := some 65, op := Op.call { callee := Callee.builtin Builtin.append, args := #[Operand.tmp 58, Operand.tmp 64], argTypes := #[59, 59] }, type := 59, pos := "ref.go:39", after := #[{ on := 4, ground := Ground.data }, { on := 10, ground := Ground.data }, { on := 7, ground := Ground.chain }], guard := none }) rfl (fun K hK => ?_) AllReadyH.nil
                have I9 := IC.below hcur
                have o9 := I9.o
                rw [hlen] at o9
                obtain ⟨v9, w9, hr9, ho9, hg9, _, hat9⟩ := run_append_own_at (P := Try.prog) _ _ 59 59 33 i0 (.agg #[.string ⟨#[]⟩, .string ⟨#[]⟩, .slice none 0 0, .slice none 0 0, .slice none 0 0]) 5 104 Try.underlying59 hi hz0 hz1 hz2 rfl (by decide) _ _ _ o9 _ 1 1 _ rfl (World.news_of_block K10) (by intro u hu; simp at hu; rcases hu with rfl | rfl | rfl | rfl | rfl <;> rfl) (by unfold maxLen; omega) (by omega) I9.B.size
                obtain ⟨g9, cap9, rfl⟩ := own_form ho9 (by omega)
                obtain ⟨rows10, I10⟩ := I9.push1 hlen threadK _ ho9 hg9 hat9 rfl (thrC K8 (newOf I9.o K8 (by decide) qg) (QB.below hcur) (newOf I9.o (QB.below hcur) (by decide) hgq))
                have zb := I10.bx
                have zf := I10.box.frozen 0
                have FIN := I10.restore
                have RB9 := blkGrown (RB.below hcur) hg9 (own_not I9.o (RB.below hcur) (by decide))
                refine op_append (v := .slice (some ⟨ga, 0, none⟩) (2 + 9) gc) (vb := .slice (some ⟨_, 0, none⟩) 1 1) rfl rfl rfl rfl hr9 ?_
                refine hK.out _ _ ?hSc_31 ?restc_31
                case hSc_31 => (try dsimp only); first | exact ST.out _ (RB9.other hgq1 0 _) | exact ST.out _ RB9 | exact ST.out _ (RB.below hcur)
                clear hK K hHeld
                intro hHeld
                try simp only [Act.put, List.setIfInBounds_toArray, List.set_cons_zero, List.set_cons_succ]
                refine wpAnyH_take (i := 12) (oi := { dst := some 66, op := Op.nilCheck (Operand.tmp 54), type := 0, pos := "ref.go:39", after := #[{ on := 0, ground := Ground.data }, { on := 0, ground := Ground.phase }, { on := 1, ground := Ground.phase }, { on := 2, ground := Ground.phase }, { on := 3, ground := Ground.phase }, { on := 4, ground := Ground.phase }, { on := 5, ground := Ground.phase }, { on := 6, ground := Ground.phase }, { on := 7, ground := Ground.phase }, { on := 8, ground := Ground.phase }, { on := 9, ground := Ground.phase }, { on := 10, ground := Ground.phase }, { on := 11, ground := Ground.phase }], guard := none }) (v := ?vc_32) rfl (by kernel_rfl) (by kernel_rfl) (by kernel_rfl) (fun _ _ _ h => h) (Or.inl ⟨by rfl, ?hyc_32⟩) (by assumption) ?restc_32
                case hyc_32 => intro w hSw; (try dsimp only at hSw); go_simp; try with_reducible rfl
                try simp only [Act.put, List.setIfInBounds_toArray, List.set_cons_zero, List.set_cons_succ]
                refine wpAnyH_take (i := 13) (oi := { dst := some 67, op := Op.fieldAddr 63 (Operand.tmp 66) 0, type := 0, pos := "ref.go:39", after := #[{ on := 12, ground := Ground.data }, { on := 0, ground := Ground.phase }, { on := 1, ground := Ground.phase }, { on := 2, ground := Ground.phase }, { on := 3, ground := Ground.phase }, { on := 4, ground := Ground.phase }, { on := 5, ground := Ground.phase }, { on := 6, ground := Ground.phase }, { on := 7, ground := Ground.phase }, { on := 8, ground := Ground.phase }, { on := 9, ground := Ground.phase }, { on := 10, ground := Ground.phase }, { on := 11, ground := Ground.phase }], guard := none }) (v := ?vc_33) rfl (by kernel_rfl) (by kernel_rfl) (by kernel_rfl) (fun _ _ _ h => h) (Or.inl ⟨by rfl, ?hyc_33⟩) (by assumption) ?restc_33
                case hyc_33 => intro w hSw; (try dsimp only at hSw); go_simp; try with_reducible rfl
                try simp only [Act.put, List.setIfInBounds_toArray, List.set_cons_zero, List.set_cons_succ]
                refine wpAnyH_ready (rs := [14]) (by kernel_rfl) (by simp) ?_
                refine AllReadyH.cons (o := { dst := none, op := Op.store 59 (Operand.tmp 67) (Operand.tmp 65), type := 0, pos := "ref.go:39", after := #[{ on := 13, ground := Ground.data }, { on := 11, ground := Ground.data }, { on := 11, ground := Ground.chain }, { on := 0, ground := Ground.phase }, { on := 1, ground := Ground.phase }, { on := 2, ground := Ground.phase }, { on := 3, ground := Ground.phase }, { on := 4, ground := Ground.phase }, { on := 5, ground := Ground.phase }, { on := 6, ground := Ground.phase }, { on := 7, ground := Ground.phase }, { on := 8, ground := Ground.phase }, { on := 9, ground := Ground.phase }, { on := 10, ground := Ground.phase }, { on := 11, ground := Ground.phase }], guard := none }) rfl (fun K hK => ?_) AllReadyH.nil
                go_simp
                try go_wp2_with fail
                refine hK.out _ _ ?hSc_34 ?restc_34
                case hSc_34 => (try dsimp only); first | exact ST.out _ (RB9.other hgq1 0 _) | exact ST.out _ RB9 | exact ST.out _ (RB.below hcur)
                clear hK K hHeld
                intro hHeld
                try simp only [Act.put, List.setIfInBounds_toArray, List.set_cons_zero, List.set_cons_succ]
                refine wpAnyH_done (by kernel_rfl) ?_ _
                refine NoPanic.normal ?_
                exact ⟨rfl, mkU67 w _ _ _ _ _ _ _ _ _ _ _ _ _ _ _ _ _ _ _ _ _ _ _ _ _ _ _ _ _ _ _ _ _ _ _ _ _ _ _ _ _ _ _ _ _ _ _ _ _ _ _ _ _ _ _ _ _ _ _ _ _ _ _ _ _ _, _, _, FIN⟩
              · have hdum := True.intro
                go_simp
                have qg := geOf IC hcur; have K8 := blkOf hcur #[.string ⟨#[114, 117, 110]⟩, .string ⟨#[40, 41, 86]⟩, .bool false, .bool false, .int .i64 0, .int .i64 1, .slice (some ⟨gq, 0, none⟩) 1 1, .slice none 0 0, .slice none 0 0, .string ⟨#[115, 116, 97, 114, 116]⟩, .string ⟨#[40, 41, 86]⟩, .bool false, .bool true, .int .i64 0, .int .i64 0, .slice none 0 0, .slice none 0 0, .slice none 0 0, .string ⟨#[106, 111, 105, 110]⟩, .string ⟨#[40, 41, 86]⟩, .bool false, .bool true, .int .i64 0, .int .i64 0, .slice none 0 0, .slice none 0 0, .slice none 0 0] 43; (try simp only [World.size_alloc] at K8 qg); have hcur := allocOf hcur (.cells #[.string ⟨#[114, 117, 110]⟩, .string ⟨#[40, 41, 86]⟩, .bool false, .bool false, .int .i64 0, .int .i64 1, .slice (some ⟨gq, 0, none⟩) 1 1, .slice none 0 0, .slice none 0 0, .string ⟨#[115, 116, 97, 114, 116]⟩, .string ⟨#[40, 41, 86]⟩, .bool false, .bool true, .int .i64 0, .int .i64 0, .slice none 0 0, .slice none 0 0, .slice none 0 0, .string ⟨#[106, 111, 105, 110]⟩, .string ⟨#[40, 41, 86]⟩, .bool false, .bool true, .int .i64 0, .int .i64 0, .slice none 0 0, .slice none 0 0, .slice none 0 0] 43); have zb := (IC.below hcur).bx
                try go_wp2_with fail
                refine hK.out _ _ ?hSc_35 ?restc_35
                case hSc_35 => (try dsimp only); first | exact ST.out _ (RB9.other hgq1 0 _) | exact ST.out _ RB9 | exact ST.out _ (RB.below hcur)
                clear hK K hHeld
                intro hHeld
                try simp only [Act.put, List.setIfInBounds_toArray, List.set_cons_zero, List.set_cons_succ]
                refine wpAnyH_take (i := 9) (oi := { dst := some 63, op := Op.build 33 #[(0, Operand.const (Value.string { data := #[84, 104, 114, 101, 97, 100] })), (1, Operand.const (Value.string { data := #[79, 98, 106, 101, 99, 116] })), (4, Operand.tmp 62)], type := 33, pos := "ref.go:39", after := #[{ on := 8, ground := Ground.data }], guard := none }) (v := ?vc_36) rfl (by kernel_rfl) (by kernel_rfl) (by kernel_rfl) (fun _ _ _ h => h) (Or.inl ⟨by rfl, ?hyc_36⟩) (by assumption) ?restc_36
                case hyc_36 => intro w hSw; (try dsimp only at hSw); go_simp; try with_reducible rfl
                try simp only [Act.put, List.setIfInBounds_toArray, List.set_cons_zero, List.set_cons_succ]
                refine wpAnyH_ready (rs := [4, 10]) (by kernel_rfl) (by simp) ?_
                refine (AllReadyH.cons (o := { dst := some 58, op := Op.load 59 (Operand.tmp 57), type := 59, pos := "ref.go:39", after := #[{ on := 3, ground := Ground.data }], guard := none }) rfl (fun K hK => ?_) (AllReadyH.cons (o := { dst := some 64, op := Op.buildSlice 59 1 #[(0, Operand.tmp 63)], type := 59, pos := "ref.go:39", after := #[{ on := 9, ground := Ground.data }], guard := none }) rfl (fun K hK => ?_) AllReadyH.nil))
                · have hdum := True.intro
                  go_simp
                  try go_wp2_with fail
                  refine hK.out _ _ ?hSc_37 ?restc_37
                  case hSc_37 => (try dsimp only); first | exact ST.out _ (RB9.other hgq1 0 _) | exact ST.out _ RB9 | exact ST.out _ (RB.below hcur)
                  clear hK K hHeld
                  intro hHeld
                  try simp only [Act.put, List.setIfInBounds_toArray, List.set_cons_zero, List.set_cons_succ]
                  refine wpAnyH_ready (rs := [10]) (by kernel_rfl) (by simp) ?_
                  refine AllReadyH.cons (o := { dst := some 64, op := Op.buildSlice 59 1 #[(0, Operand.tmp 63)], type := 59, pos := "ref.go:39", after := #[{ on := 9, ground := Ground.data }], guard := none }) rfl (fun K hK => ?_) AllReadyH.nil
                  go_simp
                  obtain ⟨K10, hcur, K8⟩ := cls1 hcur K8 (fun g => #[.string ⟨#[84, 104, 114, 101, 97, 100]⟩, .string ⟨#[79, 98, 106, 101, 99, 116]⟩, .slice none 0 0, .slice none 0 0, .slice (some ⟨g, 0, none⟩) 3 3]) hcur.size; (try simp only [World.size_alloc] at K10); have zb := (IC.below hcur).bx
                  try go_wp2_with fail
                  refine hK.out _ _ ?hSc_38 ?restc_38
                  case hSc_38 => (try dsimp only); first | exact ST.out _ (RB9.other hgq1 0 _) | exact ST.out _ RB9 | exact ST.out _ (RB.below hcur)
                  clear hK K hHeld
                  intro hHeld
                  try simp only [Act.put, List.setIfInBounds_toArray, List.set_cons_zero, List.set_cons_succ]
                  refine wpAnyH_ready (rs := [11]) (by kernel_rfl) (by simp) ?_
                  refine AllReadyH.cons (o := { dst := some 65, op := Op.call { callee := Callee.builtin Builtin.append, args := #[Operand.tmp 58, Operand.tmp 64], argTypes := #[59, 59] }, type := 59, pos := "ref.go:39", after := #[{ on := 4, ground := Ground.data }, { on := 10, ground := Ground.data }, { on := 7, ground := Ground.chain }], guard := none }) rfl (fun K hK => ?_) AllReadyH.nil
                  have I9 := IC.below hcur
                  have o9 := I9.o
                  rw [hlen] at o9
                  obtain ⟨v9, w9, hr9, ho9, hg9, _, hat9⟩ := run_append_own_at (P := Try.prog) _ _ 59 59 33 i0 (.agg #[.string ⟨#[]⟩, .string ⟨#[]⟩, .slice none 0 0, .slice none 0 0, .slice none 0 0]) 5 104 Try.underlying59 hi hz0 hz1 hz2 rfl (by decide) _ _ _ o9 _ 1 1 _ rfl (World.news_of_block K10) (by intro u hu; simp at hu; rcases hu with rfl | rfl | rfl | rfl | rfl <;> rfl) (by unfold maxLen; omega) (by omega) I9.B.size
                  obtain ⟨g9, cap9, rfl⟩ := own_form ho9 (by omega)
                  obtain ⟨rows10, I10⟩ := I9.push1 hlen threadK _ ho9 hg9 hat9 rfl (thrC K8 (newOf I9.o K8 (by decide) qg) (QB.below hcur) (newOf I9.o (QB.below hcur) (by decide) hgq))
                  have zb := I10.bx
                  have zf := I10.box.frozen 0
                  have FIN := I10.restore
                  have RB9 := blkGrown (RB.below hcur) hg9 (own_not I9.o (RB.below hcur) (by decide))
                  refine op_append (v := .slice (some ⟨ga, 0, none⟩) (2 + 9) gc) (vb := .slice (some ⟨_, 0, none⟩) 1 1) rfl rfl rfl rfl hr9 ?_
                  refine hK.out _ _ ?hSc_39 ?restc_39
                  case hSc_39 => (try dsimp only); first | exact ST.out _ (RB9.other hgq1 0 _) | exact ST.out _ RB9 | exact ST.out _ (RB.below hcur)
                  clear hK K hHeld
                  intro hHeld
                  try simp only [Act.put, List.setIfInBounds_toArray, List.set_cons_zero, List.set_cons_succ]
                  refine wpAnyH_take (i := 12) (oi := { dst := some 66, op := Op.nilCheck (Operand.tmp 54), type := 0, pos := "ref.go:39", after := #[{ on := 0, ground := Ground.data }, { on := 0, ground := Ground.phase }, { on := 1, ground := Ground.phase }, { on := 2, ground := Ground.phase }, { on := 3, ground := Ground.phase }, { on := 4, ground := Ground.phase }, { on := 5, ground := Ground.phase }, { on := 6, ground := Ground.phase }, { on := 7, ground := Ground.phase }, { on := 8, ground := Ground.phase }, { on := 9, ground := Ground.phase }, { on := 10, ground := Ground.phase }, { on := 11, ground := Ground.phase }], guard := none }) (v := ?vc_40) rfl (by kernel_rfl) (by kernel_rfl) (by kernel_rfl) (fun _ _ _ h => h) (Or.inl ⟨by rfl, ?hyc_40⟩) (by assumption) ?restc_40
                  case hyc_40 => intro w hSw; (try dsimp only at hSw); go_simp; try with_reducible rfl
                  try simp only [Act.put, List.setIfInBounds_toArray, List.set_cons_zero, List.set_cons_succ]
                  refine wpAnyH_take (i := 13) (oi := { dst := some 67, op := Op.fieldAddr 63 (Operand.tmp 66) 0, type := 0, pos := "ref.go:39", after := #[{ on := 12, ground := Ground.data }, { on := 0, ground := Ground.phase }, { on := 1, ground := Ground.phase }, { on := 2, ground := Ground.phase }, { on := 3, ground := Ground.phase }, { on := 4, ground := Ground.phase }, { on := 5, ground := Ground.phase }, { on := 6, ground := Ground.phase }, { on := 7, ground := Ground.phase }, { on := 8, ground := Ground.phase }, { on := 9, ground := Ground.phase }, { on := 10, ground := Ground.phase }, { on := 11, ground := Ground.phase }], guard := none }) (v := ?vc_41) rfl (by kernel_rfl) (by kernel_rfl) (by kernel_rfl) (fun _ _ _ h => h) (Or.inl ⟨by rfl, ?hyc_41⟩) (by assumption) ?restc_41
                  case hyc_41 => intro w hSw; (try dsimp only at hSw); go_simp; try with_reducible rfl
                  try simp only [Act.put, List.setIfInBounds_toArray, List.set_cons_zero, List.set_cons_succ]
                  refine wpAnyH_ready (rs := [14]) (by kernel_rfl) (by simp) ?_
                  refine AllReadyH.cons (o := { dst := none, op := Op.store 59 (Operand.tmp 67) (Operand.tmp 65), type := 0, pos := "ref.go:39", after := #[{ on := 13, ground := Ground.data }, { on := 11, ground := Ground.data }, { on := 11, ground := Ground.chain }, { on := 0, ground := Ground.phase }, { on := 1, ground := Ground.phase }, { on := 2, ground := Ground.phase }, { on := 3, ground := Ground.phase }, { on := 4, ground := Ground.phase }, { on := 5, ground := Ground.phase }, { on := 6, ground := Ground.phase }, { on := 7, ground := Ground.phase }, { on := 8, ground := Ground.phase }, { on := 9, ground := Ground.phase }, { on := 10, ground := Ground.phase }, { on := 11, ground := Ground.phase }], guard := none }) rfl (fun K hK => ?_) AllReadyH.nil
                  go_simp
                  try go_wp2_with fail
                  refine hK.out _ _ ?hSc_42 ?restc_42
                  case hSc_42 => (try dsimp only); first | exact ST.out _ (RB9.other hgq1 0 _) | exact ST.out _ RB9 | exact ST.out _ (RB.below hcur)
                  clear hK K hHeld
                  intro hHeld
                  try simp only [Act.put, List.setIfInBounds_toArray, List.set_cons_zero, List.set_cons_succ]
                  refine wpAnyH_done (by kernel_rfl) ?_ _
                  refine NoPanic.normal ?_
                  exact ⟨rfl, mkU67 w _ _ _ _ _ _ _ _ _ _ _ _ _ _ _ _ _ _ _ _ _ _ _ _ _ _ _ _ _ _ _ _ _ _ _ _ _ _ _ _ _ _ _ _ _ _ _ _ _ _ _ _ _ _ _ _ _ _ _ _ _ _ _ _ _ _, _, _, FIN⟩
                · have hdum := True.intro
                  go_simp
                  obtain ⟨K10, hcur, K8⟩ := cls1 hcur K8 (fun g => #[.string ⟨#[84, 104, 114, 101, 97, 100]⟩, .string ⟨#[79, 98, 106, 101, 99, 116]⟩, .slice none 0 0, .slice none 0 0, .slice (some ⟨g, 0, none⟩) 3 3]) hcur.size; (try simp only [World.size_alloc] at K10); have zb := (IC.below hcur).bx
                  try go_wp2_with fail
                  refine hK.out _ _ ?hSc_43 ?restc_43
                  case hSc_43 => (try dsimp only); first | exact ST.out _ (RB9.other hgq1 0 _) | exact ST.out _ RB9 | exact ST.out _ (RB.below hcur)
                  clear hK K hHeld
                  intro hHeld
                  try simp only [Act.put, List.setIfInBounds_toArray, List.set_cons_zero, List.set_cons_succ]
                  refine wpAnyH_ready (rs := [4]) (by kernel_rfl) (by simp) ?_
                  refine AllReadyH.cons (o := { dst := some 58, op := Op.load 59 (Operand.tmp 57), type := 59, pos := "ref.go:39", after := #[{ on := 3, ground := Ground.data }], guard := none }) rfl (fun K hK => ?_) AllReadyH.nil
                  go_simp
                  try go_wp2_with fail
                  refine hK.out _ _ ?hSc_44 ?restc_44
                  case hSc_44 => (try dsimp only); first | exact ST.out _ (RB9.other hgq1 0 _) | exact ST.out _ RB9 | exact ST.out _ (RB.below hcur)
                  clear hK K hHeld
                  intro hHeld
                  try simp only [Act.put, List.setIfInBounds_toArray, List.set_cons_zero, List.set_cons_succ]
                  refine wpAnyH_ready (rs := [11]) (by kernel_rfl) (by simp) ?_
                  refine AllReadyH.cons (o := { dst := some 65, op := Op.call { callee := Callee.builtin Builtin.append, args := #[Operand.tmp 58, Operand.tmp 64], argTypes := #[59, 59] }, type := 59, pos := "ref.go:39", after := #[{ on := 4, ground := Ground.data }, { on := 10, ground := Ground.data }, { on := 7, ground := Ground.chain }], guard := none }) rfl (fun K hK => ?_) AllReadyH.nil
                  have I9 := IC.below hcur
                  have o9 := I9.o
                  rw [hlen] at o9
                  obtain ⟨v9, w9, hr9, ho9, hg9, _, hat9⟩ := run_append_own_at (P := Try.prog) _ _ 59 59 33 i0 (.agg #[.string ⟨#[]⟩, .string ⟨#[]⟩, .slice none 0 0, .slice none 0 0, .slice none 0 0]) 5 104 Try.underlying59 hi hz0 hz1 hz2 rfl (by decide) _ _ _ o9 _ 1 1 _ rfl (World.news_of_block K10) (by intro u hu; simp at hu; rcases hu with rfl | rfl | rfl | rfl | rfl <;> rfl) (by unfold maxLen; omega) (by omega) I9.B.size
                  obtain ⟨g9, cap9, rfl⟩ := own_form ho9 (by omega)
                  obtain ⟨rows10, I10⟩ := I9.push1 hlen threadK _ ho9 hg9 hat9 rfl (thrC K8 (newOf I9.o K8 (by decide) qg) (QB.below hcur) (newOf I9.o (QB.below hcur) (by decide) hgq))
                  have zb := I10.bx
                  have zf := I10.box.frozen 0
                  have FIN := I10.restore
                  have RB9 := blkGrown (RB.below hcur) hg9 (own_not I9.o (RB.below hcur) (by decide))
                  refine op_append (v := .slice (some ⟨ga, 0, none⟩) (2 + 9) gc) (vb := .slice (some ⟨_, 0, none⟩) 1 1) rfl rfl rfl rfl hr9 ?_
                  refine hK.out _ _ ?hSc_45 ?restc_45
                  case hSc_45 => (try dsimp only); first | exact ST.out _ (RB9.other hgq1 0 _) | exact ST.out _ RB9 | exact ST.out _ (RB.below hcur)
                  clear hK K hHeld
                  intro hHeld
                  try simp only [Act.put, List.setIfInBounds_toArray, List.set_cons_zero, List.set_cons_succ]
                  refine wpAnyH_take (i := 12) (oi := { dst := some 66, op := Op.nilCheck (Operand.tmp 54), type := 0, pos := "ref.go:39", after := #[{ on := 0, ground := Ground.data }, { on := 0, ground := Ground.phase }, { on := 1, ground := Ground.phase }, { on := 2, ground := Ground.phase }, { on := 3, ground := Ground.phase }, { on := 4, ground := Ground.phase }, { on := 5, ground := Ground.phase }, { on := 6, ground := Ground.phase }, { on := 7, ground := Ground.phase }, { on := 8, ground := Ground.phase }, { on := 9, ground := Ground.phase }, { on := 10, ground := Ground.phase }, { on := 11, ground := Ground.phase }], guard := none }) (v := ?vc_46) rfl (by kernel_rfl) (by kernel_rfl) (by kernel_rfl) (fun _ _ _ h => h) (Or.inl ⟨by rfl, ?hyc_46⟩) (by assumption) ?restc_46
                  case hyc_46 => intro w hSw; (try dsimp only at hSw); go_simp; try with_reducible rfl
                  try simp only [Act.put, List.setIfInBounds_toArray, List.set_cons_zero, List.set_cons_succ]
                  refine wpAnyH_take (i := 13) (oi := { dst := some 67, op := Op.fieldAddr 63 (Operand.tmp 66) 0, type := 0, pos := "ref.go:39", after := #[{ on := 12, ground := Ground.data }, { on := 0, ground := Ground.phase }, { on := 1, ground := Ground.phase }, { on := 2, ground := Ground.phase }, { on := 3, ground := Ground.phase }, { on := 4, ground := Ground.phase }, { on := 5, ground := Ground.phase }, { on := 6, ground := Ground.phase }, { on := 7, ground := Ground.phase }, { on := 8, ground := Ground.phase }, { on := 9, ground := Ground.phase }, { on := 10, ground := Ground.phase }, { on := 11, ground := Ground.phase }], guard := none }) (v := ?vc_47) rfl (by kernel_rfl) (by kernel_rfl) (by kernel_rfl) (fun _ _ _ h => h) (Or.inl ⟨by rfl, ?hyc_47⟩) (by assumption) ?restc_47
                  case hyc_47 => intro w hSw; (try dsimp only at hSw); go_simp; try with_reducible rfl
                  try simp only [Act.put, List.setIfInBounds_toArray, List.set_cons_zero, List.set_cons_succ]
                  refine wpAnyH_ready (rs := [14]) (by kernel_rfl) (by simp) ?_
                  refine AllReadyH.cons (o := { dst := none, op := Op.store 59 (Operand.tmp 67) (Operand.tmp 65), type := 0, pos := "ref.go:39", after := #[{ on := 13, ground := Ground.data }, { on := 11, ground := Ground.data }, { on := 11, ground := Ground.chain }, { on := 0, ground := Ground.phase }, { on := 1, ground := Ground.phase }, { on := 2, ground := Ground.phase }, { on := 3, ground := Ground.phase }, { on := 4, ground := Ground.phase }, { on := 5, ground := Ground.phase }, { on := 6, ground := Ground.phase }, { on := 7, ground := Ground.phase }, { on := 8, ground := Ground.phase }, { on := 9, ground := Ground.phase }, { on := 10, ground := Ground.phase }, { on := 11, ground := Ground.phase }], guard := none }) rfl (fun K hK => ?_) AllReadyH.nil
                  go_simp
                  try go_wp2_with fail
                  refine hK.out _ _ ?hSc_48 ?restc_48
                  case hSc_48 => (try dsimp only); first | exact ST.out _ (RB9.other hgq1 0 _) | exact ST.out _ RB9 | exact ST.out _ (RB.below hcur)
                  clear hK K hHeld
                  intro hHeld
                  try simp only [Act.put, List.setIfInBounds_toArray, List.set_cons_zero, List.set_cons_succ]
                  refine wpAnyH_done (by kernel_rfl) ?_ _
                  refine NoPanic.normal ?_
                  exact ⟨rfl, mkU67 w _ _ _ _ _ _ _ _ _ _ _ _ _ _ _ _ _ _ _ _ _ _ _ _ _ _ _ _ _ _ _ _ _ _ _ _ _ _ _ _ _ _ _ _ _ _ _ _ _ _ _ _ _ _ _ _ _ _ _ _ _ _ _ _ _ _, _, _, FIN⟩
        case next =>
          clear IC RB QB ST hcur zb IC0
          rintro e a W ⟨rfl, ⟨u, rfl⟩, v, rows, IC⟩
          have hlen : (([objectK, plainK throwableN objectN] ++ (troubles.take 9).map (fun n => plainK n throwableN)) ++ [threadK]).length = 12 := rfl
          obtain ⟨ga, gc, hlv⟩ := own_form IC.o (by rw [hlen]; omega)
          rw [hlen] at hlv
          subst hlv
          have hcur := (Below.refl W.heap.size W).drew
          have zb := (IC.below hcur).bx
          go_wp2_with fail
          refine Code.wp_mono (Q := fun e a W => e = Exit.normal ∧ (∃ u : Nat → Value, a = { tmps := #[.pointer none, .pointer (some ⟨w.heap.size, 0, none⟩), u 2, u 3, u 4, u 5, u 6, u 7, u 8, u 9, u 10, u 11, u 12, u 13, u 14, u 15, u 16, u 17, u 18, u 19, u 20, u 21, u 22, u 23, u 24, u 25, u 26, u 27, u 28, u 29, u 30, u 31, u 32, u 33, u 34, u 35, u 36, u 37, u 38, u 39, u 40, u 41, u 42, u 43, u 44, u 45, u 46, u 47, u 48, u 49, u 50, u 51, u 52, u 53, u 54, u 55, u 56, u 57, u 58, u 59, u 60, u 61, u 62, u 63, u 64, u 65, u 66, u 67, u 68, u 69, u 70, u 71, u 72, u 73, u 74, u 75, u 76, u 77, u 78, u 79, u 80, undef], defers := [] }) ∧ ∃ v rows, GvI (putK w v) W v givenK rows) ?next ?reg
          case reg =>
            refine wp_region_noPanic ?_
            refine wp_region_held_drew (S := (fun _ => True)) (by kernel_rfl) ?_ (fun hHeld => ?_)
            · (try dsimp only); all_goals trivial
            refine wpAnyH_take (i := 0) (oi := { dst := some 68, op := Op.move (Operand.tmp 1), type := 24, pos := "ref.go:40", after := #[], guard := none }) (v := ?vd_1) rfl (by kernel_rfl) (by kernel_rfl) (by kernel_rfl) (fun _ _ _ h => h) (Or.inl ⟨by rfl, ?hyd_1⟩) (by assumption) ?restd_1
            case hyd_1 => intro w hSw; (try dsimp only at hSw); go_simp; try with_reducible rfl
            try simp only [Act.put, List.setIfInBounds_toArray, List.set_cons_zero, List.set_cons_succ]
            refine wpAnyH_take (i := 1) (oi := { dst := some 69, op := Op.move (Operand.tmp 1), type := 24, pos := "ref.go:40", after := #[], guard := none }) (v := ?vd_2) rfl (by kernel_rfl) (by kernel_rfl) (by kernel_rfl) (fun _ _ _ h => h) (Or.inl ⟨by rfl, ?hyd_2⟩) (by assumption) ?restd_2
            case hyd_2 => intro w hSw; (try dsimp only at hSw); go_simp; try with_reducible rfl
            try simp only [Act.put, List.setIfInBounds_toArray, List.set_cons_zero, List.set_cons_succ]
            refine wpAnyH_take (i := 2) (oi := { dst := some 70, op := Op.nilCheck (Operand.tmp 69), type := 0, pos := "ref.go:40", after := #[{ on := 1, ground := Ground.data }], guard := none }) (v := ?vd_3) rfl (by kernel_rfl) (by kernel_rfl) (by kernel_rfl) (fun _ _ _ h => h) (Or.inl ⟨by rfl, ?hyd_3⟩) (by assumption) ?restd_3
            case hyd_3 => intro w hSw; (try dsimp only at hSw); go_simp; try with_reducible rfl
            try simp only [Act.put, List.setIfInBounds_toArray, List.set_cons_zero, List.set_cons_succ]
            refine wpAnyH_take (i := 3) (oi := { dst := some 71, op := Op.fieldAddr 63 (Operand.tmp 70) 0, type := 0, pos := "ref.go:40", after := #[{ on := 2, ground := Ground.data }], guard := none }) (v := ?vd_4) rfl (by kernel_rfl) (by kernel_rfl) (by kernel_rfl) (fun _ _ _ h => h) (Or.inl ⟨by rfl, ?hyd_4⟩) (by assumption) ?restd_4
            case hyd_4 => intro w hSw; (try dsimp only at hSw); go_simp; try with_reducible rfl
            try simp only [Act.put, List.setIfInBounds_toArray, List.set_cons_zero, List.set_cons_succ]
            refine wpAnyH_ready (rs := [4, 5]) (by kernel_rfl) (by simp) ?_
            refine (AllReadyH.cons (o := { dst := some 72, op := Op.load 59 (Operand.tmp 71), type := 59, pos := "ref.go:40", after := #[{ on := 3, ground := Ground.data }], guard := none }) rfl (fun K hK => ?_) (AllReadyH.cons (o := { dst := some 73, op := Op.call { callee := Callee.value (Operand.func 23), args := #[Operand.const (Value.string { data := #[112, 114, 105, 110, 116] }), Operand.const (Value.string { data := #[40, 73, 41, 86] }), Operand.const (Value.bool true)], argTypes := #[9, 9, 4] }, type := 43, pos := "ref.go:40", after := #[], guard := none }) rfl (fun K hK => ?_) AllReadyH.nil))
            · have hdum := True.intro
              go_simp
              try go_wp2_with fail
              refine hK.out _ _ ?hSd_5 ?restd_5
              case hSd_5 => (try dsimp only); all_goals trivial
              clear hK K hHeld
              intro hHeld
              try simp only [Act.put, List.setIfInBounds_toArray, List.set_cons_zero, List.set_cons_succ]
              refine wpAnyH_ready (rs := [5]) (by kernel_rfl) (by simp) ?_
              refine AllReadyH.cons (o := { dst := some 73, op := Op.call { callee := Callee.value (Operand.func 23), args := #[Operand.const (Value.string { data := #[112, 114, 105, 110, 116] }), Operand.const (Value.string { data := #[40, 73, 41, 86] }), Operand.const (Value.bool true)], argTypes := #[9, 9, 4] }, type := 43, pos := "ref.go:40", after := #[], guard := none }) rfl (fun K hK => ?_) AllReadyH.nil
              go_simp
              refine (rnat_any _ _ _ _).mono ?_; rintro e y1 ⟨rfl, c1⟩; have hcur := next hcur c1; have zb := (IC.below hcur).bx
              try go_wp2_with fail
              refine hK.out _ _ ?hSd_6 ?restd_6
              case hSd_6 => (try dsimp only); all_goals trivial
              clear hK K hHeld
              intro hHeld
              try simp only [Act.put, List.setIfInBounds_toArray, List.set_cons_zero, List.set_cons_succ]
              refine wpAnyH_ready (rs := [6]) (by kernel_rfl) (by simp) ?_
              refine AllReadyH.cons (o := { dst := some 74, op := Op.call { callee := Callee.value (Operand.func 23), args := #[Operand.const (Value.string { data := #[115, 108, 101, 101, 112] }), Operand.const (Value.string { data := #[40, 73, 41, 86] }), Operand.const (Value.bool true)], argTypes := #[9, 9, 4] }, type := 43, pos := "ref.go:40", after := #[{ on := 5, ground := Ground.chain }], guard := none }) rfl (fun K hK => ?_) AllReadyH.nil
              go_simp
              refine (rnat_any _ _ _ _).mono ?_; rintro e y2 ⟨rfl, c2⟩; have hcur := next hcur c2; have zb := (IC.below hcur).bx
              try go_wp2_with fail
              refine hK.out _ _ ?hSd_7 ?restd_7
              case hSd_7 => (try dsimp only); all_goals trivial
              clear hK K hHeld
              intro hHeld
              try simp only [Act.put, List.setIfInBounds_toArray, List.set_cons_zero, List.set_cons_succ]
              refine wpAnyH_ready (rs := [7]) (by kernel_rfl) (by simp) ?_
              refine AllReadyH.cons (o := { dst := some 75, op := Op.buildSlice 31 2 #[(0, Operand.tmp 73), (1, Operand.tmp 74)], type := 31, pos := "ref.go:40", after := #[{ on := 5, ground := Ground.data }, { on := 6, ground := Ground.data }], guard := none }) rfl (fun K hK => ?_) AllReadyH.nil
              go_simp
              have qg := geOf IC hcur; have K8 := blkOf hcur #[.string ⟨#[112, 114, 105, 110, 116]⟩, .string ⟨#[40, 73, 41, 86]⟩, .bool true, .bool true, .int .i64 0, .int .i64 0, .slice none 0 0, .slice none 0 0, .slice none 0 0, .string ⟨#[115, 108, 101, 101, 112]⟩, .string ⟨#[40, 73, 41, 86]⟩, .bool true, .bool true, .int .i64 0, .int .i64 0, .slice none 0 0, .slice none 0 0, .slice none 0 0] 43; (try simp only [World.size_alloc] at K8 qg); have hcur := allocOf hcur (.cells #[.string ⟨#[112, 114, 105, 110, 116]⟩, .string ⟨#[40, 73, 41, 86]⟩, .bool true, .bool true, .int .i64 0, .int .i64 0, .slice none 0 0, .slice none 0 0, .slice none 0 0, .string ⟨#[115, 108, 101, 101, 112]⟩, .string ⟨#[40, 73, 41, 86]⟩, .bool true, .bool true, .int .i64 0, .int .i64 0, .slice none 0 0, .slice none 0 0, .slice none 0 0] 43); have zb := (IC.below hcur).bx
              try go_wp2_with fail
              refine hK.out _ _ ?hSd_8 ?restd_8
              case hSd_8 => (try dsimp only); all_goals trivial
              clear hK K hHeld
              intro hHeld
              try simp only [Act.put, List.setIfInBounds_toArray, List.set_cons_zero, List.set_cons_succ]
              refine wpAnyH_take (i := 8) (oi := { dst := some 76, op := Op.build 33 #[(0, Operand.const (Value.string { data := #[83, 121, 115, 116, 101, 109] })), (1, Operand.const (Value.string { data := #[79, 98, 106, 101, 99, 116] })), (4, Operand.tmp 75)], type := 33, pos := "ref.go:40", after := #[{ on := 7, ground := Ground.data }], guard := none }) (v := ?vd_9) rfl (by kernel_rfl) (by kernel_rfl) (by kernel_rfl) (fun _ _ _ h => h) (Or.inl ⟨by rfl, ?hyd_9⟩) (by assumption) ?restd_9
              case hyd_9 => intro w hSw; (try dsimp only at hSw); go_simp; try with_reducible rfl
              try simp only [Act.put, List.setIfInBounds_toArray, List.set_cons_zero, List.set_cons_succ]
              refine wpAnyH_ready (rs := [9]) (by kernel_rfl) (by simp) ?_
              refine AllReadyH.cons (o := { dst := some 77, op := Op.buildSlice 59 1 #[(0, Operand.tmp 76)], type := 59, pos := "ref.go:40", after := #[{ on := 8, ground := Ground.data }], guard := none }) rfl (fun K hK => ?_) AllReadyH.nil
              go_simp
              obtain ⟨K10, hcur, K8⟩ := cls1 hcur K8 (fun g => #[.string ⟨#[83, 121, 115, 116, 101, 109]⟩, .string ⟨#[79, 98, 106, 101, 99, 116]⟩, .slice none 0 0, .slice none 0 0, .slice (some ⟨g, 0, none⟩) 2 2]) hcur.size; (try simp only [World.size_alloc] at K10); have zb := (IC.below hcur).bx
              try go_wp2_with fail
              refine hK.out _ _ ?hSd_10 ?restd_10
              case hSd_10 => (try dsimp only); all_goals trivial
              clear hK K hHeld
              intro hHeld
              try simp only [Act.put, List.setIfInBounds_toArray, List.set_cons_zero, List.set_cons_succ]
              refine wpAnyH_ready (rs := [10]) (by kernel_rfl) (by simp) ?_
              refine AllReadyH.cons (o := { dst := some 78, op := Op.call { callee := Callee.builtin Builtin.append, args := #[Operand.tmp 72, Operand.tmp 77], argTypes := #[59, 59] }, type := 59, pos := "ref.go:40", after := #[{ on := 4, ground := Ground.data }, { on := 9, ground := Ground.data }, { on := 6, ground := Ground.chain }], guard := none }) rfl (fun K hK => ?_) AllReadyH.nil
              have I9 := IC.below hcur
              have o9 := I9.o
              rw [hlen] at o9
              obtain ⟨v9, w9, hr9, ho9, hg9, _, hat9⟩ := run_append_own_at (P := Try.prog) _ _ 59 59 33 i0 (.agg #[.string ⟨#[]⟩, .string ⟨#[]⟩, .slice none 0 0, .slice none 0 0, .slice none 0 0]) 5 104 Try.underlying59 hi hz0 hz1 hz2 rfl (by decide) _ _ _ o9 _ 1 1 _ rfl (World.news_of_block K10) (by intro u hu; simp at hu; rcases hu with rfl | rfl | rfl | rfl | rfl <;> rfl) (by unfold maxLen; omega) (by omega) I9.B.size
              obtain ⟨g9, cap9, rfl⟩ := own_form ho9 (by omega)
              obtain ⟨rows10, I10⟩ := I9.push1 hlen systemK _ ho9 hg9 hat9 rfl (sysC K8 (newOf I9.o K8 (by decide) qg))
              have zb := I10.bx
              have zf := I10.box.frozen 0
              have FIN := I10.restore
              refine op_append (v := .slice (some ⟨ga, 0, none⟩) 12 gc) (vb := .slice (some ⟨_, 0, none⟩) 1 1) rfl rfl rfl rfl hr9 ?_
              refine hK.out _ _ ?hSd_11 ?restd_11
              case hSd_11 => (try dsimp only); all_goals trivial
              clear hK K hHeld
              intro hHeld
              try simp only [Act.put, List.setIfInBounds_toArray, List.set_cons_zero, List.set_cons_succ]
              refine wpAnyH_take (i := 11) (oi := { dst := some 79, op := Op.nilCheck (Operand.tmp 68), type := 0, pos := "ref.go:40", after := #[{ on := 0, ground := Ground.data }, { on := 0, ground := Ground.phase }, { on := 1, ground := Ground.phase }, { on := 2, ground := Ground.phase }, { on := 3, ground := Ground.phase }, { on := 4, ground := Ground.phase }, { on := 5, ground := Ground.phase }, { on := 6, ground := Ground.phase }, { on := 7, ground := Ground.phase }, { on := 8, ground := Ground.phase }, { on := 9, ground := Ground.phase }, { on := 10, ground := Ground.phase }], guard := none }) (v := ?vd_12) rfl (by kernel_rfl) (by kernel_rfl) (by kernel_rfl) (fun _ _ _ h => h) (Or.inl ⟨by rfl, ?hyd_12⟩) (by assumption) ?restd_12
              case hyd_12 => intro w hSw; (try dsimp only at hSw); go_simp; try with_reducible rfl
              try simp only [Act.put, List.setIfInBounds_toArray, List.set_cons_zero, List.set_cons_succ]
              refine wpAnyH_take (i := 12) (oi := { dst := some 80, op := Op.fieldAddr 63 (Operand.tmp 79) 0, type := 0, pos := "ref.go:40", after := #[{ on := 11, ground := Ground.data }, { on := 0, ground := Ground.phase }, { on := 1, ground := Ground.phase }, { on := 2, ground := Ground.phase }, { on := 3, ground := Ground.phase }, { on := 4, ground := Ground.phase }, { on := 5, ground := Ground.phase }, { on := 6, ground := Ground.phase }, { on := 7, ground := Ground.phase }, { on := 8, ground := Ground.phase }, { on := 9, ground := Ground.phase }, { on := 10, ground := Ground.phase }], guard := none }) (v := ?vd_13) rfl (by kernel_rfl) (by kernel_rfl) (by kernel_rfl) (fun _ _ _ h => h) (Or.inl ⟨by rfl, ?hyd_13⟩) (by assumption) ?restd_13
              case hyd_13 => intro w hSw; (try dsimp only at hSw); go_simp; try with_reducible rfl
              try simp only [Act.put, List.setIfInBounds_toArray, List.set_cons_zero, List.set_cons_succ]
              refine wpAnyH_ready (rs := [13]) (by kernel_rfl) (by simp) ?_
              refine AllReadyH.cons (o := { dst := none, op := Op.store 59 (Operand.tmp 80) (Operand.tmp 78), type := 0, pos := "ref.go:40", after := #[{ on := 12, ground := Ground.data }, { on := 10, ground := Ground.data }, { on := 10, ground := Ground.chain }, { on := 0, ground := Ground.phase }, { on := 1, ground := Ground.phase }, { on := 2, ground := Ground.phase }, { on := 3, ground := Ground.phase }, { on := 4, ground := Ground.phase }, { on := 5, ground := Ground.phase }, { on := 6, ground := Ground.phase }, { on := 7, ground := Ground.phase }, { on := 8, ground := Ground.phase }, { on := 9, ground := Ground.phase }, { on := 10, ground := Ground.phase }], guard := none }) rfl (fun K hK => ?_) AllReadyH.nil
              go_simp
              try go_wp2_with fail
              refine hK.out _ _ ?hSd_14 ?restd_14
              case hSd_14 => (try dsimp only); all_goals trivial
              clear hK K hHeld
              intro hHeld
              try simp only [Act.put, List.setIfInBounds_toArray, List.set_cons_zero, List.set_cons_succ]
              refine wpAnyH_done (by kernel_rfl) ?_ _
              refine NoPanic.normal ?_
              exact ⟨rfl, mkU80 w _ _ _ _ _ _ _ _ _ _ _ _ _ _ _ _ _ _ _ _ _ _ _ _ _ _ _ _ _ _ _ _ _ _ _ _ _ _ _ _ _ _ _ _ _ _ _ _ _ _ _ _ _ _ _ _ _ _ _ _ _ _ _ _ _ _ _ _ _ _ _ _ _ _ _ _ _ _ _, _, _, FIN⟩
            · have hdum := True.intro
              go_simp
              refine (rnat_any _ _ _ _).mono ?_; rintro e y1 ⟨rfl, c1⟩; have hcur := next hcur c1; have zb := (IC.below hcur).bx
              try go_wp2_with fail
              refine hK.out _ _ ?hSd_15 ?restd_15
              case hSd_15 => (try dsimp only); all_goals trivial
              clear hK K hHeld
              intro hHeld
              try simp only [Act.put, List.setIfInBounds_toArray, List.set_cons_zero, List.set_cons_succ]
              refine wpAnyH_ready (rs := [4, 6]) (by kernel_rfl) (by simp) ?_
              refine (AllReadyH.cons (o := { dst := some 72, op := Op.load 59 (Operand.tmp 71), type := 59, pos := "ref.go:40", after := #[{ on := 3, ground := Ground.data }], guard := none }) rfl (fun K hK => ?_) (AllReadyH.cons (o := { dst := some 74, op := Op.call { callee := Callee.value (Operand.func 23), args := #[Operand.const (Value.string { data := #[115, 108, 101, 101, 112] }), Operand.const (Value.string { data := #[40, 73, 41, 86] }), Operand.const (Value.bool true)], argTypes := #[9, 9, 4] }, type := 43, pos := "ref.go:40", after := #[{ on := 5, ground := Ground.chain }], guard := none }) rfl (fun K hK => ?_) AllReadyH.nil))
              · have hdum := True.intro
                go_simp
                try go_wp2_with fail
                refine hK.out _ _ ?hSd_16 ?restd_16
                case hSd_16 => (try dsimp only); all_goals trivial
                clear hK K hHeld
                intro hHeld
                try simp only [Act.put, List.setIfInBounds_toArray, List.set_cons_zero, List.set_cons_succ]
                refine wpAnyH_ready (rs := [6]) (by kernel_rfl) (by simp) ?_
                refine AllReadyH.cons (o := { dst := some 74, op := Op.call { callee := Callee.value (Operand.func 23), args := #[Operand.const (Value.string { data := #[115, 108, 101, 101, 112] }), Operand.const (Value.string { data := #[40, 73, 41, 86] }), Operand.const (Value.bool true)], argTypes := #[9, 9, 4] }, type := 43, pos := "ref.go:40", after := #[{ on := 5, ground := Ground.chain }], guard := none }) rfl (fun K hK => ?_) AllReadyH.nil
                go_simp
                refine (rnat_any _ _ _ _).mono ?_; rintro e y2 ⟨rfl, c2⟩; have hcur := next hcur c2; have zb := (IC.below hcur).bx
                try go_wp2_with fail
                refine hK.out _ _ ?hSd_17 ?restd_17
                case hSd_17 => (try dsimp only); all_goals trivial
                clear hK K hHeld
                intro hHeld
                try simp only [Act.put, List.setIfInBounds_toArray, List.set_cons_zero, List.set_cons_succ]
                refine wpAnyH_ready (rs := [7]) (by kernel_rfl) (by simp) ?_
                refine AllReadyH.cons (o := { dst := some 75, op := Op.buildSlice 31 2 #[(0, Operand.tmp 73), (1, Operand.tmp 74)], type := 31, pos := "ref.go:40", after := #[{ on := 5, ground := Ground.data }, { on := 6, ground := Ground.data }], guard := none }) rfl (fun K hK => ?_) AllReadyH.nil
                go_simp
                have qg := geOf IC hcur; have K8 := blkOf hcur #[.string ⟨#[112, 114, 105, 110, 116]⟩, .string ⟨#[40, 73, 41, 86]⟩, .bool true, .bool true, .int .i64 0, .int .i64 0, .slice none 0 0, .slice none 0 0, .slice none 0 0, .string ⟨#[115, 108, 101, 101, 112]⟩, .string ⟨#[40, 73, 41, 86]⟩, .bool true, .bool true, .int .i64 0, .int .i64 0, .slice none 0 0, .slice none 0 0, .slice none 0 0] 43; (try simp only [World.size_alloc] at K8 qg); have hcur := allocOf hcur (.cells #[.string ⟨#[112, 114, 105, 110, 116]⟩, .string ⟨#[40, 73, 41, 86]⟩, .bool true, .bool true, .int .i64 0, .int .i64 0, .slice none 0 0, .slice none 0 0, .slice none 0 0, .string ⟨#[115, 108, 101, 101, 112]⟩, .string ⟨#[40, 73, 41, 86]⟩, .bool true, .bool true, .int .i64 0, .int .i64 0, .slice none 0 0, .slice none 0 0, .slice none 0 0] 43); have zb := (IC.below hcur).bx
                try go_wp2_with fail
                refine hK.out _ _ ?hSd_18 ?restd_18
                case hSd_18 => (try dsimp only); all_goals trivial
                clear hK K hHeld
                intro hHeld
                try simp only [Act.put, List.setIfInBounds_toArray, List.set_cons_zero, List.set_cons_succ]
                refine wpAnyH_take (i := 8) (oi := { dst := some 76, op := Op.build 33 #[(0, Operand.const (Value.string { data := #[83, 121, 115, 116, 101, 109] })), (1, Operand.const (Value.string { data := #[79, 98, 106, 101, 99, 116] })), (4, Operand.tmp 75)], type := 33, pos := "ref.go:40", after := #[{ on := 7, ground := Ground.data }], guard := none }) (v := ?vd_19) rfl (by kernel_rfl) (by kernel_rfl) (by kernel_rfl) (fun _ _ _ h => h) (Or.inl ⟨by rfl, ?hyd_19⟩) (by assumption) ?restd_19
                case hyd_19 => intro w hSw; (try dsimp only at hSw); go_simp; try with_reducible rfl
                try simp only [Act.put, List.setIfInBounds_toArray, List.set_cons_zero, List.set_cons_succ]
                refine wpAnyH_ready (rs := [9]) (by kernel_rfl) (by simp) ?_
                refine AllReadyH.cons (o := { dst := some 77, op := Op.buildSlice 59 1 #[(0, Operand.tmp 76)], type := 59, pos := "ref.go:40", after := #[{ on := 8, ground := Ground.data }], guard := none }) rfl (fun K hK => ?_) AllReadyH.nil
                go_simp
                obtain ⟨K10, hcur, K8⟩ := cls1 hcur K8 (fun g => #[.string ⟨#[83, 121, 115, 116, 101, 109]⟩, .string ⟨#[79, 98, 106, 101, 99, 116]⟩, .slice none 0 0, .slice none 0 0, .slice (some ⟨g, 0, none⟩) 2 2]) hcur.size; (try simp only [World.size_alloc] at K10); have zb := (IC.below hcur).bx
                try go_wp2_with fail
                refine hK.out _ _ ?hSd_20 ?restd_20
                case hSd_20 => (try dsimp only); all_goals trivial
                clear hK K hHeld
                intro hHeld
                try simp only [Act.put, List.setIfInBounds_toArray, List.set_cons_zero, List.set_cons_succ]
                refine wpAnyH_ready (rs := [10]) (by kernel_rfl) (by simp) ?_
                refine AllReadyH.cons (o := { dst := some 78, op := Op.call { callee := Callee.builtin Builtin.append, args := #[Operand.tmp 72, Operand.tmp 77], argTypes := #[59, 59] }, type := 59, pos := "ref.go:40", after := #[{ on := 4, ground := Ground.data }, { on := 9, ground := Ground.data }, { on := 6, ground := Ground.chain }], guard := none }) rfl (fun K hK => ?_) AllReadyH.nil
                have I9 := IC.below hcur
                have o9 := I9.o
                rw [hlen] at o9
                obtain ⟨v9, w9, hr9, ho9, hg9, _, hat9⟩ := run_append_own_at (P := Try.prog) _ _ 59 59 33 i0 (.agg #[.string ⟨#[]⟩, .string ⟨#[]⟩, .slice none 0 0, .slice none 0 0, .slice none 0 0]) 5 104 Try.underlying59 hi hz0 hz1 hz2 rfl (by decide) _ _ _ o9 _ 1 1 _ rfl (World.news_of_block K10) (by intro u hu; simp at hu; rcases hu with rfl | rfl | rfl | rfl | rfl <;> rfl) (by unfold maxLen; omega) (by omega) I9.B.size
                obtain ⟨g9, cap9, rfl⟩ := own_form ho9 (by omega)
                obtain ⟨rows10, I10⟩ := I9.push1 hlen systemK _ ho9 hg9 hat9 rfl (sysC K8 (newOf I9.o K8 (by decide) qg))
                have zb := I10.bx
                have zf := I10.box.frozen 0
                have FIN := I10.restore
                refine op_append (v := .slice (some ⟨ga, 0, none⟩) 12 gc) (vb := .slice (some ⟨_, 0, none⟩) 1 1) rfl rfl rfl rfl hr9 ?_
                refine hK.out _ _ ?hSd_21 ?restd_21
                case hSd_21 => (try dsimp only); all_goals trivial
                clear hK K hHeld
                intro hHeld
                try simp only [Act.put, List.setIfInBounds_toArray, List.set_cons_zero, List.set_cons_succ]
                refine wpAnyH_take (i := 11) (oi := { dst := some 79, op := Op.nilCheck (Operand.tmp 68), type := 0, pos := "ref.go:40", after := #[{ on := 0, ground := Ground.data }, { on := 0, ground := Ground.phase }, { on := 1, ground := Ground.phase }, { on := 2, ground := Ground.phase }, { on := 3, ground := Ground.phase }, { on := 4, ground := Ground.phase }, { on := 5, ground := Ground.phase }, { on := 6, ground := Ground.phase }, { on := 7, ground := Ground.phase }, { on := 8, ground := Ground.phase }, { on := 9, ground := Ground.phase }, { on := 10, ground := Ground.phase }], guard := none }) (v := ?vd_22) rfl (by kernel_rfl) (by kernel_rfl) (by kernel_rfl) (fun _ _ _ h => h) (Or.inl ⟨by rfl, ?hyd_22⟩) (by assumption) ?restd_22
                case hyd_22 => intro w hSw; (try dsimp only at hSw); go_simp; try with_reducible rfl
                try simp only [Act.put, List.setIfInBounds_toArray, List.set_cons_zero, List.set_cons_succ]
                refine wpAnyH_take (i := 12) (oi := { dst := some 80, op := Op.fieldAddr 63 (Operand.tmp 79) 0, type := 0, pos := "ref.go:40", after := #[{ on := 11, ground := Ground.data }, { on := 0, ground := Ground.phase }, { on := 1, ground := Ground.phase }, { on := 2, ground := Ground.phase }, { on := 3, ground := Ground.phase }, { on := 4, ground := Ground.phase }, { on := 5, ground := Ground.phase }, { on := 6, ground := Ground.phase }, { on := 7, ground := Ground.phase }, { on := 8, ground := Ground.phase }, { on := 9, ground := Ground.phase }, { on := 10, ground := Ground.phase }], guard := none }) (v := ?vd_23) rfl (by kernel_rfl) (by kernel_rfl) (by kernel_rfl) (fun _ _ _ h => h) (Or.inl ⟨by rfl, ?hyd_23⟩) (by assumption) ?restd_23
                case hyd_23 => intro w hSw; (try dsimp only at hSw); go_simp; try with_reducible rfl
                try simp only [Act.put, List.setIfInBounds_toArray, List.set_cons_zero, List.set_cons_succ]
                refine wpAnyH_ready (rs := [13]) (by kernel_rfl) (by simp) ?_
                refine AllReadyH.cons (o := { dst := none, op := Op.store 59 (Operand.tmp 80) (Operand.tmp 78), type := 0, pos := "ref.go:40", after := #[{ on := 12, ground := Ground.data }, { on := 10, ground := Ground.data }, { on := 10, ground := Ground.chain }, { on := 0, ground := Ground.phase }, { on := 1, ground := Ground.phase }, { on := 2, ground := Ground.phase }, { on := 3, ground := Ground.phase }, { on := 4, ground := Ground.phase }, { on := 5, ground := Ground.phase }, { on := 6, ground := Ground.phase }, { on := 7, ground := Ground.phase }, { on := 8, ground := Ground.phase }, { on := 9, ground := Ground.phase }, { on := 10, ground := Ground.phase }], guard := none }) rfl (fun K hK => ?_) AllReadyH.nil
                go_simp
                try go_wp2_with fail
                refine hK.out _ _ ?hSd_24 ?restd_24
                case hSd_24 => (try dsimp only); all_goals trivial
                clear hK K hHeld
                intro hHeld
                try simp only [Act.put, List.setIfInBounds_toArray, List.set_cons_zero, List.set_cons_succ]
                refine wpAnyH_done (by kernel_rfl) ?_ _
                refine NoPanic.normal ?_
                exact ⟨rfl, mkU80 w _ _ _ _ _ _ _ _ _ _ _ _ _ _ _ _ _ _ _ _ _ _ _ _ _ _ _ _ _ _ _ _ _ _ _ _ _ _ _ _ _ _ _ _ _ _ _ _ _ _ _ _ _ _ _ _ _ _ _ _ _ _ _ _ _ _ _ _ _ _ _ _ _ _ _ _ _ _ _, _, _, FIN⟩
              · have hdum := True.intro
                go_simp
                refine (rnat_any _ _ _ _).mono ?_; rintro e y2 ⟨rfl, c2⟩; have hcur := next hcur c2; have zb := (IC.below hcur).bx
                try go_wp2_with fail
                refine hK.out _ _ ?hSd_25 ?restd_25
                case hSd_25 => (try dsimp only); all_goals trivial
                clear hK K hHeld
                intro hHeld
                try simp only [Act.put, List.setIfInBounds_toArray, List.set_cons_zero, List.set_cons_succ]
                refine wpAnyH_ready (rs := [4, 7]) (by kernel_rfl) (by simp) ?_
                refine (AllReadyH.cons (o := { dst := some 72, op := Op.load 59 (Operand.tmp 71), type := 59, pos := "ref.go:40", after := #[{ on := 3, ground := Ground.data }], guard := none }) rfl (fun K hK => ?_) (AllReadyH.cons (o := { dst := some 75, op := Op.buildSlice 31 2 #[(0, Operand.tmp 73), (1, Operand.tmp 74)], type := 31, pos := "ref.go:40", after := #[{ on := 5, ground := Ground.data }, { on := 6, ground := Ground.data }], guard := none }) rfl (fun K hK => ?_) AllReadyH.nil))
                · have hdum := True.intro
                  go_simp
                  try go_wp2_with fail
                  refine hK.out _ _ ?hSd_26 ?restd_26
                  case hSd_26 => (try dsimp only); all_goals trivial
                  clear hK K hHeld
                  intro hHeld
                  try simp only [Act.put, List.setIfInBounds_toArray, List.set_cons_zero, List.set_cons_succ]
                  refine wpAnyH_ready (rs := [7]) (by kernel_rfl) (by simp) ?_
                  refine AllReadyH.cons (o := { dst := some 75, op := Op.buildSlice 31 2 #[(0, Operand.tmp 73), (1, Operand.tmp 74)], type := 31, pos := "ref.go:40", after := #[{ on := 5, ground := Ground.data }, { on := 6, ground := Ground.data }], guard := none }) rfl (fun K hK => ?_) AllReadyH.nil
                  go_simp
                  have qg := geOf IC hcur; have K8 := blkOf hcur #[.string ⟨#[112, 114, 105, 110, 116]⟩, .string ⟨#[40, 73, 41, 86]⟩, .bool true, .bool true, .int .i64 0, .int .i64 0, .slice none 0 0, .slice none 0 0, .slice none 0 0, .string ⟨#[115, 108, 101, 101, 112]⟩, .string ⟨#[40, 73, 41, 86]⟩, .bool true, .bool true, .int .i64 0, .int .i64 0, .slice none 0 0, .slice none 0 0, .slice none 0 0] 43; (try simp only [World.size_alloc] at K8 qg); have hcur := allocOf hcur (.cells #[.string ⟨#[112, 114, 105, 110, 116]⟩, .string ⟨#[40, 73, 41, 86]⟩, .bool true, .bool true, .int .i64 0, .int .i64 0, .slice none 0 0, .slice none 0 0, .slice none 0 0, .string ⟨#[115, 108, 101, 101, 112]⟩, .string ⟨#[40, 73, 41, 86]⟩, .bool true, .bool true, .int .i64 0, .int .i64 0, .slice none 0 0, .slice none 0 0, .slice none 0 0] 43); have zb := (IC.below hcur).bx
                  try go_wp2_with fail
                  refine hK.out _ _ ?hSd_27 ?restd_27
                  case hSd_27 => (try dsimp only); all_goals trivial
                  clear hK K hHeld
                  intro hHeld
                  try simp only [Act.put, List.setIfInBounds_toArray, List.set_cons_zero, List.set_cons_succ]
                  refine wpAnyH_take (i := 8) (oi := { dst := some 76, op := Op.build 33 #[(0, Operand.const (Value.string { data := #[83, 121, 115, 116, 101, 109] })), (1, Operand.const (Value.string { data := #[79, 98, 106, 101, 99, 116] })), (4, Operand.tmp 75)], type := 33, pos := "ref.go:40", after := #[{ on := 7, ground := Ground.data }], guard := none }) (v := ?vd_28) rfl (by kernel_rfl) (by kernel_rfl) (by kernel_rfl) (fun _ _ _ h => h) (Or.inl ⟨by rfl, ?hyd_28⟩) (by assumption) ?restd_28
                  case hyd_28 => intro w hSw; (try dsimp only at hSw); go_simp; try with_reducible rfl
                  try simp only [Act.put, List.setIfInBounds_toArray, List.set_cons_zero, List.set_cons_succ]
                  refine wpAnyH_ready (rs := [9]) (by kernel_rfl) (by simp) ?_
                  refine AllReadyH.cons (o := { dst := some 77, op := Op.buildSlice 59 1 #[(0, Operand.tmp 76)], type := 59, pos := "ref.go:40", after := #[{ on := 8, ground := Ground.data }], guard := none }) rfl (fun K hK => ?_) AllReadyH.nil
                  go_simp
                  obtain ⟨K10, hcur, K8⟩ := cls1 hcur K8 (fun g => #[.string ⟨#[83, 121, 115, 116, 101, 109]⟩, .string ⟨#[79, 98, 106, 101, 99, 116]⟩, .slice none 0 0, .slice none 0 0, .slice (some ⟨g, 0, none⟩) 2 2]) hcur.size; (try simp only [World.size_alloc] at K10); have zb := (IC.below hcur).bx
                  try go_wp2_with fail
                  refine hK.out _ _ ?hSd_29 ?restd_29
                  case hSd_29 => (try dsimp only); all_goals trivial
                  clear hK K hHeld
                  intro hHeld
                  try simp only [Act.put, List.setIfInBounds_toArray, List.set_cons_zero, List.set_cons_succ]
                  refine wpAnyH_ready (rs := [10]) (by kernel_rfl) (by simp) ?_
                  refine AllReadyH.cons (o := { dst := some 78, op := Op.call { callee := Callee.builtin Builtin.append, args := #[Operand.tmp 72, Operand.tmp 77], argTypes := #[59, 59] }, type := 59, pos := "ref.go:40", after := #[{ on := 4, ground := Ground.data }, { on := 9, ground := Ground.data }, { on := 6, ground := Ground.chain }], guard := none }) rfl (fun K hK => ?_) AllReadyH.nil
                  have I9 := IC.below hcur
                  have o9 := I9.o
                  rw [hlen] at o9
                  obtain ⟨v9, w9, hr9, ho9, hg9, _, hat9⟩ := run_append_own_at (P := Try.prog) _ _ 59 59 33 i0 (.agg #[.string ⟨#[]⟩, .string ⟨#[]⟩, .slice none 0 0, .slice none 0 0, .slice none 0 0]) 5 104 Try.underlying59 hi hz0 hz1 hz2 rfl (by decide) _ _ _ o9 _ 1 1 _ rfl (World.news_of_block K10) (by intro u hu; simp at hu; rcases hu with rfl | rfl | rfl | rfl | rfl <;> rfl) (by unfold maxLen; omega) (by omega) I9.B.size
                  obtain ⟨g9, cap9, rfl⟩ := own_form ho9 (by omega)
                  obtain ⟨rows10, I10⟩ := I9.push1 hlen systemK _ ho9 hg9 hat9 rfl (sysC K8 (newOf I9.o K8 (by decide) qg))
                  have zb := I10.bx
                  have zf := I10.box.frozen 0
                  have FIN := I10.restore
                  refine op_append (v := .slice (some ⟨ga, 0, none⟩) 12 gc) (vb := .slice (some ⟨_, 0, none⟩) 1 1) rfl rfl rfl rfl hr9 ?_
                  refine hK.out _ _ ?hSd_30 ?restd_30
                  case hSd_30 => (try dsimp only); all_goals trivial
                  clear hK K hHeld
                  intro hHeld
                  try simp only [Act.put, List.setIfInBounds_toArray, List.set_cons_zero, List.set_cons_succ]
                  refine wpAnyH_take (i := 11) (oi := { dst := some 79, op := Op.nilCheck (Operand.tmp 68), type := 0, pos := "ref.go:40", after := #[{ on := 0, ground := Ground.data }, { on := 0, ground := Ground.phase }, { on := 1, ground := Ground.phase }, { on := 2, ground := Ground.phase }, { on := 3, ground := Ground.phase }, { on := 4, ground := Ground.phase }, { on := 5, ground := Ground.phase }, { on := 6, ground := Ground.phase }, { on := 7, ground := Ground.phase }, { on := 8, ground := Ground.phase }, { on := 9, ground := Ground.phase }, { on := 10, ground := Ground.phase }], guard := none }) (v := ?vd_31) rfl (by kernel_rfl) (by kernel_rfl) (by kernel_rfl) (fun _ _ _ h => h) (Or.inl ⟨by rfl, ?hyd_31⟩) (by assumption) ?restd_31
                  case hyd_31 => intro w hSw; (try dsimp only at hSw); go_simp; try with_reducible rfl
                  try simp only [Act.put, List.setIfInBounds_toArray, List.set_cons_zero, List.set_cons_succ]
                  refine wpAnyH_take (i := 12) (oi := { dst := some 80, op := Op.fieldAddr 63 (Operand.tmp 79) 0, type := 0, pos := "ref.go:40", after := #[{ on := 11, ground := Ground.data }, { on := 0, ground := Ground.phase }, { on := 1, ground := Ground.phase }, { on := 2, ground := Ground.phase }, { on := 3, ground := Ground.phase }, { on := 4, ground := Ground.phase }, { on := 5, ground := Ground.phase }, { on := 6, ground := Ground.phase }, { on := 7, ground := Ground.phase }, { on := 8, ground := Ground.phase }, { on := 9, ground := Ground.phase }, { on := 10, ground := Ground.phase }], guard := none }) (v := ?vd_32) rfl (by kernel_rfl) (by kernel_rfl) (by kernel_rfl) (fun _ _ _ h => h) (Or.inl ⟨by rfl, ?hyd_32⟩) (by assumption) ?restd_32
                  case hyd_32 => intro w hSw; (try dsimp only at hSw); go_simp; try with_reducible rfl
                  try simp only [Act.put, List.setIfInBounds_toArray, List.set_cons_zero, List.set_cons_succ]
                  refine wpAnyH_ready (rs := [13]) (by kernel_rfl) (by simp) ?_
                  refine AllReadyH.cons (o := { dst := none, op := Op.store 59 (Operand.tmp 80) (Operand.tmp 78), type := 0, pos := "ref.go:40", after := #[{ on := 12, ground := Ground.data }, { on := 10, ground := Ground.data }, { on := 10, ground := Ground.chain }, { on := 0, ground := Ground.phase }, { on := 1, ground := Ground.phase }, { on := 2, ground := Ground.phase }, { on := 3, ground := Ground.phase }, { on := 4, ground := Ground.phase }, { on := 5, ground := Ground.phase }, { on := 6, ground := Ground.phase }, { on := 7, ground := Ground.phase }, { on := 8, ground := Ground.phase }, { on := 9, ground := Ground.phase }, { on := 10, ground := Ground.phase }], guard := none }) rfl (fun K hK => ?_) AllReadyH.nil
                  go_simp
                  try go_wp2_with fail
                  refine hK.out _ _ ?hSd_33 ?restd_33
                  case hSd_33 => (try dsimp only); all_goals trivial
                  clear hK K hHeld
                  intro hHeld
                  try simp only [Act.put, List.setIfInBounds_toArray, List.set_cons_zero, List.set_cons_succ]
                  refine wpAnyH_done (by kernel_rfl) ?_ _
                  refine NoPanic.normal ?_
                  exact ⟨rfl, mkU80 w _ _ _ _ _ _ _ _ _ _ _ _ _ _ _ _ _ _ _ _ _ _ _ _ _ _ _ _ _ _ _ _ _ _ _ _ _ _ _ _ _ _ _ _ _ _ _ _ _ _ _ _ _ _ _ _ _ _ _ _ _ _ _ _ _ _ _ _ _ _ _ _ _ _ _ _ _ _ _, _, _, FIN⟩
                · have hdum := True.intro
                  go_simp
                  have qg := geOf IC hcur; have K8 := blkOf hcur #[.string ⟨#[112, 114, 105, 110, 116]⟩, .string ⟨#[40, 73, 41, 86]⟩, .bool true, .bool true, .int .i64 0, .int .i64 0, .slice none 0 0, .slice none 0 0, .slice none 0 0, .string ⟨#[115, 108, 101, 101, 112]⟩, .string ⟨#[40, 73, 41, 86]⟩, .bool true, .bool true, .int .i64 0, .int .i64 0, .slice none 0 0, .slice none 0 0, .slice none 0 0] 43; (try simp only [World.size_alloc] at K8 qg); have hcur := allocOf hcur (.cells #[.string ⟨#[112, 114, 105, 110, 116]⟩, .string ⟨#[40, 73, 41, 86]⟩, .bool true, .bool true, .int .i64 0, .int .i64 0, .slice none 0 0, .slice none 0 0, .slice none 0 0, .string ⟨#[115, 108, 101, 101, 112]⟩, .string ⟨#[40, 73, 41, 86]⟩, .bool true, .bool true, .int .i64 0, .int .i64 0, .slice none 0 0, .slice none 0 0, .slice none 0 0] 43); have zb := (IC.below hcur).bx
                  try go_wp2_with fail
                  refine hK.out _ _ ?hSd_34 ?restd_34
                  case hSd_34 => (try dsimp only); all_goals trivial
                  clear hK K hHeld
                  intro hHeld
                  try simp only [Act.put, List.setIfInBounds_toArray, List.set_cons_zero, List.set_cons_succ]
                  refine wpAnyH_take (i := 8) (oi := { dst := some 76, op := Op.build 33 #[(0, Operand.const (Value.string { data := #[83, 121, 115, 116, 101, 109] })), (1, Operand.const (Value.string { data := #[79, 98, 106, 101, 99, 116] })), (4, Operand.tmp 75)], type := 33, pos := "ref.go:40", after := #[{ on := 7, ground := Ground.data }], guard := none }) (v := ?vd_35) rfl (by kernel_rfl) (by kernel_rfl) (by kernel_rfl) (fun _ _ _ h => h) (Or.inl ⟨by rfl, ?hyd_35⟩) (by assumption) ?restd_35
                  case hyd_35 => intro w hSw; (try dsimp only at hSw); go_simp; try with_reducible rfl
                  try simp only [Act.put, List.setIfInBounds_toArray, List.set_cons_zero, List.set_cons_succ]
                  refine wpAnyH_ready (rs := [4, 9]) (by kernel_rfl) (by simp) ?_
                  refine (AllReadyH.cons (o := { dst := some 72, op := Op.load 59 (Operand.tmp 71), type := 59, pos := "ref.go:40", after := #[{ on := 3, ground := Ground.data }], guard := none }) rfl (fun K hK => ?_) (AllReadyH.cons (o := { dst := some 77, op := Op.buildSlice 59 1 #[(0, Operand.tmp 76)], type := 59, pos := "ref.go:40", after := #[{ on := 8, ground := Ground.data }], guard := none }) rfl (fun K hK => ?_) AllReadyH.nil))
                  · have hdum := True.intro
                    go_simp
                    try go_wp2_with fail
                    refine hK.out _ _ ?hSd_36 ?restd_36
                    case hSd_36 => (try dsimp only); all_goals trivial
                    clear hK K hHeld
                    intro hHeld
                    try simp only [Act.put, List.setIfInBounds_toArray, List.set_cons_zero, List.set_cons_succ]
                    refine wpAnyH_ready (rs := [9]) (by kernel_rfl) (by simp) ?_
                    refine AllReadyH.cons (o := { dst := some 77, op := Op.buildSlice 59 1 #[(0, Operand.tmp 76)], type := 59, pos := "ref.go:40", after := #[{ on := 8, ground := Ground.data }], guard := none }) rfl (fun K hK => ?_) AllReadyH.nil
                    go_simp
                    obtain ⟨K10, hcur, K8⟩ := cls1 hcur K8 (fun g => #[.string ⟨#[83, 121, 115, 116, 101, 109]⟩, .string ⟨#[79, 98, 106, 101, 99, 116]⟩, .slice none 0 0, .slice none 0 0, .slice (some ⟨g, 0, none⟩) 2 2]) hcur.size; (try simp only [World.size_alloc] at K10); have zb := (IC.below hcur).bx
                    try go_wp2_with fail
                    refine hK.out _ _ ?hSd_37 ?restd_37
                    case hSd_37 => (try dsimp only); all_goals trivial
                    clear hK K hHeld
                    intro hHeld
                    try simp only [Act.put, List.setIfInBounds_toArray, List.set_cons_zero, List.set_cons_succ]
                    refine wpAnyH_ready (rs := [10]) (by kernel_rfl) (by simp) ?_
                    refine AllReadyH.cons (o := { dst := some 78, op := Op.call { callee := Callee.builtin Builtin.append, args := #[Operand.tmp 72, Operand.tmp 77], argTypes := #[59, 59] }, type := 59, pos := "ref.go:40", after := #[{ on := 4, ground := Ground.data }, { on := 9, ground := Ground.data }, { on := 6, ground := Ground.chain }], guard := none }) rfl (fun K hK => ?_) AllReadyH.nil
                    have I9 := IC.below hcur
                    have o9 := I9.o
                    rw [hlen] at o9
                    obtain ⟨v9, w9, hr9, ho9, hg9, _, hat9⟩ := run_append_own_at (P := Try.prog) _ _ 59 59 33 i0 (.agg #[.string ⟨#[]⟩, .string ⟨#[]⟩, .slice none 0 0, .slice none 0 0, .slice none 0 0]) 5 104 Try.underlying59 hi hz0 hz1 hz2 rfl (by decide) _ _ _ o9 _ 1 1 _ rfl (World.news_of_block K10) (by intro u hu; simp at hu; rcases hu with rfl | rfl | rfl | rfl | rfl <;> rfl) (by unfold maxLen; omega) (by omega) I9.B.size
                    obtain ⟨g9, cap9, rfl⟩ := own_form ho9 (by omega)
                    obtain ⟨rows10, I10⟩ := I9.push1 hlen systemK _ ho9 hg9 hat9 rfl (sysC K8 (newOf I9.o K8 (by decide) qg))
                    have zb := I10.bx
                    have zf := I10.box.frozen 0
                    have FIN := I10.restore
                    refine op_append (v := .slice (some ⟨ga, 0, none⟩) 12 gc) (vb := .slice (some ⟨_, 0, none⟩) 1 1) rfl rfl rfl rfl hr9 ?_
                    refine hK.out _ _ ?hSd_38 ?restd_38
                    case hSd_38 => (try dsimp only); all_goals trivial
                    clear hK K hHeld
                    intro hHeld
                    try simp only [Act.put, List.setIfInBounds_toArray, List.set_cons_zero, List.set_cons_succ]
                    refine wpAnyH_take (i := 11) (oi := { dst := some 79, op := Op.nilCheck (Operand.tmp 68), type := 0, pos := "ref.go:40", after := #[{ on := 0, ground := Ground.data }, { on := 0, ground := Ground.phase }, { on := 1, ground := Ground.phase }, { on := 2, ground := Ground.phase }, { on := 3, ground := Ground.phase }, { on := 4, ground := Ground.phase }, { on := 5, ground := Ground.phase }, { on := 6, ground := Ground.phase }, { on := 7, ground := Ground.phase }, { on := 8, ground := Ground.phase }, { on := 9, ground := Ground.phase }, { on := 10, ground := Ground.phase }], guard := none }) (v := ?vd_39) rfl (by kernel_rfl) (by kernel_rfl) (by kernel_rfl) (fun _ _ _ h => h) (Or.inl ⟨by rfl, ?hyd_39⟩) (by assumption) ?restd_39
                    case hyd_39 => intro w hSw; (try dsimp only at hSw); go_simp; try with_reducible rfl
                    try simp only [Act.put, List.setIfInBounds_toArray, List.set_cons_zero, List.set_cons_succ]
                    refine wpAnyH_take (i := 12) (oi := { dst := some 80, op := Op.fieldAddr 63 (Operand.tmp 79) 0, type := 0, pos := "ref.go:40", after := #[{ on := 11, ground := Ground.data }, { on := 0, ground := Ground.phase }, { on := 1, ground := Ground.phase }, { on := 2, ground := Ground.phase }, { on := 3, ground := Ground.phase }, { on := 4, ground := Ground.phase }, { on := 5, ground := Ground.phase }, { on := 6, ground := Ground.phase }, { on := 7, ground := Ground.phase }, { on := 8, ground := Ground.phase }, { on := 9, ground := Ground.phase }, { on := 10, ground := Ground.phase }], guard := none }) (v := ?vd_40) rfl (by kernel_rfl) (by kernel_rfl) (by kernel_rfl) (fun _ _ _ h => h) (Or.inl ⟨by rfl, ?hyd_40⟩) (by assumption) ?restd_40
                    case hyd_40 => intro w hSw; (try dsimp only at hSw); go_simp; try with_reducible rfl
                    try simp only [Act.put, List.setIfInBounds_toArray, List.set_cons_zero, List.set_cons_succ]
                    refine wpAnyH_ready (rs := [13]) (by kernel_rfl) (by simp) ?_
                    refine AllReadyH.cons (o := { dst := none, op := Op.store 59 (Operand.tmp 80) (Operand.tmp 78), type := 0, pos := "ref.go:40", after := #[{ on := 12, ground := Ground.data }, { on := 10, ground := Ground.data }, { on := 10, ground := Ground.chain }, { on := 0, ground := Ground.phase }, { on := 1, ground := Ground.phase }, { on := 2, ground := Ground.phase }, { on := 3, ground := Ground.phase }, { on := 4, ground := Ground.phase }, { on := 5, ground := Ground.phase }, { on := 6, ground := Ground.phase }, { on := 7, ground := Ground.phase }, { on := 8, ground := Ground.phase }, { on := 9, ground := Ground.phase }, { on := 10, ground := Ground.phase }], guard := none }) rfl (fun K hK => ?_) AllReadyH.nil
                    go_simp
                    try go_wp2_with fail
                    refine hK.out _ _ ?hSd_41 ?restd_41
                    case hSd_41 => (try dsimp only); all_goals trivial
                    clear hK K hHeld
                    intro hHeld
                    try simp only [Act.put, List.setIfInBounds_toArray, List.set_cons_zero, List.set_cons_succ]
                    refine wpAnyH_done (by kernel_rfl) ?_ _
                    refine NoPanic.normal ?_
                    exact ⟨rfl, mkU80 w _ _ _ _ _ _ _ _ _ _ _ _ _ _ _ _ _ _ _ _ _ _ _ _ _ _ _ _ _ _ _ _ _ _ _ _ _ _ _ _ _ _ _ _ _ _ _ _ _ _ _ _ _ _ _ _ _ _ _ _ _ _ _ _ _ _ _ _ _ _ _ _ _ _ _ _ _ _ _, _, _, FIN⟩
                  · have hdum := True.intro
                    go_simp
                    obtain ⟨K10, hcur, K8⟩ := cls1 hcur K8 (fun g => #[.string ⟨#[83, 121, 115, 116, 101, 109]⟩, .string ⟨#[79, 98, 106, 101, 99, 116]⟩, .slice none 0 0, .slice none 0 0, .slice (some ⟨g, 0, none⟩) 2 2]) hcur.size; (try simp only [World.size_alloc] at K10); have zb := (IC.below hcur).bx
                    try go_wp2_with fail
                    refine hK.out _ _ ?hSd_42 ?restd_42
                    case hSd_42 => (try dsimp only); all_goals trivial
                    clear hK K hHeld
                    intro hHeld
                    try simp only [Act.put, List.setIfInBounds_toArray, List.set_cons_zero, List.set_cons_succ]
                    refine wpAnyH_ready (rs := [4]) (by kernel_rfl) (by simp) ?_
                    refine AllReadyH.cons (o := { dst := some 72, op := Op.load 59 (Operand.tmp 71), type := 59, pos := "ref.go:40", after := #[{ on := 3, ground := Ground.data }], guard := none }) rfl (fun K hK => ?_) AllReadyH.nil
                    go_simp
                    try go_wp2_with fail
                    refine hK.out _ _ ?hSd_43 ?restd_43
                    case hSd_43 => (try dsimp only); all_goals trivial
                    clear hK K hHeld
                    intro hHeld
                    try simp only [Act.put, List.setIfInBounds_toArray, List.set_cons_zero, List.set_cons_succ]
                    refine wpAnyH_ready (rs := [10]) (by kernel_rfl) (by simp) ?_
                    refine AllReadyH.cons (o := { dst := some 78, op := Op.call { callee := Callee.builtin Builtin.append, args := #[Operand.tmp 72, Operand.tmp 77], argTypes := #[59, 59] }, type := 59, pos := "ref.go:40", after := #[{ on := 4, ground := Ground.data }, { on := 9, ground := Ground.data }, { on := 6, ground := Ground.chain }], guard := none }) rfl (fun K hK => ?_) AllReadyH.nil
                    have I9 := IC.below hcur
                    have o9 := I9.o
                    rw [hlen] at o9
                    obtain ⟨v9, w9, hr9, ho9, hg9, _, hat9⟩ := run_append_own_at (P := Try.prog) _ _ 59 59 33 i0 (.agg #[.string ⟨#[]⟩, .string ⟨#[]⟩, .slice none 0 0, .slice none 0 0, .slice none 0 0]) 5 104 Try.underlying59 hi hz0 hz1 hz2 rfl (by decide) _ _ _ o9 _ 1 1 _ rfl (World.news_of_block K10) (by intro u hu; simp at hu; rcases hu with rfl | rfl | rfl | rfl | rfl <;> rfl) (by unfold maxLen; omega) (by omega) I9.B.size
                    obtain ⟨g9, cap9, rfl⟩ := own_form ho9 (by omega)
                    obtain ⟨rows10, I10⟩ := I9.push1 hlen systemK _ ho9 hg9 hat9 rfl (sysC K8 (newOf I9.o K8 (by decide) qg))
                    have zb := I10.bx
                    have zf := I10.box.frozen 0
                    have FIN := I10.restore
                    refine op_append (v := .slice (some ⟨ga, 0, none⟩) 12 gc) (vb := .slice (some ⟨_, 0, none⟩) 1 1) rfl rfl rfl rfl hr9 ?_
                    refine hK.out _ _ ?hSd_44 ?restd_44
                    case hSd_44 => (try dsimp only); all_goals trivial
                    clear hK K hHeld
                    intro hHeld
                    try simp only [Act.put, List.setIfInBounds_toArray, List.set_cons_zero, List.set_cons_succ]
                    refine wpAnyH_take (i := 11) (oi := { dst := some 79, op := Op.nilCheck (Operand.tmp 68), type := 0, pos := "ref.go:40", after := #[{ on := 0, ground := Ground.data }, { on := 0, ground := Ground.phase }, { on := 1, ground := Ground.phase }, { on := 2, ground := Ground.phase }, { on := 3, ground := Ground.phase }, { on := 4, ground := Ground.phase }, { on := 5, ground := Ground.phase }, { on := 6, ground := Ground.phase }, { on := 7, ground := Ground.phase }, { on := 8, ground := Ground.phase }, { on := 9, ground := Ground.phase }, { on := 10, ground := Ground.phase }], guard := none }) (v := ?vd_45) rfl (by kernel_rfl) (by kernel_rfl) (by kernel_rfl) (fun _ _ _ h => h) (Or.inl ⟨by rfl, ?hyd_45⟩) (by assumption) ?restd_45
                    case hyd_45 => intro w hSw; (try dsimp only at hSw); go_simp; try with_reducible rfl
                    try simp only [Act.put, List.setIfInBounds_toArray, List.set_cons_zero, List.set_cons_succ]
                    refine wpAnyH_take (i := 12) (oi := { dst := some 80, op := Op.fieldAddr 63 (Operand.tmp 79) 0, type := 0, pos := "ref.go:40", after := #[{ on := 11, ground := Ground.data }, { on := 0, ground := Ground.phase }, { on := 1, ground := Ground.phase }, { on := 2, ground := Ground.phase }, { on := 3, ground := Ground.phase }, { on := 4, ground := Ground.phase }, { on := 5, ground := Ground.phase }, { on := 6, ground := Ground.phase }, { on := 7, ground := Ground.phase }, { on := 8, ground := Ground.phase }, { on := 9, ground := Ground.phase }, { on := 10, ground := Ground.phase }], guard := none }) (v := ?vd_46) rfl (by kernel_rfl) (by kernel_rfl) (by kernel_rfl) (fun _ _ _ h => h) (Or.inl ⟨by rfl, ?hyd_46⟩) (by assumption) ?restd_46
                    case hyd_46 => intro w hSw; (try dsimp only at hSw); go_simp; try with_reducible rfl
                    try simp only [Act.put, List.setIfInBounds_toArray, List.set_cons_zero, List.set_cons_succ]
                    refine wpAnyH_ready (rs := [13]) (by kernel_rfl) (by simp) ?_
                    refine AllReadyH.cons (o := { dst := none, op := Op.store 59 (Operand.tmp 80) (Operand.tmp 78), type := 0, pos := "ref.go:40", after := #[{ on := 12, ground := Ground.data }, { on := 10, ground := Ground.data }, { on := 10, ground := Ground.chain }, { on := 0, ground := Ground.phase }, { on := 1, ground := Ground.phase }, { on := 2, ground := Ground.phase }, { on := 3, ground := Ground.phase }, { on := 4, ground := Ground.phase }, { on := 5, ground := Ground.phase }, { on := 6, ground := Ground.phase }, { on := 7, ground := Ground.phase }, { on := 8, ground := Ground.phase }, { on := 9, ground := Ground.phase }, { on := 10, ground := Ground.phase }], guard := none }) rfl (fun K hK => ?_) AllReadyH.nil
                    go_simp
                    try go_wp2_with fail
                    refine hK.out _ _ ?hSd_47 ?restd_47
                    case hSd_47 => (try dsimp only); all_goals trivial
                    clear hK K hHeld
                    intro hHeld
                    try simp only [Act.put, List.setIfInBounds_toArray, List.set_cons_zero, List.set_cons_succ]
                    refine wpAnyH_done (by kernel_rfl) ?_ _
                    refine NoPanic.normal ?_
                    exact ⟨rfl, mkU80 w _ _ _ _ _ _ _ _ _ _ _ _ _ _ _ _ _ _ _ _ _ _ _ _ _ _ _ _ _ _ _ _ _ _ _ _ _ _ _ _ _ _ _ _ _ _ _ _ _ _ _ _ _ _ _ _ _ _ _ _ _ _ _ _ _ _ _ _ _ _ _ _ _ _ _ _ _ _ _, _, _, FIN⟩
          case next =>
            clear IC hcur zb
            rintro e a W ⟨rfl, ⟨u, rfl⟩, v, rows, IC⟩
            go_wp2
            go_ret
            exact ⟨_, _, rfl, IC⟩
end Go.Proofs.Ytlkhfpbniogllaa.K
