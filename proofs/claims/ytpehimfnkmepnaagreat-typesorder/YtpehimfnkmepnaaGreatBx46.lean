import Derived.Test.YtpehimfnkmepnaaGreatBx15
set_option maxRecDepth 8000
set_option maxHeartbeats 40000000
namespace Go.Proofs.YtpehimfnkmepnaaGreat.K
open Go.RowKit Q Q.D
abbrev zVi (a0) := (#[.string ⟨#[114, 117, 110]⟩, .string ⟨#[40, 41, 86]⟩, .bool false, .bool false, .int .i64 0, .int .i64 1, .slice (some ⟨a0, 0, none⟩) 1 1, .slice none 0 0, .slice none 0 0, .string ⟨#[115, 116, 97, 114, 116]⟩, .string ⟨#[40, 41, 86]⟩, .bool false, .bool true, .int .i64 0, .int .i64 0, .slice none 0 0, .slice none 0 0, .slice none 0 0, .string ⟨#[106, 111, 105, 110]⟩, .string ⟨#[40, 41, 86]⟩, .bool false, .bool true, .int .i64 0, .int .i64 0, .slice none 0 0, .slice none 0 0, .slice none 0 0] : Array Value)
abbrev zWf := (#[.string ⟨#[112, 114, 105, 110, 116]⟩, .string ⟨#[40, 73, 41, 86]⟩, .bool true, .bool true, .int .i64 0, .int .i64 0, .slice none 0 0, .slice none 0 0, .slice none 0 0, .string ⟨#[115, 108, 101, 101, 112]⟩, .string ⟨#[40, 73, 41, 86]⟩, .bool true, .bool true, .int .i64 0, .int .i64 0, .slice none 0 0, .slice none 0 0, .slice none 0 0] : Array Value)
abbrev zQq (a0) := (#[.string ⟨#[114, 117, 110]⟩, .string ⟨#[40, 41, 86]⟩, .bool false, .bool false, .int .i64 0, .int .i64 1, .slice (some ⟨a0, 0, none⟩) 1 1, .slice none 0 0, .slice none 0 0] : Array Value)
abbrev zTg := (#[.string ⟨#[84, 104, 114, 111, 119, 97, 98, 108, 101]⟩, .string ⟨#[79, 98, 106, 101, 99, 116]⟩, .slice none 0 0, .slice none 0 0, .slice none 0 0] : Array Value)
abbrev zSq (a0) := (#[.string a0, .string ⟨#[84, 104, 114, 111, 119, 97, 98, 108, 101]⟩, .slice none 0 0, .slice none 0 0, .slice none 0 0] : Array Value)
def putK (w : World) (v : Value) : World := w.alloc (.cells #[v] 127)
theorem GvI.box {w W : World} {v v' : Value} {ks : List KD} {rows : Nat → List Value} (I : GvI (putK w v) W v' ks rows) : Blk W w.heap.size #[v] 127 := (I.B.block _ (by simp [putK])).trans (Blk.new w _ _)
theorem GvI.bx {w W : World} {v v' : Value} {ks : List KD} {rows : Nat → List Value} (I : GvI (putK w v) W v' ks rows) : W.cell? ⟨w.heap.size, 0, none⟩ = some v := (I.box.cell 0).trans rfl
theorem GvI.restore {w W : World} {v v' : Value} {ks : List KD} {rows : Nat → List Value} (I : GvI (putK w v) W v' ks rows) : GvI (putK w v') (W.setCell ⟨w.heap.size, 0, none⟩ v') v' ks rows := by
 have hb := I.box
 have hsz : (putK w v').heap.size = (putK w v).heap.size := by simp [putK]
 have hs : (putK w v).heap.size = w.heap.size + 1 := by simp [putK]
 refine ⟨⟨I.B.os, I.B.tape, I.B.output, by have := I.B.size; simp; omega, fun b hb' => ?_⟩, ?_, I.k, fun j x hx => ?_⟩
 · by_cases e : b = w.heap.size
   · subst e; exact (show Blk _ _ #[v'] _ from hb.set 0 v').trans (Blk.new w _ _).symm
   · rw [heap_setCell_other W ⟨w.heap.size, 0, none⟩ b _ e, I.B.block b (by omega)]
     unfold putK
     rw [Below.heap_alloc _ _ _ (by omega), Below.heap_alloc _ _ _ (by omega)]
 · rw [hsz]; exact ownsRow_setCell_other (a := ⟨w.heap.size, 0, none⟩) I.o (zAx I.o hb (by decide)) v'
 · rw [hsz]; exact zAg.ext (zAz (Or.inl (by omega)) 0 v') (I.r j x hx)
theorem cls1 {B gT : Nat} {w X : World} {cs : Array Value} {t : TypeId} (h : Below B w X) (K : Blk X gT cs t) (f : Nat → Array Value) (hB : B ≤ X.heap.size) :
 Blk (X.alloc (.cells (f gT) 31)) X.heap.size (f gT) 31 ∧ Below B w (X.alloc (.cells (f gT) 31)) ∧ Blk (X.alloc (.cells (f gT) 31)) gT cs t :=
 ⟨Blk.new X _ _, h.alloc hB _, K.alloc _⟩
theorem zUf {W : World} {B : Nat} {e : TypeId} {k : Nat} {v : Value} {n : Nat} {xs : List Value} (o : W.ownsRow B e k v n xs) {g : Nat} {cs : Array Value} {t : TypeId} (hb : Blk W g cs t) (ht : t ≠ e) (hg : B ≤ g) : zAd B v g = true := by
 simp only [zAd, Bool.and_eq_true, decide_eq_true_eq, bne_iff_ne]
 exact ⟨hg, zAx o hb ht⟩
theorem GvI.push1 {w W W' : World} {v v' : Value} {ks : List KD} {rows : Nat → List Value} {N : Nat} (I : GvI w W v ks rows) (hlen : ks.length = N) (k : KD) (row : Array Value)
 (ho : W'.ownsRow w.heap.size 31 5 v' (N + 1) (zAv rows N ++ row.toList)) (hg : W.grownBy W' v.ownBlock) (hat : v'.ownBlock = v.ownBlock ∨ v'.ownBlock = some W.heap.size)
 (hsz : row.size = 5) (hc : zAg (seen (zAd w.heap.size v) W) (.agg row) k) : ∃ rows', GvI w W' v' (ks ++ [k]) rows' := by
 have hf : zAv (fun _ => row.toList) [k].length = row.toList := by
  rw [show [k].length = 0 + 1 from rfl, zC2]; rfl
 exact ⟨_, I.push [k] (fun _ => row.toList) (by rw [hlen, hf]; exact ho) hg hat (fun _ _ => by simpa using hsz) (fun j x hx => by
  match j, hx with
  | 0, hx => cases hx; exact hc
  | j + 1, hx => simp at hx)⟩
theorem thrC {W : World} {gT gq : Nat} {X : Nat → Bool} (K4 : Blk W gT (zVi gq) 39) (h4 : X gT = true) (QB : Blk W gq #[.int .u8 177] 5) (hq : X gq = true) : zAg (seen X W) (.agg #[.string ⟨#[84, 104, 114, 101, 97, 100]⟩, .string ⟨#[79, 98, 106, 101, 99, 116]⟩, .slice none 0 0, .slice none 0 0, .slice (some ⟨gT, 0, none⟩) 3 3]) zE0 := by
 refine ⟨none, 0, none, 0, some ⟨gT, 0, none⟩, 3, rfl, by decide, by decide, LAt.nil _ _ _ _ _ (by unfold maxLen; omega), LAt.nil _ _ _ _ _ (by unfold maxLen; omega), ?_⟩
 refine zEa K4 h4 3 3 (Nat.le_refl _) (by unfold maxLen; omega) _ rfl (zW7 gq) (ix9 rfl (fun j hj => by match j, hj with | 0, _ => rfl | 1, _ => rfl | 2, _ => rfl)) (fun j x hx => ?_)
 match j, hx with
 | 0, hx => cases hx; exact zOs QB hq
 | 1, hx => cases hx; exact zCr _ _ _ _ (by decide) (by decide)
 | 2, hx => cases hx; exact zCr _ _ _ _ (by decide) (by decide)
 | j + 3, hx => simp [zE0] at hx
theorem sysC {W : World} {gS : Nat} {X : Nat → Bool} (K8 : Blk W gS zWf 39) (h8 : X gS = true) : zAg (seen X W) (.agg #[.string ⟨#[83, 121, 115, 116, 101, 109]⟩, .string ⟨#[79, 98, 106, 101, 99, 116]⟩, .slice none 0 0, .slice none 0 0, .slice (some ⟨gS, 0, none⟩) 2 2]) zHn := by
 refine ⟨none, 0, none, 0, some ⟨gS, 0, none⟩, 2, rfl, by decide, by decide, LAt.nil _ _ _ _ _ (by unfold maxLen; omega), LAt.nil _ _ _ _ _ (by unfold maxLen; omega), ?_⟩
 refine zEa K8 h8 2 2 (Nat.le_refl _) (by unfold maxLen; omega) _ rfl rowsS (ix9 rfl (fun j hj => by match j, hj with | 0, _ => rfl | 1, _ => rfl)) (fun j x hx => ?_)
 match j, hx with
 | 0, hx => cases hx; exact zCr _ _ _ _ (by decide) (by decide)
 | 1, hx => cases hx; exact zCr _ _ _ _ (by decide) (by decide)
 | j + 2, hx => simp [zHn] at hx
theorem zQ6 {X : World} {g i : Nat} {n : ByteArray} (T : Blk X g (zAn.map Value.string).toArray 9) (hn : zAn[i]? = some n) : X.cell? ⟨g, i, none⟩ = some (.string n) := by
 rw [T.cell i, List.getElem?_toArray, List.getElem?_map, hn]; rfl
theorem zMg {i : Nat} {n : ByteArray} (hn : zAn[i]? = some n) : n.size ≤ 1000 := by
 have := List.mem_of_getElem? hn
 revert this
 generalize n = x
 unfold zAn
 simp only [List.mem_cons, List.not_mem_nil, or_false]
 rintro (rfl | rfl | rfl | rfl | rfl | rfl | rfl | rfl | rfl) <;> decide
theorem mkU67 (w : World) (x2 x3 x4 x5 x6 x7 x8 x9 x10 x11 x12 x13 x14 x15 x16 x17 x18 x19 x20 x21 x22 x23 x24 x25 x26 x27 x28 x29 x30 x31 x32 x33 x34 x35 x36 x37 x38 x39 x40 x41 x42 x43 x44 x45 x46 x47 x48 x49 x50 x51 x52 x53 x54 x55 x56 x57 x58 x59 x60 x61 x62 x63 x64 x65 x66 x67 : Value) : ∃ u : Nat → Value, ({ tmps := #[.pointer none, .pointer (some ⟨w.heap.size, 0, none⟩), x2, x3, x4, x5, x6, x7, x8, x9, x10, x11, x12, x13, x14, x15, x16, x17, x18, x19, x20, x21, x22, x23, x24, x25, x26, x27, x28, x29, x30, x31, x32, x33, x34, x35, x36, x37, x38, x39, x40, x41, x42, x43, x44, x45, x46, x47, x48, x49, x50, x51, x52, x53, x54, x55, x56, x57, x58, x59, x60, x61, x62, x63, x64, x65, x66, x67, undef, undef, undef, undef, undef, undef, undef, undef, undef, undef, undef, undef, undef, undef], defers := [] } : Act) = { tmps := #[.pointer none, .pointer (some ⟨w.heap.size, 0, none⟩), u 2, u 3, u 4, u 5, u 6, u 7, u 8, u 9, u 10, u 11, u 12, u 13, u 14, u 15, u 16, u 17, u 18, u 19, u 20, u 21, u 22, u 23, u 24, u 25, u 26, u 27, u 28, u 29, u 30, u 31, u 32, u 33, u 34, u 35, u 36, u 37, u 38, u 39, u 40, u 41, u 42, u 43, u 44, u 45, u 46, u 47, u 48, u 49, u 50, u 51, u 52, u 53, u 54, u 55, u 56, u 57, u 58, u 59, u 60, u 61, u 62, u 63, u 64, u 65, u 66, u 67, undef, undef, undef, undef, undef, undef, undef, undef, undef, undef, undef, undef, undef, undef], defers := [] } := ⟨fun n => (#[undef, undef, x2, x3, x4, x5, x6, x7, x8, x9, x10, x11, x12, x13, x14, x15, x16, x17, x18, x19, x20, x21, x22, x23, x24, x25, x26, x27, x28, x29, x30, x31, x32, x33, x34, x35, x36, x37, x38, x39, x40, x41, x42, x43, x44, x45, x46, x47, x48, x49, x50, x51, x52, x53, x54, x55, x56, x57, x58, x59, x60, x61, x62, x63, x64, x65, x66, x67] : Array Value).getD n undef, rfl⟩
theorem mkU80 (w : World) (x2 x3 x4 x5 x6 x7 x8 x9 x10 x11 x12 x13 x14 x15 x16 x17 x18 x19 x20 x21 x22 x23 x24 x25 x26 x27 x28 x29 x30 x31 x32 x33 x34 x35 x36 x37 x38 x39 x40 x41 x42 x43 x44 x45 x46 x47 x48 x49 x50 x51 x52 x53 x54 x55 x56 x57 x58 x59 x60 x61 x62 x63 x64 x65 x66 x67 x68 x69 x70 x71 x72 x73 x74 x75 x76 x77 x78 x79 x80 : Value) : ∃ u : Nat → Value, ({ tmps := #[.pointer none, .pointer (some ⟨w.heap.size, 0, none⟩), x2, x3, x4, x5, x6, x7, x8, x9, x10, x11, x12, x13, x14, x15, x16, x17, x18, x19, x20, x21, x22, x23, x24, x25, x26, x27, x28, x29, x30, x31, x32, x33, x34, x35, x36, x37, x38, x39, x40, x41, x42, x43, x44, x45, x46, x47, x48, x49, x50, x51, x52, x53, x54, x55, x56, x57, x58, x59, x60, x61, x62, x63, x64, x65, x66, x67, x68, x69, x70, x71, x72, x73, x74, x75, x76, x77, x78, x79, x80, undef], defers := [] } : Act) = { tmps := #[.pointer none, .pointer (some ⟨w.heap.size, 0, none⟩), u 2, u 3, u 4, u 5, u 6, u 7, u 8, u 9, u 10, u 11, u 12, u 13, u 14, u 15, u 16, u 17, u 18, u 19, u 20, u 21, u 22, u 23, u 24, u 25, u 26, u 27, u 28, u 29, u 30, u 31, u 32, u 33, u 34, u 35, u 36, u 37, u 38, u 39, u 40, u 41, u 42, u 43, u 44, u 45, u 46, u 47, u 48, u 49, u 50, u 51, u 52, u 53, u 54, u 55, u 56, u 57, u 58, u 59, u 60, u 61, u 62, u 63, u 64, u 65, u 66, u 67, u 68, u 69, u 70, u 71, u 72, u 73, u 74, u 75, u 76, u 77, u 78, u 79, u 80, undef], defers := [] } := ⟨fun n => (#[undef, undef, x2, x3, x4, x5, x6, x7, x8, x9, x10, x11, x12, x13, x14, x15, x16, x17, x18, x19, x20, x21, x22, x23, x24, x25, x26, x27, x28, x29, x30, x31, x32, x33, x34, x35, x36, x37, x38, x39, x40, x41, x42, x43, x44, x45, x46, x47, x48, x49, x50, x51, x52, x53, x54, x55, x56, x57, x58, x59, x60, x61, x62, x63, x64, x65, x66, x67, x68, x69, x70, x71, x72, x73, x74, x75, x76, x77, x78, x79, x80] : Array Value).getD n undef, rfl⟩
theorem zTv (w : World) : Calls Tryz.prog 30 #[] w fun e w' => ∃ v rows, e = .returned (.pointer (some ⟨w.heap.size, 0, none⟩)) ∧ GvI (putK w v) w' v zBd rows := by
 obtain ⟨i0, hi, hz0, hz1, hz2⟩ := info_parts infoK
 go_enter Tryz.func30, Tryz.ntmps30
 go_wp2_with fail
 have IC : GvI (putK w (.slice none 0 0)) (putK w (.slice none 0 0)) (.slice none 0 0) [] (fun _ => []) := ⟨Below.refl _ _, World.ownsRow_nil _ _ _ _, fun j hj => by simp at hj, fun j x hx => by simp at hx⟩
 rw [show w.alloc (.cells #[.slice none 0 0] 127) = putK w (.slice none 0 0) from rfl]
 obtain ⟨WC, hWC⟩ : ∃ WC, WC = putK w (.slice none 0 0) := ⟨_, rfl⟩
 rw [← hWC]
 have IC : GvI (putK w (.slice none 0 0)) WC (.slice none 0 0) [] (fun _ => []) := hWC ▸ IC
 clear hWC
 have hcur := (Below.refl WC.heap.size WC).drew
 have zb := (IC.below hcur).bx
 have hlen : ([] : List KD).length = 0 := rfl
 refine Code.wp_mono (Q := fun e a W => e = Exit.normal ∧ ∃ u5 u6 u7 u8 u9 u10 u11 u12 u13 u14 u15 u16 u17 u18 u19 u20 : Value, a = { tmps := #[.pointer none, .pointer (some ⟨w.heap.size, 0, none⟩), undef, undef, undef, u5, u6, u7, u8, u9, u10, u11, u12, u13, u14, u15, u16, u17, u18, u19, u20, undef, undef, undef, undef, undef, undef, undef, undef, undef, undef, undef, undef, undef, undef, undef, undef, undef, undef, undef, undef, undef, undef, undef, undef, undef, undef, undef, undef, undef, undef, undef, undef, undef, undef, undef, undef, undef, undef, undef, undef, undef, undef, undef, undef, undef, undef, undef, undef, undef, undef, undef, undef, undef, undef, undef, undef, undef, undef, undef, undef, undef], defers := [] } ∧ ∃ v rows, GvI (putK w v) W v [zB8] rows) ?q0 ?reg
 case reg =>
  refine wp_region_noPanic ?_
  refine rL (fun X => X.cell? ⟨w.heap.size, 0, none⟩ = some (.slice none 0 0)) 14 ?_ (fun hHeld => ?_)
  · (try dsimp only); first | exact I10.bx | exact (IC.below hcur).bx
  refine tP 0 ?q1 rfl rfl ?q2 ?q3; case q2 => intro w; go_simp; try with_reducible rfl
  try simp only [Act.put, sq1, sq2, sq3]
  refine tP 1 ?q4 rfl rfl ?q5 ?q6; case q5 => intro w; go_simp; try with_reducible rfl
  try simp only [Act.put, sq1, sq2, sq3]
  refine tP 2 ?q7 rfl rfl ?q8 ?q9; case q8 => intro w; go_simp; try with_reducible rfl
  try simp only [Act.put, sq1, sq2, sq3]
  refine tP 3 ?qa rfl rfl ?qb ?qc; case qb => intro w; go_simp; try with_reducible rfl
  try simp only [Act.put, sq1, sq2, sq3]
  refine tL 4 ?qd rfl rfl ?qe ?qf; case qe => intro w hSw; go_simp; try with_reducible rfl
  try simp only [Act.put, sq1, sq2, sq3]
  refine sL 5 rfl (fun K hK => ?_)
  go_simp
  refine (zF9 _ _ _ _).mono ?_; rintro e y1 ⟨rfl, c1⟩; have hcur := next hcur c1; have zb := (IC.below hcur).bx
  try go_wp2_with fail
  refine hK.out _ _ ?qh ?qi; case qh => (try dsimp only); first | exact I10.bx | exact (IC.below hcur).bx
  clear hK K hHeld; intro hHeld
  try simp only [Act.put, sq1, sq2, sq3]
  refine sL 6 rfl (fun K hK => ?_)
  go_simp
  refine (zF9 _ _ _ _).mono ?_; rintro e y2 ⟨rfl, c2⟩; have hcur := next hcur c2; have zb := (IC.below hcur).bx
  try go_wp2_with fail
  refine hK.out _ _ ?qj ?qk; case qj => (try dsimp only); first | exact I10.bx | exact (IC.below hcur).bx
  clear hK K hHeld; intro hHeld
  try simp only [Act.put, sq1, sq2, sq3]
  refine sL 7 rfl (fun K hK => ?_)
  go_simp
  refine (zF9 _ _ _ _).mono ?_; rintro e y3 ⟨rfl, c3⟩; have hcur := next hcur c3; have zb := (IC.below hcur).bx
  try go_wp2_with fail
  refine hK.out _ _ ?ql ?qm; case ql => (try dsimp only); first | exact I10.bx | exact (IC.below hcur).bx
  clear hK K hHeld; intro hHeld
  try simp only [Act.put, sq1, sq2, sq3]
  refine sL 8 rfl (fun K hK => ?_)
  go_simp
  have qg := geOf IC hcur; have K8 := zJ6 hcur #[.string ⟨#[119, 97, 105, 116]⟩, .string ⟨#[40, 41, 86]⟩, .bool false, .bool true, .int .i64 0, .int .i64 0, .slice none 0 0, .slice none 0 0, .slice none 0 0, .string ⟨#[110, 111, 116, 105, 102, 121]⟩, .string ⟨#[40, 41, 86]⟩, .bool false, .bool true, .int .i64 0, .int .i64 0, .slice none 0 0, .slice none 0 0, .slice none 0 0, .string ⟨#[110, 111, 116, 105, 102, 121, 65, 108, 108]⟩, .string ⟨#[40, 41, 86]⟩, .bool false, .bool true, .int .i64 0, .int .i64 0, .slice none 0 0, .slice none 0 0, .slice none 0 0] 39; (try simp only [World.size_alloc] at K8 qg); have hcur := zE7 hcur (.cells #[.string ⟨#[119, 97, 105, 116]⟩, .string ⟨#[40, 41, 86]⟩, .bool false, .bool true, .int .i64 0, .int .i64 0, .slice none 0 0, .slice none 0 0, .slice none 0 0, .string ⟨#[110, 111, 116, 105, 102, 121]⟩, .string ⟨#[40, 41, 86]⟩, .bool false, .bool true, .int .i64 0, .int .i64 0, .slice none 0 0, .slice none 0 0, .slice none 0 0, .string ⟨#[110, 111, 116, 105, 102, 121, 65, 108, 108]⟩, .string ⟨#[40, 41, 86]⟩, .bool false, .bool true, .int .i64 0, .int .i64 0, .slice none 0 0, .slice none 0 0, .slice none 0 0] 39); have zb := (IC.below hcur).bx
  try go_wp2_with fail
  refine hK.out _ _ ?qn ?qo; case qn => (try dsimp only); first | exact I10.bx | exact (IC.below hcur).bx
  clear hK K hHeld; intro hHeld
  try simp only [Act.put, sq1, sq2, sq3]
  refine tP 9 ?qp rfl rfl ?qq ?qr; case qq => intro w; go_simp; try with_reducible rfl
  try simp only [Act.put, sq1, sq2, sq3]
  refine sL 10 rfl (fun K hK => ?_)
  go_simp
  obtain ⟨K10, hcur, K8⟩ := cls1 hcur K8 (fun g => #[.string ⟨#[79, 98, 106, 101, 99, 116]⟩, .string ⟨#[]⟩, .slice none 0 0, .slice none 0 0, .slice (some ⟨g, 0, none⟩) 3 3]) hcur.size; (try simp only [World.size_alloc] at K10); have zb := (IC.below hcur).bx
  try go_wp2_with fail
  refine hK.out _ _ ?qs ?qt; case qs => (try dsimp only); first | exact I10.bx | exact (IC.below hcur).bx
  clear hK K hHeld; intro hHeld
  try simp only [Act.put, sq1, sq2, sq3]
  refine sL 11 rfl (fun K hK => ?_)
  have I9 := IC.below hcur
  have o9 := I9.o
  rw [hlen] at o9
  obtain ⟨v9, w9, hr9, ho9, hg9, _, hat9⟩ := run_append_own_at (P := Tryz.prog) _ _ 25 25 31 i0 (.agg #[.string ⟨#[]⟩, .string ⟨#[]⟩, .slice none 0 0, .slice none 0 0, .slice none 0 0]) 5 104 Tryz.underlying25 hi hz0 hz1 hz2 rfl (by decide) _ _ _ o9 _ 1 1 _ rfl (World.news_of_block K10) (by intro u hu; simp at hu; rcases hu with rfl | rfl | rfl | rfl | rfl <;> rfl) (by unfold maxLen; omega) (by omega) I9.B.size
  obtain ⟨g9, cap9, rfl⟩ := zBs ho9 (by omega)
  obtain ⟨rows10, I10⟩ := I9.push1 hlen zB8 _ ho9 hg9 hat9 rfl (objA K8 (zUf I9.o K8 (by decide) qg))
  have zb := I10.bx
  have zf := I10.box.frozen 0
  have FIN := I10.restore
  refine zBb (v := .slice none 0 0) (vb := .slice (some ⟨_, 0, none⟩) 1 1) rfl rfl rfl rfl hr9 ?_
  refine hK.out _ _ ?qu ?qv; case qu => (try dsimp only); first | exact I10.bx | exact (IC.below hcur).bx
  clear hK K hHeld; intro hHeld
  try simp only [Act.put, sq1, sq2, sq3]
  refine tP 12 ?qw rfl rfl ?qx ?qy; case qx => intro w; go_simp; try with_reducible rfl
  try simp only [Act.put, sq1, sq2, sq3]
  refine tP 13 ?qz rfl rfl ?qA ?qB; case qA => intro w; go_simp; try with_reducible rfl
  try simp only [Act.put, sq1, sq2, sq3]
  refine jL rfl (fun K hK => ?_)
  go_simp
  try go_wp2_with fail
  refine hK.out _ _ ?qC; clear hK K
  try simp only [Act.put, sq1, sq2, sq3]
  refine dL ?_
  refine NoPanic.normal ?_
  exact ⟨rfl, _, _, _, _, _, _, _, _, _, _, _, _, _, _, _, _, rfl, _, _, FIN⟩
 case q0 =>
  clear IC hcur zb hlen
  rintro e a W ⟨rfl, u5, u6, u7, u8, u9, u10, u11, u12, u13, u14, u15, u16, u17, u18, u19, u20, rfl, v, rows, IC⟩
  obtain ⟨ga, gc, rfl⟩ := zBs IC.o (by decide)
  have zb := IC.bx
  have I2 := IC.below (zA6 W (.cells zTg 31))
  have K10 := Blk.new W zTg 31
  have o2 : (W.alloc (.cells zTg 31)).ownsRow (putK w (.slice (some ⟨ga, 0, none⟩) 1 gc)).heap.size 31 5 (.slice (some ⟨ga, 0, none⟩) 1 gc) 1 (zAv rows 1) := I2.o
  go_wp2_with (first | (go_at_call 81; fail) | (at_builtin; refine wpList_append_own_at _ rfl _ _ 25 rfl (putK w (.slice (some ⟨ga, 0, none⟩) 1 gc)).heap.size 31 i0 (.agg #[.string ⟨#[]⟩, .string ⟨#[]⟩, .slice none 0 0, .slice none 0 0, .slice none 0 0]) 5 104 Tryz.underlying25 hi hz0 hz1 hz2 rfl (by decide) _ _ _ rfl o2 _ 1 1 (zDj zA5 zAc) rfl rfl (World.news_of_block K10) (by intro u hu; simp [zDj] at hu; rcases hu with rfl | rfl | rfl | rfl | rfl <;> rfl) (by unfold maxLen; omega) (by omega) I2.B.size ?_; intro v1 w2 ho1 hg1 _ hat1; obtain ⟨g1, cap1, rfl⟩ := zBs ho1 (by omega); obtain ⟨rows3, I3⟩ := I2.push1 rfl (zAm zA5 zAc) zTg ho1 hg1 hat1 rfl (zD1 _ _ _ (by decide) (by decide)); have zb := I3.bx; have zf := I3.box.frozen 0; have I4 := I3.restore))
  clear IC I2 o2 K10 I3 zb zf
  generalize w2.setCell ⟨w.heap.size, 0, none⟩ (.slice (some ⟨g1, 0, none⟩) (1 + 1) cap1) = WB at *
  try go_at_call 81
  refine (zLc _).mono ?_
  rintro e w4 ⟨rfl, rfl⟩
  have IA := I4.below (zA6 WB (.cells (zAn.map Value.string).toArray 9))
  have TA := Blk.new WB (zAn.map Value.string).toArray 9
  go_wp2_with fail
  generalize WB.alloc (.cells (zAn.map Value.string).toArray 9) = WL at *
  have hgt : w.heap.size ≠ WB.heap.size := fun e => by have := I4.box.lt; omega
  generalize WB.heap.size = gt at *
  clear I4
  go_loopw [3] (fun iv wr => ∃ (i : Nat) (v : Value) (rows : Nat → List Value), iv = .int .i64 (i : Int) ∧ i ≤ 9 ∧ GvI (putK w v) wr v ([zB8, zAm zA5 zAc] ++ (zAn.take i).map (fun n => zAm n zA5)) rows ∧ Blk wr gt (zAn.map Value.string).toArray 9) (fun iv _ => 9 - (intOf iv).toNat)
  case atStart => exact ⟨0, _, _, rfl, Nat.zero_le _, IA, TA⟩
  case round =>
   obtain ⟨i, v, rows, rfl, hi9, IC, TC⟩ := hrel
   clear IA TA
   have hlen : ([zB8, zAm zA5 zAc] ++ (zAn.take i).map (fun n => zAm n zA5)).length = 2 + i := by
    simp [List.length_take, show zAn.length = 9 from rfl]; omega
   obtain ⟨ga, gc, hlv⟩ := zBs IC.o (by rw [hlen]; omega)
   rw [hlen] at hlv
   subst hlv
   by_cases hlt : i < 9
   · have hlt' : (i : Int) < 9 := by omega
     obtain ⟨n, hn⟩ : ∃ n, zAn[i]? = some n := ⟨_, List.getElem?_eq_getElem (show i < zAn.length from hlt)⟩
     have hns := zMg hn
     have hks : ([zB8, zAm zA5 zAc] ++ (zAn.take i).map (fun n => zAm n zA5)) ++ [zAm n zA5] = ([zB8, zAm zA5 zAc] ++ (zAn.take (i + 1)).map (fun n => zAm n zA5)) := by
      rw [List.take_add_one, hn, List.map_append, List.append_assoc]; rfl
     have HKS := D.zA0 hks
     clear hks
     have hcur := (Below.refl wr.heap.size wr).drew
     have zb := (IC.below hcur).bx
     have zw := IC.bx
     have Tc : Blk wr.drew gt (zAn.map Value.string).toArray 9 := TC
     go_wp2_with fail
     refine wp_region_noPanic ?_
     refine rL (fun X => X.cell? ⟨w.heap.size, 0, none⟩ = some (.slice (some ⟨ga, 0, none⟩) (2 + i) gc) ∧ X.cell? ⟨gt, i, none⟩ = some (.string n)) 14 ?_ (fun hHeld => ?_)
     · (try dsimp only); first | exact ⟨I10.bx, zQ6 Tc hn⟩ | exact ⟨(IC.below hcur).bx, zQ6 Tc hn⟩
     refine tP 0 ?qD rfl rfl ?qE ?qF; case qE => intro w; go_simp; try with_reducible rfl
     try simp only [Act.put, sq1, sq2, sq3]
     refine tP 1 ?qG rfl rfl ?qH ?qI; case qH => intro w; go_simp; try with_reducible rfl
     try simp only [Act.put, sq1, sq2, sq3]
     refine tP 2 ?qJ rfl rfl ?qK ?qL; case qK => intro w; go_simp; try with_reducible rfl
     try simp only [Act.put, sq1, sq2, sq3]
     refine tP 3 ?qM rfl rfl ?qN ?qO; case qN => intro w; go_simp; try with_reducible rfl
     try simp only [Act.put, sq1, sq2, sq3]
     refine tL 4 ?qP rfl rfl ?qQ ?qR; case qQ => intro w hSw; go_simp; try with_reducible rfl
     try simp only [Act.put, sq1, sq2, sq3]
     refine tP 5 ?qS rfl rfl ?qT ?qU; case qT => intro w; go_simp; try with_reducible rfl
     try simp only [Act.put, sq1, sq2, sq3]
     refine tP 6 ?qV rfl rfl ?qW ?qX; case qW => intro w; go_simp; try with_reducible rfl
     try simp only [Act.put, sq1, sq2, sq3]
     refine tP 7 ?qY rfl rfl ?qZ ?j0; case qZ => intro w; go_simp; try with_reducible rfl
     try simp only [Act.put, sq1, sq2, sq3]
     refine tL 8 ?j1 rfl rfl ?j2 ?j3; case j2 => intro w hSw; go_simp; try with_reducible rfl
     try simp only [Act.put, sq1, sq2, sq3]
     refine tP 9 ?j4 rfl rfl ?j5 ?j6; case j5 => intro w; go_simp; try with_reducible rfl
     try simp only [Act.put, sq1, sq2, sq3]
     refine sL 10 rfl (fun K hK => ?_)
     go_simp
     have K10 : Blk (wr.alloc (.cells (zSq n) 31)).drew wr.heap.size (zSq n) 31 := Blk.new wr _ _; have Tc : Blk (wr.alloc (.cells (zSq n) 31)).drew gt (zAn.map Value.string).toArray 9 := TC.alloc _; have hcur : Below wr.heap.size wr (wr.alloc (.cells (zSq n) 31)).drew := (zA6 wr _).drew; have zb := (IC.below hcur).bx; generalize (wr.alloc (.cells (zSq n) 31)).drew = WX at *
     try go_wp2_with fail
     refine hK.out _ _ ?j7 ?j8; case j7 => (try dsimp only); first | exact ⟨I10.bx, zQ6 Tc hn⟩ | exact ⟨(IC.below hcur).bx, zQ6 Tc hn⟩
     clear hK K hHeld; intro hHeld
     try simp only [Act.put, sq1, sq2, sq3]
     refine sL 11 rfl (fun K hK => ?_)
     have I9 := IC.below hcur
     have o9 := I9.o
     rw [hlen] at o9
     obtain ⟨v9, w9, hr9, ho9, hg9, _, hat9⟩ := run_append_own_at (P := Tryz.prog) _ _ 25 25 31 i0 (.agg #[.string ⟨#[]⟩, .string ⟨#[]⟩, .slice none 0 0, .slice none 0 0, .slice none 0 0]) 5 104 Tryz.underlying25 hi hz0 hz1 hz2 rfl (by decide) _ _ _ o9 _ 1 1 _ rfl (World.news_of_block K10) (by intro u hu; simp at hu; rcases hu with rfl | rfl | rfl | rfl | rfl <;> rfl) (by unfold maxLen; omega) (by omega) I9.B.size
     obtain ⟨g9, cap9, rfl⟩ := zBs ho9 (by omega)
     obtain ⟨rows10, I10⟩ := I9.push1 hlen (zAm n zA5) _ ho9 hg9 hat9 rfl (zD1 _ _ _ (by omega) (by decide))
     have zb := I10.bx
     have zf := I10.box.frozen 0
     have FIN := I10.restore
     rw [HKS.out] at FIN
     have Tc := zG1 Tc hg9 (zAx I9.o Tc (by decide))
     refine zBb (v := .slice (some ⟨ga, 0, none⟩) (2 + i) gc) (vb := .slice (some ⟨_, 0, none⟩) 1 1) rfl rfl rfl rfl hr9 ?_
     refine hK.out _ _ ?j9 ?ja; case j9 => (try dsimp only); first | exact ⟨I10.bx, zQ6 Tc hn⟩ | exact ⟨(IC.below hcur).bx, zQ6 Tc hn⟩
     clear hK K hHeld; intro hHeld
     try simp only [Act.put, sq1, sq2, sq3]
     refine tP 12 ?jb rfl rfl ?jc ?jd; case jc => intro w; go_simp; try with_reducible rfl
     try simp only [Act.put, sq1, sq2, sq3]
     refine tP 13 ?je rfl rfl ?jf ?jg; case jf => intro w; go_simp; try with_reducible rfl
     try simp only [Act.put, sq1, sq2, sq3]
     refine jL rfl (fun K hK => ?_)
     go_simp
     try go_wp2_with fail
     refine hK.out _ _ ?jh; clear hK K
     try simp only [Act.put, sq1, sq2, sq3]
     refine dL ?_
     refine NoPanic.normal ?_
     go_wp2
     go_roundw
     case rel => exact ⟨i + 1, _, _, by go_num, by omega, FIN, Tc.other (fun e => hgt e.symm) 0 _⟩
     case measure => simp [intOf]; omega
   · have hlt' : ¬ (i : Int) < 9 := by omega
     have : i = 9 := by omega
     subst this
     clear TC
     have IC0 := D.zA0 IC
     have IC := IC.below (((Below.refl _ wr).alloc (Nat.le_refl _) (.cells #[.int .u8 177] 5)).alloc (by simp) (.cells (zQq wr.heap.size) 39))
     have QB := (Blk.new wr #[.int .u8 177] 5).alloc (.cells (zQq wr.heap.size) 39)
     have RB := Blk.new (wr.alloc (.cells #[.int .u8 177] 5)) (zQq wr.heap.size) 39
     rw [World.size_alloc] at RB
     have hgq : (putK w (.slice (some ⟨ga, 0, none⟩) (2 + 9) gc)).heap.size ≤ wr.heap.size := IC0.out.B.size
     have hgq1 : wr.heap.size + 1 ≠ w.heap.size := by
      have : (putK w (.slice (some ⟨ga, 0, none⟩) (2 + 9) gc)).heap.size = w.heap.size + 1 := by simp [putK]
      omega
     go_wp2_with fail
     generalize (wr.alloc (.cells #[.int .u8 177] 5)).alloc (.cells (zQq wr.heap.size) 39) = WC at *
     generalize wr.heap.size = gq at *
     have ST := D.zA0 (fun (X : World) (h : Blk X (gq + 1) (zQq gq) 39) => (⟨h.cell 0, h.cell 1, h.cell 2, h.cell 3, h.cell 4, h.cell 5, h.cell 6, h.cell 7, h.cell 8⟩ : (fun X => X.cell? ⟨gq + 1, 0, none⟩ = some (.string ⟨#[114, 117, 110]⟩) ∧ X.cell? ⟨gq + 1, 1, none⟩ = some (.string ⟨#[40, 41, 86]⟩) ∧ X.cell? ⟨gq + 1, 2, none⟩ = some (.bool false) ∧ X.cell? ⟨gq + 1, 3, none⟩ = some (.bool false) ∧ X.cell? ⟨gq + 1, 4, none⟩ = some (.int .i64 0) ∧ X.cell? ⟨gq + 1, 5, none⟩ = some (.int .i64 1) ∧ X.cell? ⟨gq + 1, 6, none⟩ = some (.slice (some ⟨gq, 0, none⟩) 1 1) ∧ X.cell? ⟨gq + 1, 7, none⟩ = some (.slice none 0 0) ∧ X.cell? ⟨gq + 1, 8, none⟩ = some (.slice none 0 0)) X))
     have hcur := (Below.refl WC.heap.size WC).drew
     have zb := (IC.below hcur).bx
     refine Code.wp_mono (Q := fun e a W => e = Exit.normal ∧ (∃ u : Nat → Value, a = { tmps := #[.pointer none, .pointer (some ⟨w.heap.size, 0, none⟩), u 2, u 3, u 4, u 5, u 6, u 7, u 8, u 9, u 10, u 11, u 12, u 13, u 14, u 15, u 16, u 17, u 18, u 19, u 20, u 21, u 22, u 23, u 24, u 25, u 26, u 27, u 28, u 29, u 30, u 31, u 32, u 33, u 34, u 35, u 36, u 37, u 38, u 39, u 40, u 41, u 42, u 43, u 44, u 45, u 46, u 47, u 48, u 49, u 50, u 51, u 52, u 53, u 54, u 55, u 56, u 57, u 58, u 59, u 60, u 61, u 62, u 63, u 64, u 65, u 66, u 67, undef, undef, undef, undef, undef, undef, undef, undef, undef, undef, undef, undef, undef, undef], defers := [] }) ∧ ∃ v rows, GvI (putK w v) W v (([zB8, zAm zA5 zAc] ++ (zAn.take 9).map (fun n => zAm n zA5)) ++ [zE0]) rows) ?q0 ?reg
     case reg =>
      refine wp_region_noPanic ?_
      refine rL (fun X => X.cell? ⟨w.heap.size, 0, none⟩ = some (.slice (some ⟨ga, 0, none⟩) (2 + 9) gc) ∧ X.cell? ⟨gq + 1, 0, none⟩ = some (.string ⟨#[114, 117, 110]⟩) ∧ X.cell? ⟨gq + 1, 1, none⟩ = some (.string ⟨#[40, 41, 86]⟩) ∧ X.cell? ⟨gq + 1, 2, none⟩ = some (.bool false) ∧ X.cell? ⟨gq + 1, 3, none⟩ = some (.bool false) ∧ X.cell? ⟨gq + 1, 4, none⟩ = some (.int .i64 0) ∧ X.cell? ⟨gq + 1, 5, none⟩ = some (.int .i64 1) ∧ X.cell? ⟨gq + 1, 6, none⟩ = some (.slice (some ⟨gq, 0, none⟩) 1 1) ∧ X.cell? ⟨gq + 1, 7, none⟩ = some (.slice none 0 0) ∧ X.cell? ⟨gq + 1, 8, none⟩ = some (.slice none 0 0)) 14 ?_ (fun hHeld => ?_)
      · (try dsimp only); first | exact ⟨I10.bx, ST.out _ RB9⟩ | exact ⟨(IC.below hcur).bx, ST.out _ (RB.below hcur)⟩
      refine tP 0 ?ji rfl rfl ?jj ?jk; case jj => intro w; go_simp; try with_reducible rfl
      try simp only [Act.put, sq1, sq2, sq3]
      refine tP 1 ?jl rfl rfl ?jm ?jn; case jm => intro w; go_simp; try with_reducible rfl
      try simp only [Act.put, sq1, sq2, sq3]
      refine tP 2 ?jo rfl rfl ?jp ?jq; case jp => intro w; go_simp; try with_reducible rfl
      try simp only [Act.put, sq1, sq2, sq3]
      refine tP 3 ?jr rfl rfl ?js ?jt; case js => intro w; go_simp; try with_reducible rfl
      try simp only [Act.put, sq1, sq2, sq3]
      refine tL 4 ?ju rfl rfl ?jv ?jw; case jv => intro w hSw; go_simp; try with_reducible rfl
      try simp only [Act.put, sq1, sq2, sq3]
      refine tL 5 ?jx rfl rfl ?jy ?jz; case jy => intro w hSw; go_simp; try with_reducible rfl
      try simp only [Act.put, sq1, sq2, sq3]
      refine sL 6 rfl (fun K hK => ?_)
      go_simp
      refine (zF9 _ _ _ _).mono ?_; rintro e y1 ⟨rfl, c1⟩; have hcur := next hcur c1; have zb := (IC.below hcur).bx
      try go_wp2_with fail
      refine hK.out _ _ ?jA ?jB; case jA => (try dsimp only); first | exact ⟨I10.bx, ST.out _ RB9⟩ | exact ⟨(IC.below hcur).bx, ST.out _ (RB.below hcur)⟩
      clear hK K hHeld; intro hHeld
      try simp only [Act.put, sq1, sq2, sq3]
      refine sL 7 rfl (fun K hK => ?_)
      go_simp
      refine (zF9 _ _ _ _).mono ?_; rintro e y2 ⟨rfl, c2⟩; have hcur := next hcur c2; have zb := (IC.below hcur).bx
      try go_wp2_with fail
      refine hK.out _ _ ?jC ?jD; case jC => (try dsimp only); first | exact ⟨I10.bx, ST.out _ RB9⟩ | exact ⟨(IC.below hcur).bx, ST.out _ (RB.below hcur)⟩
      clear hK K hHeld; intro hHeld
      try simp only [Act.put, sq1, sq2, sq3]
      refine sL 8 rfl (fun K hK => ?_)
      go_simp
      have qg := geOf IC hcur; have K8 := zJ6 hcur (zVi gq) 39; (try simp only [World.size_alloc] at K8 qg); have hcur := zE7 hcur (.cells (zVi gq) 39); have zb := (IC.below hcur).bx
      try go_wp2_with fail
      refine hK.out _ _ ?jE ?jF; case jE => (try dsimp only); first | exact ⟨I10.bx, ST.out _ RB9⟩ | exact ⟨(IC.below hcur).bx, ST.out _ (RB.below hcur)⟩
      clear hK K hHeld; intro hHeld
      try simp only [Act.put, sq1, sq2, sq3]
      refine tP 9 ?jG rfl rfl ?jH ?jI; case jH => intro w; go_simp; try with_reducible rfl
      try simp only [Act.put, sq1, sq2, sq3]
      refine sL 10 rfl (fun K hK => ?_)
      go_simp
      obtain ⟨K10, hcur, K8⟩ := cls1 hcur K8 (fun g => #[.string ⟨#[84, 104, 114, 101, 97, 100]⟩, .string ⟨#[79, 98, 106, 101, 99, 116]⟩, .slice none 0 0, .slice none 0 0, .slice (some ⟨g, 0, none⟩) 3 3]) hcur.size; (try simp only [World.size_alloc] at K10); have zb := (IC.below hcur).bx
      try go_wp2_with fail
      refine hK.out _ _ ?jJ ?jK; case jJ => (try dsimp only); first | exact ⟨I10.bx, ST.out _ RB9⟩ | exact ⟨(IC.below hcur).bx, ST.out _ (RB.below hcur)⟩
      clear hK K hHeld; intro hHeld
      try simp only [Act.put, sq1, sq2, sq3]
      refine sL 11 rfl (fun K hK => ?_)
      have I9 := IC.below hcur
      have o9 := I9.o
      rw [hlen] at o9
      obtain ⟨v9, w9, hr9, ho9, hg9, _, hat9⟩ := run_append_own_at (P := Tryz.prog) _ _ 25 25 31 i0 (.agg #[.string ⟨#[]⟩, .string ⟨#[]⟩, .slice none 0 0, .slice none 0 0, .slice none 0 0]) 5 104 Tryz.underlying25 hi hz0 hz1 hz2 rfl (by decide) _ _ _ o9 _ 1 1 _ rfl (World.news_of_block K10) (by intro u hu; simp at hu; rcases hu with rfl | rfl | rfl | rfl | rfl <;> rfl) (by unfold maxLen; omega) (by omega) I9.B.size
      obtain ⟨g9, cap9, rfl⟩ := zBs ho9 (by omega)
      obtain ⟨rows10, I10⟩ := I9.push1 hlen zE0 _ ho9 hg9 hat9 rfl (thrC K8 (zUf I9.o K8 (by decide) qg) (QB.below hcur) (zUf I9.o (QB.below hcur) (by decide) hgq))
      have zb := I10.bx
      have zf := I10.box.frozen 0
      have FIN := I10.restore
      have RB9 := zG1 (RB.below hcur) hg9 (zAx I9.o (RB.below hcur) (by decide))
      refine zBb (v := .slice (some ⟨ga, 0, none⟩) (2 + 9) gc) (vb := .slice (some ⟨_, 0, none⟩) 1 1) rfl rfl rfl rfl hr9 ?_
      refine hK.out _ _ ?jM ?jN; case jM => (try dsimp only); first | exact ⟨I10.bx, ST.out _ RB9⟩ | exact ⟨(IC.below hcur).bx, ST.out _ (RB.below hcur)⟩
      clear hK K hHeld; intro hHeld
      try simp only [Act.put, sq1, sq2, sq3]
      refine tP 12 ?jO rfl rfl ?jP ?jQ; case jP => intro w; go_simp; try with_reducible rfl
      try simp only [Act.put, sq1, sq2, sq3]
      refine tP 13 ?jR rfl rfl ?jS ?jT; case jS => intro w; go_simp; try with_reducible rfl
      try simp only [Act.put, sq1, sq2, sq3]
      refine jL rfl (fun K hK => ?_)
      go_simp
      try go_wp2_with fail
      refine hK.out _ _ ?jU; clear hK K
      try simp only [Act.put, sq1, sq2, sq3]
      refine dL ?_
      refine NoPanic.normal ?_
      exact ⟨rfl, mkU67 w _ _ _ _ _ _ _ _ _ _ _ _ _ _ _ _ _ _ _ _ _ _ _ _ _ _ _ _ _ _ _ _ _ _ _ _ _ _ _ _ _ _ _ _ _ _ _ _ _ _ _ _ _ _ _ _ _ _ _ _ _ _ _ _ _ _, _, _, FIN⟩
     case q0 =>
      clear IC RB QB ST hcur zb IC0
      rintro e a W ⟨rfl, ⟨u, rfl⟩, v, rows, IC⟩
      have hlen : (([zB8, zAm zA5 zAc] ++ (zAn.take 9).map (fun n => zAm n zA5)) ++ [zE0]).length = 12 := rfl
      obtain ⟨ga, gc, hlv⟩ := zBs IC.o (by rw [hlen]; omega)
      rw [hlen] at hlv
      subst hlv
      have hcur := (Below.refl W.heap.size W).drew
      have zb := (IC.below hcur).bx
      go_wp2_with fail
      refine Code.wp_mono (Q := fun e a W => e = Exit.normal ∧ (∃ u : Nat → Value, a = { tmps := #[.pointer none, .pointer (some ⟨w.heap.size, 0, none⟩), u 2, u 3, u 4, u 5, u 6, u 7, u 8, u 9, u 10, u 11, u 12, u 13, u 14, u 15, u 16, u 17, u 18, u 19, u 20, u 21, u 22, u 23, u 24, u 25, u 26, u 27, u 28, u 29, u 30, u 31, u 32, u 33, u 34, u 35, u 36, u 37, u 38, u 39, u 40, u 41, u 42, u 43, u 44, u 45, u 46, u 47, u 48, u 49, u 50, u 51, u 52, u 53, u 54, u 55, u 56, u 57, u 58, u 59, u 60, u 61, u 62, u 63, u 64, u 65, u 66, u 67, u 68, u 69, u 70, u 71, u 72, u 73, u 74, u 75, u 76, u 77, u 78, u 79, u 80, undef], defers := [] }) ∧ ∃ v rows, GvI (putK w v) W v zBd rows) ?q0 ?reg
      case reg =>
       refine wp_region_noPanic ?_
       refine rL (fun X => X.cell? ⟨w.heap.size, 0, none⟩ = some (.slice (some ⟨ga, 0, none⟩) 12 gc)) 13 ?_ (fun hHeld => ?_)
       · (try dsimp only); first | exact I10.bx | exact (IC.below hcur).bx
       refine tP 0 ?jV rfl rfl ?jW ?jX; case jW => intro w; go_simp; try with_reducible rfl
       try simp only [Act.put, sq1, sq2, sq3]
       refine tP 1 ?jY rfl rfl ?jZ ?k0; case jZ => intro w; go_simp; try with_reducible rfl
       try simp only [Act.put, sq1, sq2, sq3]
       refine tP 2 ?k1 rfl rfl ?k2 ?k3; case k2 => intro w; go_simp; try with_reducible rfl
       try simp only [Act.put, sq1, sq2, sq3]
       refine tP 3 ?k4 rfl rfl ?k5 ?k6; case k5 => intro w; go_simp; try with_reducible rfl
       try simp only [Act.put, sq1, sq2, sq3]
       refine tL 4 ?k7 rfl rfl ?k8 ?k9; case k8 => intro w hSw; go_simp; try with_reducible rfl
       try simp only [Act.put, sq1, sq2, sq3]
       refine sL 5 rfl (fun K hK => ?_)
       go_simp
       refine (zF9 _ _ _ _).mono ?_; rintro e y1 ⟨rfl, c1⟩; have hcur := next hcur c1; have zb := (IC.below hcur).bx
       try go_wp2_with fail
       refine hK.out _ _ ?ka ?kb; case ka => (try dsimp only); first | exact I10.bx | exact (IC.below hcur).bx
       clear hK K hHeld; intro hHeld
       try simp only [Act.put, sq1, sq2, sq3]
       refine sL 6 rfl (fun K hK => ?_)
       go_simp
       refine (zF9 _ _ _ _).mono ?_; rintro e y2 ⟨rfl, c2⟩; have hcur := next hcur c2; have zb := (IC.below hcur).bx
       try go_wp2_with fail
       refine hK.out _ _ ?kc ?kd; case kc => (try dsimp only); first | exact I10.bx | exact (IC.below hcur).bx
       clear hK K hHeld; intro hHeld
       try simp only [Act.put, sq1, sq2, sq3]
       refine sL 7 rfl (fun K hK => ?_)
       go_simp
       have qg := geOf IC hcur; have K8 := zJ6 hcur zWf 39; (try simp only [World.size_alloc] at K8 qg); have hcur := zE7 hcur (.cells zWf 39); have zb := (IC.below hcur).bx
       try go_wp2_with fail
       refine hK.out _ _ ?ke ?kf; case ke => (try dsimp only); first | exact I10.bx | exact (IC.below hcur).bx
       clear hK K hHeld; intro hHeld
       try simp only [Act.put, sq1, sq2, sq3]
       refine tP 8 ?kg rfl rfl ?kh ?ki; case kh => intro w; go_simp; try with_reducible rfl
       try simp only [Act.put, sq1, sq2, sq3]
       refine sL 9 rfl (fun K hK => ?_)
       go_simp
       obtain ⟨K10, hcur, K8⟩ := cls1 hcur K8 (fun g => #[.string ⟨#[83, 121, 115, 116, 101, 109]⟩, .string ⟨#[79, 98, 106, 101, 99, 116]⟩, .slice none 0 0, .slice none 0 0, .slice (some ⟨g, 0, none⟩) 2 2]) hcur.size; (try simp only [World.size_alloc] at K10); have zb := (IC.below hcur).bx
       try go_wp2_with fail
       refine hK.out _ _ ?kj ?kk; case kj => (try dsimp only); first | exact I10.bx | exact (IC.below hcur).bx
       clear hK K hHeld; intro hHeld
       try simp only [Act.put, sq1, sq2, sq3]
       refine sL 10 rfl (fun K hK => ?_)
       have I9 := IC.below hcur
       have o9 := I9.o
       rw [hlen] at o9
       obtain ⟨v9, w9, hr9, ho9, hg9, _, hat9⟩ := run_append_own_at (P := Tryz.prog) _ _ 25 25 31 i0 (.agg #[.string ⟨#[]⟩, .string ⟨#[]⟩, .slice none 0 0, .slice none 0 0, .slice none 0 0]) 5 104 Tryz.underlying25 hi hz0 hz1 hz2 rfl (by decide) _ _ _ o9 _ 1 1 _ rfl (World.news_of_block K10) (by intro u hu; simp at hu; rcases hu with rfl | rfl | rfl | rfl | rfl <;> rfl) (by unfold maxLen; omega) (by omega) I9.B.size
       obtain ⟨g9, cap9, rfl⟩ := zBs ho9 (by omega)
       obtain ⟨rows10, I10⟩ := I9.push1 hlen zHn _ ho9 hg9 hat9 rfl (sysC K8 (zUf I9.o K8 (by decide) qg))
       have zb := I10.bx
       have zf := I10.box.frozen 0
       have FIN := I10.restore
       refine zBb (v := .slice (some ⟨ga, 0, none⟩) 12 gc) (vb := .slice (some ⟨_, 0, none⟩) 1 1) rfl rfl rfl rfl hr9 ?_
       refine hK.out _ _ ?kl ?km; case kl => (try dsimp only); first | exact I10.bx | exact (IC.below hcur).bx
       clear hK K hHeld; intro hHeld
       try simp only [Act.put, sq1, sq2, sq3]
       refine tP 11 ?kn rfl rfl ?ko ?kp; case ko => intro w; go_simp; try with_reducible rfl
       try simp only [Act.put, sq1, sq2, sq3]
       refine tP 12 ?kq rfl rfl ?kr ?kt; case kr => intro w; go_simp; try with_reducible rfl
       try simp only [Act.put, sq1, sq2, sq3]
       refine jL rfl (fun K hK => ?_)
       go_simp
       try go_wp2_with fail
       refine hK.out _ _ ?ku; clear hK K
       try simp only [Act.put, sq1, sq2, sq3]
       refine dL ?_
       refine NoPanic.normal ?_
       exact ⟨rfl, mkU80 w _ _ _ _ _ _ _ _ _ _ _ _ _ _ _ _ _ _ _ _ _ _ _ _ _ _ _ _ _ _ _ _ _ _ _ _ _ _ _ _ _ _ _ _ _ _ _ _ _ _ _ _ _ _ _ _ _ _ _ _ _ _ _ _ _ _ _ _ _ _ _ _ _ _ _ _ _ _ _, _, _, FIN⟩
      case q0 =>
       clear IC hcur zb
       rintro e a W ⟨rfl, ⟨u, rfl⟩, v, rows, IC⟩
       go_wp2
       go_ret
       exact ⟨_, _, rfl, IC⟩
end Go.Proofs.YtpehimfnkmepnaaGreat.K
