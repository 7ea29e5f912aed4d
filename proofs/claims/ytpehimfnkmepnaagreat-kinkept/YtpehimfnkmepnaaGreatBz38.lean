import Derived.Test.YtpehimfnkmepnaaGreatBz37
set_option maxRecDepth 8000
set_option maxHeartbeats 40000000
namespace Go.Proofs.YtpehimfnkmepnaaGreat.K
open Go.RowKit Q Q.D
abbrev kx_0 := (#[.string ⟨#[119, 97, 105, 116]⟩, .string ⟨#[40, 41, 86]⟩, .bool false, .bool true, .int .i64 0, .int .i64 0, .slice none 0 0, .slice none 0 0, .slice none 0 0, .string ⟨#[110, 111, 116, 105, 102, 121]⟩, .string ⟨#[40, 41, 86]⟩, .bool false, .bool true, .int .i64 0, .int .i64 0, .slice none 0 0, .slice none 0 0, .slice none 0 0, .string ⟨#[110, 111, 116, 105, 102, 121, 65, 108, 108]⟩, .string ⟨#[40, 41, 86]⟩, .bool false, .bool true, .int .i64 0, .int .i64 0, .slice none 0 0, .slice none 0 0, .slice none 0 0] : Array Value)
abbrev kx_1 (a0) := (#[.string ⟨#[114, 117, 110]⟩, .string ⟨#[40, 41, 86]⟩, .bool false, .bool false, .int .i64 0, .int .i64 1, .slice (some ⟨a0, 0, none⟩) 1 1, .slice none 0 0, .slice none 0 0, .string ⟨#[115, 116, 97, 114, 116]⟩, .string ⟨#[40, 41, 86]⟩, .bool false, .bool true, .int .i64 0, .int .i64 0, .slice none 0 0, .slice none 0 0, .slice none 0 0, .string ⟨#[106, 111, 105, 110]⟩, .string ⟨#[40, 41, 86]⟩, .bool false, .bool true, .int .i64 0, .int .i64 0, .slice none 0 0, .slice none 0 0, .slice none 0 0] : Array Value)
abbrev kx_2 := (#[.string ⟨#[65, 114, 105, 116, 104, 109, 101, 116, 105, 99]⟩, .string ⟨#[78, 117, 108, 108, 80, 111, 105, 110, 116, 101, 114]⟩, .string ⟨#[73, 110, 100, 101, 120]⟩, .string ⟨#[78, 101, 103, 97, 116, 105, 118, 101, 83, 105, 122, 101]⟩, .string ⟨#[67, 97, 115, 116]⟩, .string ⟨#[83, 116, 111, 114, 101]⟩, .string ⟨#[77, 111, 110, 105, 116, 111, 114]⟩, .string ⟨#[77, 101, 109, 111, 114, 121]⟩, .string ⟨#[83, 116, 97, 99, 107]⟩] : Array Value)
abbrev kx_3 := (#[.string ⟨#[112, 114, 105, 110, 116]⟩, .string ⟨#[40, 73, 41, 86]⟩, .bool true, .bool true, .int .i64 0, .int .i64 0, .slice none 0 0, .slice none 0 0, .slice none 0 0, .string ⟨#[115, 108, 101, 101, 112]⟩, .string ⟨#[40, 73, 41, 86]⟩, .bool true, .bool true, .int .i64 0, .int .i64 0, .slice none 0 0, .slice none 0 0, .slice none 0 0] : Array Value)
abbrev kx_4 (a0) (a1) := (#[.string ⟨#[84, 104, 114, 101, 97, 100]⟩, .string ⟨#[79, 98, 106, 101, 99, 116]⟩, .slice none 0 0, .slice none 0 0, .slice (some ⟨a0, 0, none⟩) 3 3, .string ⟨#[83, 121, 115, 116, 101, 109]⟩, .string ⟨#[79, 98, 106, 101, 99, 116]⟩, .slice none 0 0, .slice none 0 0, .slice (some ⟨a1, 0, none⟩) 2 2] : Array Value)
abbrev kx_5 (a0) := (#[.string ⟨#[79, 98, 106, 101, 99, 116]⟩, .string ⟨#[]⟩, .slice none 0 0, .slice none 0 0, .slice (some ⟨a0, 0, none⟩) 3 3, .string ⟨#[84, 104, 114, 111, 119, 97, 98, 108, 101]⟩, .string ⟨#[79, 98, 106, 101, 99, 116]⟩, .slice none 0 0, .slice none 0 0, .slice none 0 0] : Array Value)
abbrev kx_6 (a0) := (#[.string ⟨#[114, 117, 110]⟩, .string ⟨#[40, 41, 86]⟩, .bool false, .bool false, .int .i64 0, .int .i64 1, .slice (some ⟨a0, 0, none⟩) 1 1, .slice none 0 0, .slice none 0 0] : Array Value)
abbrev kx_7 := (#[.string ⟨#[]⟩, .string ⟨#[]⟩, .slice none 0 0, .slice none 0 0, .slice none 0 0] : Array Value)
def natM (n d : ByteArray) (s : Bool) : MD := ⟨n, d, s, true, 0, 0, [], [], []⟩
def runM : MD := ⟨⟨#[114, 117, 110]⟩, ⟨#[40, 41, 86]⟩, false, false, 0, 1, [177], [], []⟩
def zAs (n s : ByteArray) : KD := ⟨n, s, [], [], []⟩
def zBb : ByteArray := ⟨#[79, 98, 106, 101, 99, 116]⟩
def zA8 : ByteArray := ⟨#[84, 104, 114, 111, 119, 97, 98, 108, 101]⟩
def zBq : List ByteArray := [⟨#[65, 114, 105, 116, 104, 109, 101, 116, 105, 99]⟩, ⟨#[78, 117, 108, 108, 80, 111, 105, 110, 116, 101, 114]⟩, ⟨#[73, 110, 100, 101, 120]⟩, ⟨#[78, 101, 103, 97, 116, 105, 118, 101, 83, 105, 122, 101]⟩, ⟨#[67, 97, 115, 116]⟩, ⟨#[83, 116, 111, 114, 101]⟩, ⟨#[77, 111, 110, 105, 116, 111, 114]⟩, ⟨#[77, 101, 109, 111, 114, 121]⟩, ⟨#[83, 116, 97, 99, 107]⟩]
def zCa : KD := ⟨zBb, ⟨#[]⟩, [], [], [natM ⟨#[119, 97, 105, 116]⟩ ⟨#[40, 41, 86]⟩ false, natM ⟨#[110, 111, 116, 105, 102, 121]⟩ ⟨#[40, 41, 86]⟩ false, natM ⟨#[110, 111, 116, 105, 102, 121, 65, 108, 108]⟩ ⟨#[40, 41, 86]⟩ false]⟩
def zFz : KD := ⟨⟨#[84, 104, 114, 101, 97, 100]⟩, zBb, [], [], [runM, natM ⟨#[115, 116, 97, 114, 116]⟩ ⟨#[40, 41, 86]⟩ false, natM ⟨#[106, 111, 105, 110]⟩ ⟨#[40, 41, 86]⟩ false]⟩
def zL3 : KD := ⟨⟨#[83, 121, 115, 116, 101, 109]⟩, zBb, [], [], [natM ⟨#[112, 114, 105, 110, 116]⟩ ⟨#[40, 73, 41, 86]⟩ true, natM ⟨#[115, 108, 101, 101, 112]⟩ ⟨#[40, 73, 41, 86]⟩ true]⟩
def zBh : List KD := [zCa, zAs zA8 zBb] ++ zBq.map (fun n => zAs n zA8) ++ [zFz, zL3]
def zG9 (n d : ByteArray) (s : Bool) : List Value := [.string n, .string d, .bool s, .bool true, .int .i64 0, .int .i64 0, .slice none 0 0, .slice none 0 0, .slice none 0 0]
def zE1 (n s : ByteArray) : List Value := [.string n, .string s, .slice none 0 0, .slice none 0 0, .slice none 0 0]
theorem zE3 (n d : ByteArray) (s : Bool) (w : World) (h1 : n.size ≤ 1000) (h2 : d.size ≤ 1000) : zB1 w (zG9 n d s) (natM n d s) :=
 ⟨none, 0, none, 0, none, 0, rfl, by simp [natM]; omega, by simp [natM]; omega, ⟨none, 0, rfl, Nat.le_refl _, by unfold maxLen; omega, fun x hx => by simp [natM] at hx, .inl rfl⟩, LAt.nil _ _ _ _ _ (by unfold maxLen; omega), LAt.nil _ _ _ _ _ (by unfold maxLen; omega)⟩
theorem zE4 (n s : ByteArray) (w : World) (h1 : n.size ≤ 9223372036854775807) (h2 : s.size ≤ 9223372036854775807) : zAp w (.agg (zE1 n s).toArray) (zAs n s) :=
 ⟨none, 0, none, 0, none, 0, rfl, h1, h2, LAt.nil _ _ _ _ _ (by unfold maxLen; omega), LAt.nil _ _ _ _ _ (by unfold maxLen; omega), LAt.nil _ _ _ _ _ (by unfold maxLen; omega)⟩
theorem zHt (n d : ByteArray) (w : World) : Calls Tryz.prog 96 #[.string n, .string d] w fun e w' => e = .returned (.agg #[.string n, .string d, .bool false, .bool true, .int .i64 0, .int .i64 0, .slice none 0 0, .slice none 0 0, .slice none 0 0]) ∧ Below w.heap.size w w' := by
 have B1 := zA9 w (.cells #[.string n, .string d, .bool false, .bool true, .int .i64 0, .int .i64 0, .slice none 0 0, .slice none 0 0, .slice none 0 0] 39)
 go_enter Tryz.func96, Tryz.ntmps96
 go_wp2
 go_returns
 exact ⟨rfl, B1⟩
theorem zFf (n d : ByteArray) (w : World) : Calls Tryz.prog 97 #[.string n, .string d] w fun e w' => e = .returned (.agg #[.string n, .string d, .bool true, .bool true, .int .i64 0, .int .i64 0, .slice none 0 0, .slice none 0 0, .slice none 0 0]) ∧ Below w.heap.size w w' := by
 have B1 := zA9 w (.cells #[.string n, .string d, .bool true, .bool true, .int .i64 0, .int .i64 0, .slice none 0 0, .slice none 0 0, .slice none 0 0] 39)
 go_enter Tryz.func97, Tryz.ntmps97
 go_wp2
 go_returns
 exact ⟨rfl, B1⟩
theorem zF1 {W : World} {g : Nat} {cs : Array Value} {t : TypeId} {X : Nat → Bool} (hb : Blk W g cs t) (hX : X g = true) (n c : Nat) (hc : n ≤ c) (hm : c ≤ maxLen) (l : List MD) (hl : l.length = n) (rows : Nat → List Value)
 (hr : ∀ j, j < n → ∀ i v, (rows j)[i]? = some v → cs[j * 9 + i]? = some v) (hR : ∀ j x, l[j]? = some x → zB1 (seen X W) (rows j) x) : LAt 9 zB1 (seen X W) (some ⟨g, 0, none⟩) c l :=
 ⟨by omega, hm, rows, fun _ => ⟨g, 0, rfl, by rw [zDq]; exact hb.lt, fun j hj i v hv => zBe.2 ⟨hX, by
  rw [show 0 + j * 9 + i = j * 9 + i by omega, hb.cell]; exact hr j (by omega) i v hv, zGx hb⟩⟩, hR⟩
theorem zHq {r r' : Nat → List Value} : ∀ {n : Nat}, (∀ j, j < n → r j = r' j) → zAw r n = zAw r' n
 | 0, _ => rfl
 | n + 1, h => by rw [zD1, zD1, zHq (fun j hj => h j (by omega)), h n (by omega)]
structure GvI (w W : World) (v : Value) (ks : List KD) (rows : Nat → List Value) : Prop where
 B : Below w.heap.size w W
 o : W.ownsRow w.heap.size 31 5 v ks.length (zAw rows ks.length)
 k : ∀ j, j < ks.length → (rows j).length = 5
 r : ∀ j x, ks[j]? = some x → zAp (seen (zAc w.heap.size v) W) (.agg (rows j).toArray) x
theorem GvI.below {w W W' : World} {v : Value} {ks : List KD} {rows : Nat → List Value} (I : GvI w W v ks rows) (h : Below W.heap.size W W') : GvI w W' v ks rows :=
 ⟨next I.B h, zC0 I.o h, I.k, fun j x hx => zAp.ext (zAe h) (I.r j x hx)⟩
theorem GvI.push {w W W' : World} {v v' : Value} {ks : List KD} {rows : Nat → List Value} (I : GvI w W v ks rows) (ks' : List KD) (rows' : Nat → List Value)
 (ho : W'.ownsRow w.heap.size 31 5 v' (ks.length + ks'.length) (zAw rows ks.length ++ zAw rows' ks'.length)) (hg : W.grownBy W' v.ownBlock) (hat : v'.ownBlock = v.ownBlock ∨ v'.ownBlock = some W.heap.size)
 (hk : ∀ j, j < ks'.length → (rows' j).length = 5) (hr : ∀ j x, ks'[j]? = some x → zAp (seen (zAc w.heap.size v) W) (.agg (rows' j).toArray) x) : GvI w W' v' (ks ++ ks') (fun j => if j < ks.length then rows j else rows' (j - ks.length)) := by
 have E : Ext (seen (zAc w.heap.size v) W) (seen (zAc w.heap.size v') W') := zAl hg.size (fun b hb hx => by
  simp only [zAc, Bool.and_eq_true, decide_eq_true_eq, bne_iff_ne] at hx ⊢
  refine ⟨⟨hx.1, fun e => ?_⟩, hg.block b hb (fun e => hx.2 e.symm)⟩
  rcases hat with h | h
  · rw [h] at e; exact hx.2 e
  · rw [h, Option.some.injEq] at e; omega)
 have hfl : zAw rows ks.length ++ zAw rows' ks'.length = zAw (fun j => if j < ks.length then rows j else rows' (j - ks.length)) (ks ++ ks').length := by
  have h1 : ∀ (m : Nat), zAw (fun j => if j < ks.length then rows j else rows' (j - ks.length)) (ks.length + m) = zAw rows ks.length ++ zAw rows' m := by
   intro m
   induction m with
   | zero =>
     rw [Nat.add_zero, show zAw rows' 0 = [] from rfl, List.append_nil]
     exact zHq (fun j hj => by rw [if_pos hj])
   | succ m ih => rw [← Nat.add_assoc, zD1, ih, zD1, List.append_assoc, if_neg (by omega), Nat.add_sub_cancel_left]
  rw [List.length_append, h1]
 refine ⟨I.B.grown hg (Nat.le_trans I.B.size (Nat.le_refl _)) (fun k hk' => (I.o.lt k hk').1), ?_, fun j hj => ?_, fun j x hx => ?_⟩
 · rw [← hfl, List.length_append]; exact ho
 · show (if j < ks.length then rows j else rows' (j - ks.length)).length = 5
   split
   · exact I.k j (by assumption)
   · exact hk _ (by rw [List.length_append] at hj; omega)
 · show zAp _ (.agg (if j < ks.length then rows j else rows' (j - ks.length)).toArray) x
   by_cases h : j < ks.length
   · rw [if_pos h]
     rw [List.getElem?_append_left h] at hx
     exact zAp.ext E (I.r j x hx)
   · rw [if_neg h]
     rw [List.getElem?_append_right (by omega)] at hx
     exact zAp.ext E (hr _ x hx)
theorem infoK : (Tryz.prog.info? 31).map (fun i => (i.zero, i.size, i.bytes)) = some (some (.agg kx_7), 5, 104) := by kernel_rfl
theorem ix9 {n : Nat} {rows : Nat → List Value} {cs : List Value} (h : cs = zAw rows n) (hk : ∀ j, j < n → (rows j).length = 9) : ∀ j, j < n → ∀ i v, (rows j)[i]? = some v → cs.toArray[j * 9 + i]? = some v := fun j hj i v hv => by
 have hi : i < 9 := by have := (List.getElem?_eq_some_iff.1 hv).1; rwa [hk j hj] at this
 rw [List.getElem?_toArray, h, zA7 hk j hj i hi]
 exact hv
def rowsO (j : Nat) : List Value := match j with | 0 => zG9 ⟨#[119, 97, 105, 116]⟩ ⟨#[40, 41, 86]⟩ false | 1 => zG9 ⟨#[110, 111, 116, 105, 102, 121]⟩ ⟨#[40, 41, 86]⟩ false | _ => zG9 ⟨#[110, 111, 116, 105, 102, 121, 65, 108, 108]⟩ ⟨#[40, 41, 86]⟩ false
def rowsA (g : Nat) (j : Nat) : List Value := match j with | 0 => [.string zBb, .string ⟨#[]⟩, .slice none 0 0, .slice none 0 0, .slice (some ⟨g, 0, none⟩) 3 3] | _ => zE1 zA8 zBb
theorem objA {W : World} {g : Nat} {X : Nat → Bool} (hb : Blk W g kx_0 39) (hX : X g = true) : zAp (seen X W) (.agg (rowsA g 0).toArray) zCa := by
 refine ⟨none, 0, none, 0, some ⟨g, 0, none⟩, 3, rfl, by decide, by decide, LAt.nil _ _ _ _ _ (by unfold maxLen; omega), LAt.nil _ _ _ _ _ (by unfold maxLen; omega), ?_⟩
 refine zF1 hb hX 3 3 (Nat.le_refl _) (by unfold maxLen; omega) _ rfl rowsO (ix9 rfl (fun j hj => by match j, hj with | 0, _ => rfl | 1, _ => rfl | 2, _ => rfl)) (fun j x hx => ?_)
 match j, hx with
 | 0, hx => cases hx; exact zE3 _ _ _ _ (by decide) (by decide)
 | 1, hx => cases hx; exact zE3 _ _ _ _ (by decide) (by decide)
 | 2, hx => cases hx; exact zE3 _ _ _ _ (by decide) (by decide)
 | j + 3, hx => simp [zCa] at hx
theorem zK7 {B : Nat} {w X : World} (_ : Below B w X) (cs : Array Value) (t : TypeId) : Blk (X.alloc (.cells cs t)) X.heap.size cs t := Blk.new X cs t
theorem zEk {w X : World} (h : Below w.heap.size w X) (o : Obj) : Below w.heap.size w (X.alloc o) := next h (zA9 X o)
theorem geOf {w WC X : World} {v : Value} {ks : List KD} {rows : Nat → List Value} (I : GvI w WC v ks rows) (h : Below WC.heap.size WC X) : w.heap.size ≤ X.heap.size := Nat.le_trans I.B.size h.size
theorem zQl {w X : World} {gT gS gq : Nat} (h : Below w.heap.size w X) (K4 : Blk X gT (kx_1 gq) 39) (K8 : Blk X gS kx_3 39) :
 Blk (X.alloc (.cells (kx_4 gT gS) 31)) X.heap.size (kx_4 gT gS) 31 ∧ Below w.heap.size w (X.alloc (.cells (kx_4 gT gS) 31)) ∧ Blk (X.alloc (.cells (kx_4 gT gS) 31)) gT (kx_1 gq) 39 ∧ Blk (X.alloc (.cells (kx_4 gT gS) 31)) gS kx_3 39 :=
 ⟨Blk.new X _ _, next h (zA9 X _), K4.alloc _, K8.alloc _⟩
def rowsT (gq j : Nat) : List Value := match j with | 0 => [.string ⟨#[114, 117, 110]⟩, .string ⟨#[40, 41, 86]⟩, .bool false, .bool false, .int .i64 0, .int .i64 1, .slice (some ⟨gq, 0, none⟩) 1 1, .slice none 0 0, .slice none 0 0] | 1 => zG9 ⟨#[115, 116, 97, 114, 116]⟩ ⟨#[40, 41, 86]⟩ false | _ => zG9 ⟨#[106, 111, 105, 110]⟩ ⟨#[40, 41, 86]⟩ false
def rowsS (j : Nat) : List Value := match j with | 0 => zG9 ⟨#[112, 114, 105, 110, 116]⟩ ⟨#[40, 73, 41, 86]⟩ true | _ => zG9 ⟨#[115, 108, 101, 101, 112]⟩ ⟨#[40, 73, 41, 86]⟩ true
def zQ3 (gT gS j : Nat) : List Value := match j with | 0 => [.string ⟨#[84, 104, 114, 101, 97, 100]⟩, .string ⟨#[79, 98, 106, 101, 99, 116]⟩, .slice none 0 0, .slice none 0 0, .slice (some ⟨gT, 0, none⟩) 3 3] | _ => [.string ⟨#[83, 121, 115, 116, 101, 109]⟩, .string ⟨#[79, 98, 106, 101, 99, 116]⟩, .slice none 0 0, .slice none 0 0, .slice (some ⟨gS, 0, none⟩) 2 2]
theorem zQ8 {W : World} {gq : Nat} {X : Nat → Bool} (hb : Blk W gq #[.int .u8 177] 5) (hX : X gq = true) : zB1 (seen X W) (rowsT gq 0) runM := by
 refine ⟨some ⟨gq, 0, none⟩, 1, none, 0, none, 0, rfl, by decide, by decide, ⟨some ⟨gq, 0, none⟩, 1, rfl, Nat.le_refl _, by unfold maxLen; omega, fun x hx => by simp [runM] at hx; subst hx; decide, .inr ⟨gq, 0, rfl, fun j x hj => ?_⟩⟩, LAt.nil _ _ _ _ _ (by unfold maxLen; omega), LAt.nil _ _ _ _ _ (by unfold maxLen; omega)⟩
 refine zBe.2 ⟨hX, ?_, zGx hb⟩
 rw [hb.cell]
 match j, hj with
 | 0, hj => simp [runM] at hj; subst hj; rfl
 | j + 1, hj => simp [runM] at hj
theorem zQi {w X w9 : World} {v v9 : Value} {rows : Nat → List Value} {gT gS gq : Nat} (I : GvI w X v ([zCa, zAs zA8 zBb] ++ (zBq.take 9).map (fun n => zAs n zA8)) rows) (q4 : w.heap.size ≤ gT) (q8 : w.heap.size ≤ gS) (hq : w.heap.size ≤ gq)
 (K4 : Blk X gT (kx_1 gq) 39) (K8 : Blk X gS kx_3 39) (QB : Blk X gq #[.int .u8 177] 5) (hlen : ([zCa, zAs zA8 zBb] ++ (zBq.take 9).map (fun n => zAs n zA8)).length = 2 + 9)
 (ho : w9.ownsRow w.heap.size 31 5 v9 (2 + 9 + 2) (zAw rows (2 + 9) ++ ((kx_4 gT gS) : Array Value).toList)) (hg : X.grownBy w9 v.ownBlock) (hat : v9.ownBlock = v.ownBlock ∨ v9.ownBlock = some X.heap.size) :
 GvI w w9 v9 zBh (fun j => if j < ([zCa, zAs zA8 zBb] ++ (zBq.take 9).map (fun n => zAs n zA8)).length then rows j else zQ3 gT gS (j - ([zCa, zAs zA8 zBb] ++ (zBq.take 9).map (fun n => zAs n zA8)).length)) := by
 have hs : ∀ {g : Nat} {cs : Array Value} {t : TypeId}, Blk X g cs t → t ≠ 31 → w.heap.size ≤ g → zAc w.heap.size v g = true := fun hb ht hg => by
  simp only [zAc, Bool.and_eq_true, decide_eq_true_eq, bne_iff_ne]
  exact ⟨hg, zBc I.o hb ht⟩
 refine I.push [zFz, zL3] (zQ3 gT gS) (by rw [hlen]; exact ho) hg hat (fun j hj => by match j, hj with | 0, _ => rfl | 1, _ => rfl) (fun j x hx => ?_)
 match j, hx with
 | 0, hx =>
   cases hx
   refine ⟨none, 0, none, 0, some ⟨gT, 0, none⟩, 3, rfl, by decide, by decide, LAt.nil _ _ _ _ _ (by unfold maxLen; omega), LAt.nil _ _ _ _ _ (by unfold maxLen; omega), ?_⟩
   refine zF1 K4 (hs K4 (by decide) q4) 3 3 (Nat.le_refl _) (by unfold maxLen; omega) _ rfl (rowsT gq) (ix9 rfl (fun j hj => by match j, hj with | 0, _ => rfl | 1, _ => rfl | 2, _ => rfl)) (fun j x hx => ?_)
   match j, hx with
   | 0, hx => cases hx; exact zQ8 QB (hs QB (by decide) hq)
   | 1, hx => cases hx; exact zE3 _ _ _ _ (by decide) (by decide)
   | 2, hx => cases hx; exact zE3 _ _ _ _ (by decide) (by decide)
   | j + 3, hx => simp [zFz] at hx
 | 1, hx =>
   cases hx
   refine ⟨none, 0, none, 0, some ⟨gS, 0, none⟩, 2, rfl, by decide, by decide, LAt.nil _ _ _ _ _ (by unfold maxLen; omega), LAt.nil _ _ _ _ _ (by unfold maxLen; omega), ?_⟩
   refine zF1 K8 (hs K8 (by decide) q8) 2 2 (Nat.le_refl _) (by unfold maxLen; omega) _ rfl rowsS (ix9 rfl (fun j hj => by match j, hj with | 0, _ => rfl | 1, _ => rfl)) (fun j x hx => ?_)
   match j, hx with
   | 0, hx => cases hx; exact zE3 _ _ _ _ (by decide) (by decide)
   | 1, hx => cases hx; exact zE3 _ _ _ _ (by decide) (by decide)
   | j + 2, hx => simp [zL3] at hx
 | j + 2, hx => simp at hx
theorem zGs {X Y : World} {row : Option Nat} {b : Nat} {cs : Array Value} {t : TypeId} (h : Blk X b cs t) (hg : X.grownBy Y row) (hne : row ≠ some b) : Blk Y b cs t := (hg.block b h.lt (fun e => hne e.symm)).trans h
theorem zPb (w : World) : Calls Tryz.prog 52 #[] w fun e w' => ∃ v rows, e = .returned v ∧ GvI w w' v zBh rows := by
 obtain ⟨i0, hi, hz0, hz1, hz2⟩ := info_parts infoK
 go_enter Tryz.func52, Tryz.ntmps52
 go_wp2_with fail
 refine (zHt _ _ _).mono ?_
 rintro e x1 ⟨rfl, b1⟩
 go_wp2_with fail
 refine (zHt _ _ _).mono ?_
 rintro e x2 ⟨rfl, b2⟩
 go_wp2_with fail
 refine (zHt _ _ _).mono ?_
 rintro e w1 ⟨rfl, b3⟩
 have B1 := next b1 (next b2 b3)
 go_wp2_with fail
 have M1 : Blk (((w1.alloc (.cells kx_0 39)).alloc (.cells (kx_5 w1.heap.size) 31)).alloc (.cells kx_2 9)) w1.heap.size kx_0 39 := ((Blk.new w1 _ _).alloc _).alloc _
 have T1 : Blk (((w1.alloc (.cells kx_0 39)).alloc (.cells (kx_5 w1.heap.size) 31)).alloc (.cells kx_2 9)) (w1.heap.size + 1 + 1) kx_2 9 := by have := Blk.new ((w1.alloc (.cells kx_0 39)).alloc (.cells (kx_5 w1.heap.size) 31)) kx_2 9; simpa only [World.size_alloc] using this
 have IA : GvI w (((w1.alloc (.cells kx_0 39)).alloc (.cells (kx_5 w1.heap.size) 31)).alloc (.cells kx_2 9)) (.slice (some ⟨w1.heap.size + 1, 0, none⟩) 2 2) [zCa, zAs zA8 zBb] (rowsA w1.heap.size) := by
  refine ⟨((B1.alloc B1.size _).alloc (by have := B1.size; simp; omega) _).alloc (by have := B1.size; simp; omega) _, ?_, fun j hj => ?_, fun j x hx => ?_⟩
  · have := World.ownsRow_lit (e := 31) (size := 5) (base := w.heap.size) (w1.alloc (.cells kx_0 39)) (kx_5 w1.heap.size) 2 (by have := B1.size; simp; omega) (by unfold maxLen; omega) rfl
    rw [World.size_alloc] at this
    exact this.alloc _
  · match j, hj with
    | 0, _ => rfl
    | 1, _ => rfl
  · match j, hx with
    | 0, hx =>
      cases hx
      refine objA M1 ?_
      have := B1.size
      simp [zAc, Value.ownBlock]
      omega
    | 1, hx => cases hx; exact zE4 _ _ _ (by decide) (by decide)
    | j + 2, hx => simp at hx
 have hgl : w.heap.size ≤ w1.heap.size := B1.size
 generalize ((w1.alloc (.cells kx_0 39)).alloc (.cells (kx_5 w1.heap.size) 31)).alloc (.cells kx_2 9) = WA at *
 generalize w1.heap.size = g at *
 clear M1 b1 b2 b3 B1
 go_loopw [1, 14] (fun lv iv wr => ∃ (i : Nat) (rows : Nat → List Value), iv = .int .i64 (i : Int) ∧ i ≤ 9 ∧ GvI w wr lv ([zCa, zAs zA8 zBb] ++ (zBq.take i).map (fun n => zAs n zA8)) rows ∧ Blk wr (g + 1 + 1) kx_2 9) (fun _ iv _ => 9 - (intOf iv).toNat)
 case atStart => exact ⟨0, _, rfl, Nat.zero_le _, IA, T1⟩
 case round =>
  obtain ⟨i, rows, rfl, hi9, I, T⟩ := hrel
  clear IA T1
  have hlen : ([zCa, zAs zA8 zBb] ++ (zBq.take i).map (fun n => zAs n zA8)).length = 2 + i := by
   simp [List.length_take, show zBq.length = 9 from rfl]; omega
  obtain ⟨ga, gc, hlv⟩ := zCv I.o (by rw [hlen]; omega)
  rw [hlen] at hlv
  subst hlv
  by_cases hlt : i < 9
  · have hlt' : (i : Int) < 9 := by omega
    obtain ⟨n, hn⟩ : ∃ n, zBq[i]? = some n := ⟨_, List.getElem?_eq_getElem (show i < zBq.length from hlt)⟩
    have hns : n.size ≤ 1000 := by
     have := List.mem_of_getElem? hn
     revert this
     generalize n = x
     unfold zBq
     simp only [List.mem_cons, List.not_mem_nil, or_false]
     rintro (rfl | rfl | rfl | rfl | rfl | rfl | rfl | rfl | rfl) <;> decide
    have ht := T.cell i
    rw [show (kx_2 : Array Value)[i]? = some (.string n) by
     have : (kx_2 : Array Value) = (zBq.map Value.string).toArray := rfl
     rw [this, List.getElem?_toArray, List.getElem?_map, hn]; rfl] at ht
    have I2 := I.below (zA9 wr (.cells #[.string n, .string ⟨#[84, 104, 114, 111, 119, 97, 98, 108, 101]⟩, .slice none 0 0, .slice none 0 0, .slice none 0 0] 31))
    have T2 := T.alloc (.cells #[.string n, .string ⟨#[84, 104, 114, 111, 119, 97, 98, 108, 101]⟩, .slice none 0 0, .slice none 0 0, .slice none 0 0] 31)
    have o2 := I2.o
    rw [hlen] at o2
    have hsW := I2.B.size
    have hnews : ∀ j u, (zE1 n zA8)[j]? = some u → (wr.alloc (.cells #[.string n, .string ⟨#[84, 104, 114, 111, 119, 97, 98, 108, 101]⟩, .slice none 0 0, .slice none 0 0, .slice none 0 0] 31)).cell? ((⟨wr.heap.size, 0, none⟩ : Addr).add j) = some u := fun j u hj => by
     rw [Addr.add_lit, Nat.zero_add, (Blk.new wr #[.string n, .string ⟨#[84, 104, 114, 111, 119, 97, 98, 108, 101]⟩, .slice none 0 0, .slice none 0 0, .slice none 0 0] 31).cell j]
     show (zE1 n zA8).toArray[j]? = some u
     rw [List.getElem?_toArray]; exact hj
    go_wp2_with (at_builtin; refine wpList_append_own_at _ rfl _ _ 25 rfl w.heap.size 31 i0 (.agg kx_7) 5 104 Tryz.underlying25 hi hz0 hz1 hz2 rfl (by decide) _ _ _ rfl o2 _ 1 1 (zE1 n zA8) rfl rfl hnews (by intro u hu; simp [zE1] at hu; rcases hu with rfl | rfl | rfl | rfl | rfl <;> rfl) (by unfold maxLen; omega) (by omega) hsW ?_; intro v1 w2 ho1 hg1 _ hat1)
    have I3 := I2.push [zAs n zA8] (fun _ => zE1 n zA8) (by rw [hlen]; exact ho1) hg1 hat1 (fun _ _ => rfl) (fun j x hx => by
     match j, hx with
     | 0, hx => cases hx; exact zE4 _ _ _ (by omega) (by decide)
     | j + 1, hx => simp at hx)
    have T3 : Blk w2 (g + 1 + 1) kx_2 9 := (hg1.block _ T2.lt (fun e => zBc I2.o T2 (by decide) e.symm)).trans T2
    have hks : ([zCa, zAs zA8 zBb] ++ (zBq.take i).map (fun n => zAs n zA8)) ++ [zAs n zA8] = [zCa, zAs zA8 zBb] ++ (zBq.take (i + 1)).map (fun n => zAs n zA8) := by
     rw [List.take_add_one, hn, List.map_append, List.append_assoc]; rfl
    rw [hks] at I3
    go_wp2
    go_roundw
    case rel => exact ⟨i + 1, _, by go_num, by omega, I3, T3⟩
    case measure => simp [intOf]; omega
  · have hlt' : ¬ (i : Int) < 9 := by omega
    have : i = 9 := by omega
    subst this
    clear T
    have IC := I.below (((Below.refl _ wr).alloc (Nat.le_refl _) (.cells #[.int .u8 177] 5)).alloc (by simp) (.cells (kx_6 wr.heap.size) 39))
    have QB := (Blk.new wr #[.int .u8 177] 5).alloc (.cells (kx_6 wr.heap.size) 39)
    have RB := Blk.new (wr.alloc (.cells #[.int .u8 177] 5)) (kx_6 wr.heap.size) 39
    rw [World.size_alloc] at RB
    have hgq : w.heap.size ≤ wr.heap.size := I.B.size
    go_wp2_with fail
    generalize (wr.alloc (.cells #[.int .u8 177] 5)).alloc (.cells (kx_6 wr.heap.size) 39) = WC at *
    generalize wr.heap.size = gq at *
    clear I
    have ST := D.zA0 (fun (X : World) (h : Blk X (gq + 1) (kx_6 gq) 39) => (⟨h.cell 0, h.cell 1, h.cell 2, h.cell 3, h.cell 4, h.cell 5, h.cell 6, h.cell 7, h.cell 8⟩ : (fun X => X.cell? ⟨gq + 1, 0, none⟩ = some (.string ⟨#[114, 117, 110]⟩) ∧ X.cell? ⟨gq + 1, 1, none⟩ = some (.string ⟨#[40, 41, 86]⟩) ∧ X.cell? ⟨gq + 1, 2, none⟩ = some (.bool false) ∧ X.cell? ⟨gq + 1, 3, none⟩ = some (.bool false) ∧ X.cell? ⟨gq + 1, 4, none⟩ = some (.int .i64 0) ∧ X.cell? ⟨gq + 1, 5, none⟩ = some (.int .i64 1) ∧ X.cell? ⟨gq + 1, 6, none⟩ = some (.slice (some ⟨gq, 0, none⟩) 1 1) ∧ X.cell? ⟨gq + 1, 7, none⟩ = some (.slice none 0 0) ∧ X.cell? ⟨gq + 1, 8, none⟩ = some (.slice none 0 0)) X))
    have hcur := (Below.refl WC.heap.size WC).drew
    refine wp_region_noPanic ?_
    refine wp_region_held_drew (S := (fun X => X.cell? ⟨gq + 1, 0, none⟩ = some (.string ⟨#[114, 117, 110]⟩) ∧ X.cell? ⟨gq + 1, 1, none⟩ = some (.string ⟨#[40, 41, 86]⟩) ∧ X.cell? ⟨gq + 1, 2, none⟩ = some (.bool false) ∧ X.cell? ⟨gq + 1, 3, none⟩ = some (.bool false) ∧ X.cell? ⟨gq + 1, 4, none⟩ = some (.int .i64 0) ∧ X.cell? ⟨gq + 1, 5, none⟩ = some (.int .i64 1) ∧ X.cell? ⟨gq + 1, 6, none⟩ = some (.slice (some ⟨gq, 0, none⟩) 1 1) ∧ X.cell? ⟨gq + 1, 7, none⟩ = some (.slice none 0 0) ∧ X.cell? ⟨gq + 1, 8, none⟩ = some (.slice none 0 0))) (by kernel_rfl) ?_ (fun hHeld => ?_)
    · (try dsimp only); first | exact ST.out _ RB9 | exact ST.out _ (RB.below hcur)
    refine tH 0 ?q0 rfl rfl ?q1 ?q2
    case q1 => intro w hSw; (try dsimp only at hSw); go_simp; try with_reducible rfl
    try simp only [Act.put, sq1, sq2, sq3]
    refine tH 1 ?q3 rfl rfl ?q5 ?q6
    case q5 => intro w hSw; (try dsimp only at hSw); go_simp; try with_reducible rfl
    try simp only [Act.put, sq1, sq2, sq3]
    refine oH 2 rfl (fun K hK => ?_)
    go_simp
    refine (zHt _ _ _).mono ?_; rintro e y1 ⟨rfl, c1⟩; have hcur := next hcur c1; (try (have K4 := K4.below c1)); (try (have K8 := K8.below c1))
    try go_wp2_with fail
    refine hK.out _ _ ?q7 ?q9
    case q7 => (try dsimp only); first | exact ST.out _ RB9 | exact ST.out _ (RB.below hcur)
    clear hK K hHeld
    intro hHeld
    try simp only [Act.put, sq1, sq2, sq3]
    refine oH 3 rfl (fun K hK => ?_)
    go_simp
    refine (zHt _ _ _).mono ?_; rintro e y2 ⟨rfl, c2⟩; have hcur := next hcur c2; (try (have K4 := K4.below c2)); (try (have K8 := K8.below c2))
    try go_wp2_with fail
    refine hK.out _ _ ?qa ?qb
    case qa => (try dsimp only); first | exact ST.out _ RB9 | exact ST.out _ (RB.below hcur)
    clear hK K hHeld
    intro hHeld
    try simp only [Act.put, sq1, sq2, sq3]
    refine wpAnyH_ready (rs := [4, 6]) (by kernel_rfl) (by simp) ?_
    refine (cH rfl (fun K hK => ?_) (cH rfl (fun K hK => ?_) AllReadyH.nil))
    · have hdum := True.intro
      go_simp
      have q4 := geOf IC hcur; have K4 := zK7 hcur (kx_1 gq) 39; (try simp only [World.size_alloc] at K4 q4); (try (have K8 := K8.alloc (.cells (kx_1 gq) 39))); have hcur := zEk hcur (.cells (kx_1 gq) 39)
      try go_wp2_with fail
      refine hK.out _ _ ?qc ?qd
      case qc => (try dsimp only); first | exact ST.out _ RB9 | exact ST.out _ (RB.below hcur)
      clear hK K hHeld
      intro hHeld
      try simp only [Act.put, sq1, sq2, sq3]
      refine tH 5 ?qe rfl rfl ?qf ?qg
      case qf => intro w hSw; (try dsimp only at hSw); go_simp; try with_reducible rfl
      try simp only [Act.put, sq1, sq2, sq3]
      refine oH 6 rfl (fun K hK => ?_)
      go_simp
      refine (zFf _ _ _).mono ?_; rintro e y3 ⟨rfl, c3⟩; have hcur := next hcur c3; (try (have K4 := K4.below c3)); (try (have K8 := K8.below c3))
      try go_wp2_with fail
      refine hK.out _ _ ?qh ?qi
      case qh => (try dsimp only); first | exact ST.out _ RB9 | exact ST.out _ (RB.below hcur)
      clear hK K hHeld
      intro hHeld
      try simp only [Act.put, sq1, sq2, sq3]
      refine oH 7 rfl (fun K hK => ?_)
      go_simp
      refine (zFf _ _ _).mono ?_; rintro e y4 ⟨rfl, c4⟩; have hcur := next hcur c4; (try (have K4 := K4.below c4)); (try (have K8 := K8.below c4))
      try go_wp2_with fail
      refine hK.out _ _ ?qj ?qk
      case qj => (try dsimp only); first | exact ST.out _ RB9 | exact ST.out _ (RB.below hcur)
      clear hK K hHeld
      intro hHeld
      try simp only [Act.put, sq1, sq2, sq3]
      refine oH 8 rfl (fun K hK => ?_)
      go_simp
      have q8 := geOf IC hcur; have K8 := zK7 hcur kx_3 39; (try simp only [World.size_alloc] at K8 q8); (try (have K4 := K4.alloc (.cells kx_3 39))); have hcur := zEk hcur (.cells kx_3 39)
      try go_wp2_with fail
      refine hK.out _ _ ?ql ?qm
      case ql => (try dsimp only); first | exact ST.out _ RB9 | exact ST.out _ (RB.below hcur)
      clear hK K hHeld
      intro hHeld
      try simp only [Act.put, sq1, sq2, sq3]
      refine tH 9 ?qn rfl rfl ?qo ?qp
      case qo => intro w hSw; (try dsimp only at hSw); go_simp; try with_reducible rfl
      try simp only [Act.put, sq1, sq2, sq3]
      refine oH 10 rfl (fun K hK => ?_)
      go_simp
      obtain ⟨K10, hcur, K4, K8⟩ := zQl hcur K4 K8; (try simp only [World.size_alloc] at K10)
      try go_wp2_with fail
      refine hK.out _ _ ?qq ?qr
      case qq => (try dsimp only); first | exact ST.out _ RB9 | exact ST.out _ (RB.below hcur)
      clear hK K hHeld
      intro hHeld
      try simp only [Act.put, sq1, sq2, sq3]
      refine oH 11 rfl (fun K hK => ?_)
      have I9 := IC.below hcur
      have o9 := I9.o
      rw [hlen] at o9
      obtain ⟨v9, w9, hr9, ho9, hg9, _, hat9⟩ := run_append_own_at (P := Tryz.prog) _ w.heap.size 25 25 31 i0 (.agg kx_7) 5 104 Tryz.underlying25 hi hz0 hz1 hz2 rfl (by decide) _ _ _ o9 _ 2 2 _ rfl (World.news_of_block K10) (by intro u hu; simp at hu; rcases hu with rfl | rfl | rfl | rfl | rfl | rfl | rfl | rfl | rfl | rfl <;> rfl) (by unfold maxLen; omega) (by omega) I9.B.size
      have RB9 := zGs (RB.below hcur) hg9 (zBc I9.o (RB.below hcur) (by decide))
      have FIN := zQi I9 q4 q8 hgq K4 K8 (QB.below hcur) hlen ho9 hg9 hat9
      refine zBr (v := .slice (some ⟨ga, 0, none⟩) (2 + 9) gc) (vb := .slice (some ⟨_, 0, none⟩) 2 2) rfl rfl rfl rfl hr9 ?_
      refine hK.out _ _ ?qs ?qt
      case qs => (try dsimp only); first | exact ST.out _ RB9 | exact ST.out _ (RB.below hcur)
      clear hK K hHeld
      intro hHeld
      try simp only [Act.put, sq1, sq2, sq3]
      refine tH 12 ?qu rfl rfl ?qv ?qw
      case qv => intro w hSw; (try dsimp only at hSw); go_simp; try with_reducible rfl
      try simp only [Act.put, List.setIfInBounds_toArray, List.set_cons_zero]
      refine eH ?_
      refine NoPanic.normal ?_
      go_wp2
      go_ret
      exact ⟨_, rfl, _, FIN⟩
    · have hdum := True.intro
      go_simp
      refine (zFf _ _ _).mono ?_; rintro e y3 ⟨rfl, c3⟩; have hcur := next hcur c3; (try (have K4 := K4.below c3)); (try (have K8 := K8.below c3))
      try go_wp2_with fail
      refine hK.out _ _ ?qx ?qy
      case qx => (try dsimp only); first | exact ST.out _ RB9 | exact ST.out _ (RB.below hcur)
      clear hK K hHeld
      intro hHeld
      try simp only [Act.put, sq1, sq2, sq3]
      refine wpAnyH_ready (rs := [4, 7]) (by kernel_rfl) (by simp) ?_
      refine (cH rfl (fun K hK => ?_) (cH rfl (fun K hK => ?_) AllReadyH.nil))
      · have hdum := True.intro
        go_simp
        have q4 := geOf IC hcur; have K4 := zK7 hcur (kx_1 gq) 39; (try simp only [World.size_alloc] at K4 q4); (try (have K8 := K8.alloc (.cells (kx_1 gq) 39))); have hcur := zEk hcur (.cells (kx_1 gq) 39)
        try go_wp2_with fail
        refine hK.out _ _ ?qz ?qA
        case qz => (try dsimp only); first | exact ST.out _ RB9 | exact ST.out _ (RB.below hcur)
        clear hK K hHeld
        intro hHeld
        try simp only [Act.put, sq1, sq2, sq3]
        refine tH 5 ?qB rfl rfl ?qC ?qD
        case qC => intro w hSw; (try dsimp only at hSw); go_simp; try with_reducible rfl
        try simp only [Act.put, sq1, sq2, sq3]
        refine oH 7 rfl (fun K hK => ?_)
        go_simp
        refine (zFf _ _ _).mono ?_; rintro e y4 ⟨rfl, c4⟩; have hcur := next hcur c4; (try (have K4 := K4.below c4)); (try (have K8 := K8.below c4))
        try go_wp2_with fail
        refine hK.out _ _ ?qE ?qF
        case qE => (try dsimp only); first | exact ST.out _ RB9 | exact ST.out _ (RB.below hcur)
        clear hK K hHeld
        intro hHeld
        try simp only [Act.put, sq1, sq2, sq3]
        refine oH 8 rfl (fun K hK => ?_)
        go_simp
        have q8 := geOf IC hcur; have K8 := zK7 hcur kx_3 39; (try simp only [World.size_alloc] at K8 q8); (try (have K4 := K4.alloc (.cells kx_3 39))); have hcur := zEk hcur (.cells kx_3 39)
        try go_wp2_with fail
        refine hK.out _ _ ?qG ?qH
        case qG => (try dsimp only); first | exact ST.out _ RB9 | exact ST.out _ (RB.below hcur)
        clear hK K hHeld
        intro hHeld
        try simp only [Act.put, sq1, sq2, sq3]
        refine tH 9 ?qI rfl rfl ?qJ ?qK
        case qJ => intro w hSw; (try dsimp only at hSw); go_simp; try with_reducible rfl
        try simp only [Act.put, sq1, sq2, sq3]
        refine oH 10 rfl (fun K hK => ?_)
        go_simp
        obtain ⟨K10, hcur, K4, K8⟩ := zQl hcur K4 K8; (try simp only [World.size_alloc] at K10)
        try go_wp2_with fail
        refine hK.out _ _ ?qL ?qM
        case qL => (try dsimp only); first | exact ST.out _ RB9 | exact ST.out _ (RB.below hcur)
        clear hK K hHeld
        intro hHeld
        try simp only [Act.put, sq1, sq2, sq3]
        refine oH 11 rfl (fun K hK => ?_)
        have I9 := IC.below hcur
        have o9 := I9.o
        rw [hlen] at o9
        obtain ⟨v9, w9, hr9, ho9, hg9, _, hat9⟩ := run_append_own_at (P := Tryz.prog) _ w.heap.size 25 25 31 i0 (.agg kx_7) 5 104 Tryz.underlying25 hi hz0 hz1 hz2 rfl (by decide) _ _ _ o9 _ 2 2 _ rfl (World.news_of_block K10) (by intro u hu; simp at hu; rcases hu with rfl | rfl | rfl | rfl | rfl | rfl | rfl | rfl | rfl | rfl <;> rfl) (by unfold maxLen; omega) (by omega) I9.B.size
        have RB9 := zGs (RB.below hcur) hg9 (zBc I9.o (RB.below hcur) (by decide))
        have FIN := zQi I9 q4 q8 hgq K4 K8 (QB.below hcur) hlen ho9 hg9 hat9
        refine zBr (v := .slice (some ⟨ga, 0, none⟩) (2 + 9) gc) (vb := .slice (some ⟨_, 0, none⟩) 2 2) rfl rfl rfl rfl hr9 ?_
        refine hK.out _ _ ?qN ?qO
        case qN => (try dsimp only); first | exact ST.out _ RB9 | exact ST.out _ (RB.below hcur)
        clear hK K hHeld
        intro hHeld
        try simp only [Act.put, sq1, sq2, sq3]
        refine tH 12 ?qP rfl rfl ?qQ ?qR
        case qQ => intro w hSw; (try dsimp only at hSw); go_simp; try with_reducible rfl
        try simp only [Act.put, List.setIfInBounds_toArray, List.set_cons_zero]
        refine eH ?_
        refine NoPanic.normal ?_
        go_wp2
        go_ret
        exact ⟨_, rfl, _, FIN⟩
      · have hdum := True.intro
        go_simp
        refine (zFf _ _ _).mono ?_; rintro e y4 ⟨rfl, c4⟩; have hcur := next hcur c4; (try (have K4 := K4.below c4)); (try (have K8 := K8.below c4))
        try go_wp2_with fail
        refine hK.out _ _ ?qS ?qT
        case qS => (try dsimp only); first | exact ST.out _ RB9 | exact ST.out _ (RB.below hcur)
        clear hK K hHeld
        intro hHeld
        try simp only [Act.put, sq1, sq2, sq3]
        refine wpAnyH_ready (rs := [4, 8]) (by kernel_rfl) (by simp) ?_
        refine (cH rfl (fun K hK => ?_) (cH rfl (fun K hK => ?_) AllReadyH.nil))
        · have hdum := True.intro
          go_simp
          have q4 := geOf IC hcur; have K4 := zK7 hcur (kx_1 gq) 39; (try simp only [World.size_alloc] at K4 q4); (try (have K8 := K8.alloc (.cells (kx_1 gq) 39))); have hcur := zEk hcur (.cells (kx_1 gq) 39)
          try go_wp2_with fail
          refine hK.out _ _ ?qU ?qV
          case qU => (try dsimp only); first | exact ST.out _ RB9 | exact ST.out _ (RB.below hcur)
          clear hK K hHeld
          intro hHeld
          try simp only [Act.put, sq1, sq2, sq3]
          refine tH 5 ?qW rfl rfl ?qX ?qY
          case qX => intro w hSw; (try dsimp only at hSw); go_simp; try with_reducible rfl
          try simp only [Act.put, sq1, sq2, sq3]
          refine oH 8 rfl (fun K hK => ?_)
          go_simp
          have q8 := geOf IC hcur; have K8 := zK7 hcur kx_3 39; (try simp only [World.size_alloc] at K8 q8); (try (have K4 := K4.alloc (.cells kx_3 39))); have hcur := zEk hcur (.cells kx_3 39)
          try go_wp2_with fail
          refine hK.out _ _ ?qZ ?j0
          case qZ => (try dsimp only); first | exact ST.out _ RB9 | exact ST.out _ (RB.below hcur)
          clear hK K hHeld
          intro hHeld
          try simp only [Act.put, sq1, sq2, sq3]
          refine tH 9 ?j1 rfl rfl ?j2 ?j3
          case j2 => intro w hSw; (try dsimp only at hSw); go_simp; try with_reducible rfl
          try simp only [Act.put, sq1, sq2, sq3]
          refine oH 10 rfl (fun K hK => ?_)
          go_simp
          obtain ⟨K10, hcur, K4, K8⟩ := zQl hcur K4 K8; (try simp only [World.size_alloc] at K10)
          try go_wp2_with fail
          refine hK.out _ _ ?j4 ?j5
          case j4 => (try dsimp only); first | exact ST.out _ RB9 | exact ST.out _ (RB.below hcur)
          clear hK K hHeld
          intro hHeld
          try simp only [Act.put, sq1, sq2, sq3]
          refine oH 11 rfl (fun K hK => ?_)
          have I9 := IC.below hcur
          have o9 := I9.o
          rw [hlen] at o9
          obtain ⟨v9, w9, hr9, ho9, hg9, _, hat9⟩ := run_append_own_at (P := Tryz.prog) _ w.heap.size 25 25 31 i0 (.agg kx_7) 5 104 Tryz.underlying25 hi hz0 hz1 hz2 rfl (by decide) _ _ _ o9 _ 2 2 _ rfl (World.news_of_block K10) (by intro u hu; simp at hu; rcases hu with rfl | rfl | rfl | rfl | rfl | rfl | rfl | rfl | rfl | rfl <;> rfl) (by unfold maxLen; omega) (by omega) I9.B.size
          have RB9 := zGs (RB.below hcur) hg9 (zBc I9.o (RB.below hcur) (by decide))
          have FIN := zQi I9 q4 q8 hgq K4 K8 (QB.below hcur) hlen ho9 hg9 hat9
          refine zBr (v := .slice (some ⟨ga, 0, none⟩) (2 + 9) gc) (vb := .slice (some ⟨_, 0, none⟩) 2 2) rfl rfl rfl rfl hr9 ?_
          refine hK.out _ _ ?j6 ?j7
          case j6 => (try dsimp only); first | exact ST.out _ RB9 | exact ST.out _ (RB.below hcur)
          clear hK K hHeld
          intro hHeld
          try simp only [Act.put, sq1, sq2, sq3]
          refine tH 12 ?j8 rfl rfl ?j9 ?ja
          case j9 => intro w hSw; (try dsimp only at hSw); go_simp; try with_reducible rfl
          try simp only [Act.put, List.setIfInBounds_toArray, List.set_cons_zero]
          refine eH ?_
          refine NoPanic.normal ?_
          go_wp2
          go_ret
          exact ⟨_, rfl, _, FIN⟩
        · have hdum := True.intro
          go_simp
          have q8 := geOf IC hcur; have K8 := zK7 hcur kx_3 39; (try simp only [World.size_alloc] at K8 q8); (try (have K4 := K4.alloc (.cells kx_3 39))); have hcur := zEk hcur (.cells kx_3 39)
          try go_wp2_with fail
          refine hK.out _ _ ?jb ?jc
          case jb => (try dsimp only); first | exact ST.out _ RB9 | exact ST.out _ (RB.below hcur)
          clear hK K hHeld
          intro hHeld
          try simp only [Act.put, sq1, sq2, sq3]
          refine tH 9 ?jd rfl rfl ?je ?jf
          case je => intro w hSw; (try dsimp only at hSw); go_simp; try with_reducible rfl
          try simp only [Act.put, sq1, sq2, sq3]
          refine oH 4 rfl (fun K hK => ?_)
          go_simp
          have q4 := geOf IC hcur; have K4 := zK7 hcur (kx_1 gq) 39; (try simp only [World.size_alloc] at K4 q4); (try (have K8 := K8.alloc (.cells (kx_1 gq) 39))); have hcur := zEk hcur (.cells (kx_1 gq) 39)
          try go_wp2_with fail
          refine hK.out _ _ ?jg ?jh
          case jg => (try dsimp only); first | exact ST.out _ RB9 | exact ST.out _ (RB.below hcur)
          clear hK K hHeld
          intro hHeld
          try simp only [Act.put, sq1, sq2, sq3]
          refine tH 5 ?ji rfl rfl ?jj ?jk
          case jj => intro w hSw; (try dsimp only at hSw); go_simp; try with_reducible rfl
          try simp only [Act.put, sq1, sq2, sq3]
          refine oH 10 rfl (fun K hK => ?_)
          go_simp
          obtain ⟨K10, hcur, K4, K8⟩ := zQl hcur K4 K8; (try simp only [World.size_alloc] at K10)
          try go_wp2_with fail
          refine hK.out _ _ ?jl ?jm
          case jl => (try dsimp only); first | exact ST.out _ RB9 | exact ST.out _ (RB.below hcur)
          clear hK K hHeld
          intro hHeld
          try simp only [Act.put, sq1, sq2, sq3]
          refine oH 11 rfl (fun K hK => ?_)
          have I9 := IC.below hcur
          have o9 := I9.o
          rw [hlen] at o9
          obtain ⟨v9, w9, hr9, ho9, hg9, _, hat9⟩ := run_append_own_at (P := Tryz.prog) _ w.heap.size 25 25 31 i0 (.agg kx_7) 5 104 Tryz.underlying25 hi hz0 hz1 hz2 rfl (by decide) _ _ _ o9 _ 2 2 _ rfl (World.news_of_block K10) (by intro u hu; simp at hu; rcases hu with rfl | rfl | rfl | rfl | rfl | rfl | rfl | rfl | rfl | rfl <;> rfl) (by unfold maxLen; omega) (by omega) I9.B.size
          have RB9 := zGs (RB.below hcur) hg9 (zBc I9.o (RB.below hcur) (by decide))
          have FIN := zQi I9 q4 q8 hgq K4 K8 (QB.below hcur) hlen ho9 hg9 hat9
          refine zBr (v := .slice (some ⟨ga, 0, none⟩) (2 + 9) gc) (vb := .slice (some ⟨_, 0, none⟩) 2 2) rfl rfl rfl rfl hr9 ?_
          refine hK.out _ _ ?jn ?jo
          case jn => (try dsimp only); first | exact ST.out _ RB9 | exact ST.out _ (RB.below hcur)
          clear hK K hHeld
          intro hHeld
          try simp only [Act.put, sq1, sq2, sq3]
          refine tH 12 ?jp rfl rfl ?jq ?jr
          case jq => intro w hSw; (try dsimp only at hSw); go_simp; try with_reducible rfl
          try simp only [Act.put, List.setIfInBounds_toArray, List.set_cons_zero]
          refine eH ?_
          refine NoPanic.normal ?_
          go_wp2
          go_ret
          exact ⟨_, rfl, _, FIN⟩
end Go.Proofs.YtpehimfnkmepnaaGreat.K
