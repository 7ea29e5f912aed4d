/- Texts KX. -/
import Derived.Test.YtccbgdbipihoaaaGreatBw27
import Derived.Test.YtccbgdbipihoaaaGreatBw32
namespace Go.Proofs.YtccbgdbipihoaaaGreat.K
open Go.RowKit Q Q.D

def natM (n d : ByteArray) (s : Bool) : MD := ⟨n, d, s, true, 0, 0, [], [], []⟩
def runM : MD := ⟨⟨#[114, 117, 110]⟩, ⟨#[40, 41, 86]⟩, false, false, 0, 1, [177], [], []⟩
def plainK (n s : ByteArray) : KD := ⟨n, s, [], [], []⟩
def objectN : ByteArray := ⟨#[79, 98, 106, 101, 99, 116]⟩
def throwableN : ByteArray := ⟨#[84, 104, 114, 111, 119, 97, 98, 108, 101]⟩
def troubles : List ByteArray := [⟨#[65, 114, 105, 116, 104, 109, 101, 116, 105, 99]⟩, ⟨#[78, 117, 108, 108, 80, 111, 105, 110, 116, 101, 114]⟩, ⟨#[73, 110, 100, 101, 120]⟩, ⟨#[78, 101, 103, 97, 116, 105, 118, 101, 83, 105, 122, 101]⟩, ⟨#[67, 97, 115, 116]⟩, ⟨#[83, 116, 111, 114, 101]⟩, ⟨#[77, 111, 110, 105, 116, 111, 114]⟩, ⟨#[77, 101, 109, 111, 114, 121]⟩, ⟨#[83, 116, 97, 99, 107]⟩]
def objectK : KD := ⟨objectN, ⟨#[]⟩, [], [], [natM ⟨#[119, 97, 105, 116]⟩ ⟨#[40, 41, 86]⟩ false, natM ⟨#[110, 111, 116, 105, 102, 121]⟩ ⟨#[40, 41, 86]⟩ false, natM ⟨#[110, 111, 116, 105, 102, 121, 65, 108, 108]⟩ ⟨#[40, 41, 86]⟩ false]⟩
def threadK : KD := ⟨⟨#[84, 104, 114, 101, 97, 100]⟩, objectN, [], [], [runM, natM ⟨#[115, 116, 97, 114, 116]⟩ ⟨#[40, 41, 86]⟩ false, natM ⟨#[106, 111, 105, 110]⟩ ⟨#[40, 41, 86]⟩ false]⟩
def systemK : KD := ⟨⟨#[83, 121, 115, 116, 101, 109]⟩, objectN, [], [], [natM ⟨#[112, 114, 105, 110, 116]⟩ ⟨#[40, 73, 41, 86]⟩ true, natM ⟨#[115, 108, 101, 101, 112]⟩ ⟨#[40, 73, 41, 86]⟩ true]⟩
def givenK : List KD := [objectK, plainK throwableN objectN] ++ troubles.map (fun n => plainK n throwableN) ++ [threadK, systemK]

def natRow (n d : ByteArray) (s : Bool) : List Value := [.string n, .string d, .bool s, .bool true, .int .i64 0, .int .i64 0, .slice none 0 0, .slice none 0 0, .slice none 0 0]
def plainRow (n s : ByteArray) : List Value := [.string n, .string s, .slice none 0 0, .slice none 0 0, .slice none 0 0]
theorem nat_meth (n d : ByteArray) (s : Bool) (w : World) (h1 : n.size ≤ 1000) (h2 : d.size ≤ 1000) : MethR w (natRow n d s) (natM n d s) :=
  ⟨none, 0, none, 0, none, 0, rfl, by simp [natM]; omega, by simp [natM]; omega, ⟨none, 0, rfl, Nat.le_refl _, by unfold maxLen; omega, fun x hx => by simp [natM] at hx, .inl rfl⟩, LAt.nil _ _ _ _ _ (by unfold maxLen; omega), LAt.nil _ _ _ _ _ (by unfold maxLen; omega)⟩
theorem plain_class (n s : ByteArray) (w : World) (h1 : n.size ≤ 9223372036854775807) (h2 : s.size ≤ 9223372036854775807) : ClassV w (.agg (plainRow n s).toArray) (plainK n s) :=
  ⟨none, 0, none, 0, none, 0, rfl, h1, h2, LAt.nil _ _ _ _ _ (by unfold maxLen; omega), LAt.nil _ _ _ _ _ (by unfold maxLen; omega), LAt.nil _ _ _ _ _ (by unfold maxLen; omega)⟩

set_option maxRecDepth 8000 in
set_option maxHeartbeats 1000000 in
theorem nat_any (n d : ByteArray) (w : World) : Calls Tryz.prog 78 #[.string n, .string d] w fun e w' => e = .returned (.agg #[.string n, .string d, .bool false, .bool true, .int .i64 0, .int .i64 0, .slice none 0 0, .slice none 0 0, .slice none 0 0]) ∧ Below w.heap.size w w' := by
  have B1 := balloc w (.cells #[.string n, .string d, .bool false, .bool true, .int .i64 0, .int .i64 0, .slice none 0 0, .slice none 0 0, .slice none 0 0] 30)
  go_enter Tryz.func78, Tryz.ntmps78
  go_wp2
  go_returns
  exact ⟨rfl, B1⟩
set_option maxRecDepth 8000 in
set_option maxHeartbeats 1000000 in
theorem natS_any (n d : ByteArray) (w : World) : Calls Tryz.prog 79 #[.string n, .string d] w fun e w' => e = .returned (.agg #[.string n, .string d, .bool true, .bool true, .int .i64 0, .int .i64 0, .slice none 0 0, .slice none 0 0, .slice none 0 0]) ∧ Below w.heap.size w w' := by
  have B1 := balloc w (.cells #[.string n, .string d, .bool true, .bool true, .int .i64 0, .int .i64 0, .slice none 0 0, .slice none 0 0, .slice none 0 0] 30)
  go_enter Tryz.func79, Tryz.ntmps79
  go_wp2
  go_returns
  exact ⟨rfl, B1⟩

theorem block_meths {W : World} {g : Nat} {cs : Array Value} {t : TypeId} {X : Nat → Bool} (hb : Blk W g cs t) (hX : X g = true) (n c : Nat) (hc : n ≤ c) (hm : c ≤ maxLen) (l : List MD) (hl : l.length = n) (rows : Nat → List Value)
    (hr : ∀ j, j < n → ∀ i v, (rows j)[i]? = some v → cs[j * 9 + i]? = some v) (hR : ∀ j x, l[j]? = some x → MethR (seen X W) (rows j) x) : LAt 9 MethR (seen X W) (some ⟨g, 0, none⟩) c l :=
  ⟨by omega, hm, rows, fun _ => ⟨g, 0, rfl, by rw [seen_size]; exact hb.lt, fun j hj i v hv => seen_cell.2 ⟨hX, by
    rw [show 0 + j * 9 + i = j * 9 + i by omega, hb.cell]; exact hr j (by omega) i v hv⟩⟩, hR⟩

theorem flatR_congr {r r' : Nat → List Value} : ∀ {n : Nat}, (∀ j, j < n → r j = r' j) → flatR r n = flatR r' n
  | 0, _ => rfl
  | n + 1, h => by rw [flatR_succ, flatR_succ, flatR_congr (fun j hj => h j (by omega)), h n (by omega)]
structure GvI (w W : World) (v : Value) (ks : List KD) (rows : Nat → List Value) : Prop where
  B : Below w.heap.size w W
  o : W.ownsRow w.heap.size 43 5 v ks.length (flatR rows ks.length)
  k : ∀ j, j < ks.length → (rows j).length = 5
  r : ∀ j x, ks[j]? = some x → ClassV (seen (newBut w.heap.size v) W) (.agg (rows j).toArray) x
theorem GvI.below {w W W' : World} {v : Value} {ks : List KD} {rows : Nat → List Value} (I : GvI w W v ks rows) (h : Below W.heap.size W W') : GvI w W' v ks rows :=
  ⟨next I.B h, own_keep I.o h, I.k, fun j x hx => ClassV.ext (newBut_below h) (I.r j x hx)⟩
theorem GvI.push {w W W' : World} {v v' : Value} {ks : List KD} {rows : Nat → List Value} (I : GvI w W v ks rows) (ks' : List KD) (rows' : Nat → List Value)
    (ho : W'.ownsRow w.heap.size 43 5 v' (ks.length + ks'.length) (flatR rows ks.length ++ flatR rows' ks'.length)) (hg : W.grownBy W' v.ownBlock) (hat : v'.ownBlock = v.ownBlock ∨ v'.ownBlock = some W.heap.size)
    (hk : ∀ j, j < ks'.length → (rows' j).length = 5) (hr : ∀ j x, ks'[j]? = some x → ClassV (seen (newBut w.heap.size v) W) (.agg (rows' j).toArray) x) : GvI w W' v' (ks ++ ks') (fun j => if j < ks.length then rows j else rows' (j - ks.length)) := by
  have E : Ext (seen (newBut w.heap.size v) W) (seen (newBut w.heap.size v') W') := seen_mono hg.size (fun b hb hx => by
    simp only [newBut, Bool.and_eq_true, decide_eq_true_eq, bne_iff_ne] at hx ⊢
    refine ⟨⟨hx.1, fun e => ?_⟩, hg.block b hb (fun e => hx.2 e.symm)⟩
    rcases hat with h | h
    · rw [h] at e; exact hx.2 e
    · rw [h, Option.some.injEq] at e; omega)
  have hfl : flatR rows ks.length ++ flatR rows' ks'.length = flatR (fun j => if j < ks.length then rows j else rows' (j - ks.length)) (ks ++ ks').length := by
    have h1 : ∀ (m : Nat), flatR (fun j => if j < ks.length then rows j else rows' (j - ks.length)) (ks.length + m) = flatR rows ks.length ++ flatR rows' m := by
      intro m
      induction m with
      | zero =>
        rw [Nat.add_zero, show flatR rows' 0 = [] from rfl, List.append_nil]
        exact flatR_congr (fun j hj => by rw [if_pos hj])
      | succ m ih => rw [← Nat.add_assoc, flatR_succ, ih, flatR_succ, List.append_assoc, if_neg (by omega), Nat.add_sub_cancel_left]
    rw [List.length_append, h1]
  refine ⟨I.B.grown hg (Nat.le_trans I.B.size (Nat.le_refl _)) (fun k hk' => (I.o.lt k hk').1), ?_, fun j hj => ?_, fun j x hx => ?_⟩
  · rw [← hfl, List.length_append]; exact ho
  · show (if j < ks.length then rows j else rows' (j - ks.length)).length = 5
    split
    · exact I.k j (by assumption)
    · exact hk _ (by rw [List.length_append] at hj; omega)
  · show ClassV _ (.agg (if j < ks.length then rows j else rows' (j - ks.length)).toArray) x
    by_cases h : j < ks.length
    · rw [if_pos h]
      rw [List.getElem?_append_left h] at hx
      exact ClassV.ext E (I.r j x hx)
    · rw [if_neg h]
      rw [List.getElem?_append_right (by omega)] at hx
      exact ClassV.ext E (hr _ x hx)
theorem infoK : (Tryz.prog.info? 43).map (fun i => (i.zero, i.size, i.bytes)) = some (some (.agg #[.string ⟨#[]⟩, .string ⟨#[]⟩, .slice none 0 0, .slice none 0 0, .slice none 0 0]), 5, 104) := by kernel_rfl

theorem ix9 {n : Nat} {rows : Nat → List Value} {cs : List Value} (h : cs = flatR rows n) (hk : ∀ j, j < n → (rows j).length = 9) : ∀ j, j < n → ∀ i v, (rows j)[i]? = some v → cs.toArray[j * 9 + i]? = some v := fun j hj i v hv => by
  have hi : i < 9 := by have := (List.getElem?_eq_some_iff.1 hv).1; rwa [hk j hj] at this
  rw [List.getElem?_toArray, h, flatR_at hk j hj i hi]
  exact hv
def rowsO (j : Nat) : List Value := match j with | 0 => natRow ⟨#[119, 97, 105, 116]⟩ ⟨#[40, 41, 86]⟩ false | 1 => natRow ⟨#[110, 111, 116, 105, 102, 121]⟩ ⟨#[40, 41, 86]⟩ false | _ => natRow ⟨#[110, 111, 116, 105, 102, 121, 65, 108, 108]⟩ ⟨#[40, 41, 86]⟩ false
def rowsA (g : Nat) (j : Nat) : List Value := match j with | 0 => [.string objectN, .string ⟨#[]⟩, .slice none 0 0, .slice none 0 0, .slice (some ⟨g, 0, none⟩) 3 3] | _ => plainRow throwableN objectN
theorem objA {W : World} {g : Nat} {X : Nat → Bool} (hb : Blk W g #[.string ⟨#[119, 97, 105, 116]⟩, .string ⟨#[40, 41, 86]⟩, .bool false, .bool true, .int .i64 0, .int .i64 0, .slice none 0 0, .slice none 0 0, .slice none 0 0, .string ⟨#[110, 111, 116, 105, 102, 121]⟩, .string ⟨#[40, 41, 86]⟩, .bool false, .bool true, .int .i64 0, .int .i64 0, .slice none 0 0, .slice none 0 0, .slice none 0 0, .string ⟨#[110, 111, 116, 105, 102, 121, 65, 108, 108]⟩, .string ⟨#[40, 41, 86]⟩, .bool false, .bool true, .int .i64 0, .int .i64 0, .slice none 0 0, .slice none 0 0, .slice none 0 0] 30) (hX : X g = true) : ClassV (seen X W) (.agg (rowsA g 0).toArray) objectK := by
  refine ⟨none, 0, none, 0, some ⟨g, 0, none⟩, 3, rfl, by decide, by decide, LAt.nil _ _ _ _ _ (by unfold maxLen; omega), LAt.nil _ _ _ _ _ (by unfold maxLen; omega), ?_⟩
  refine block_meths hb hX 3 3 (Nat.le_refl _) (by unfold maxLen; omega) _ rfl rowsO (ix9 rfl (fun j hj => by match j, hj with | 0, _ => rfl | 1, _ => rfl | 2, _ => rfl)) (fun j x hx => ?_)
  match j, hx with
  | 0, hx => cases hx; exact nat_meth _ _ _ _ (by decide) (by decide)
  | 1, hx => cases hx; exact nat_meth _ _ _ _ (by decide) (by decide)
  | 2, hx => cases hx; exact nat_meth _ _ _ _ (by decide) (by decide)
  | j + 3, hx => simp [objectK] at hx

theorem blkOf {B : Nat} {w X : World} (_ : Below B w X) (cs : Array Value) (t : TypeId) : Blk (X.alloc (.cells cs t)) X.heap.size cs t := Blk.new X cs t
theorem allocOf {w X : World} (h : Below w.heap.size w X) (o : Obj) : Below w.heap.size w (X.alloc o) := next h (balloc X o)
theorem geOf {w WC X : World} {v : Value} {ks : List KD} {rows : Nat → List Value} (I : GvI w WC v ks rows) (h : Below WC.heap.size WC X) : w.heap.size ≤ X.heap.size := Nat.le_trans I.B.size h.size
theorem cls10 {w X : World} {gT gS gq : Nat} (h : Below w.heap.size w X) (K4 : Blk X gT #[.string ⟨#[114, 117, 110]⟩, .string ⟨#[40, 41, 86]⟩, .bool false, .bool false, .int .i64 0, .int .i64 1, .slice (some ⟨gq, 0, none⟩) 1 1, .slice none 0 0, .slice none 0 0, .string ⟨#[115, 116, 97, 114, 116]⟩, .string ⟨#[40, 41, 86]⟩, .bool false, .bool true, .int .i64 0, .int .i64 0, .slice none 0 0, .slice none 0 0, .slice none 0 0, .string ⟨#[106, 111, 105, 110]⟩, .string ⟨#[40, 41, 86]⟩, .bool false, .bool true, .int .i64 0, .int .i64 0, .slice none 0 0, .slice none 0 0, .slice none 0 0] 30) (K8 : Blk X gS #[.string ⟨#[112, 114, 105, 110, 116]⟩, .string ⟨#[40, 73, 41, 86]⟩, .bool true, .bool true, .int .i64 0, .int .i64 0, .slice none 0 0, .slice none 0 0, .slice none 0 0, .string ⟨#[115, 108, 101, 101, 112]⟩, .string ⟨#[40, 73, 41, 86]⟩, .bool true, .bool true, .int .i64 0, .int .i64 0, .slice none 0 0, .slice none 0 0, .slice none 0 0] 30) :
    Blk (X.alloc (.cells #[.string ⟨#[84, 104, 114, 101, 97, 100]⟩, .string ⟨#[79, 98, 106, 101, 99, 116]⟩, .slice none 0 0, .slice none 0 0, .slice (some ⟨gT, 0, none⟩) 3 3, .string ⟨#[83, 121, 115, 116, 101, 109]⟩, .string ⟨#[79, 98, 106, 101, 99, 116]⟩, .slice none 0 0, .slice none 0 0, .slice (some ⟨gS, 0, none⟩) 2 2] 43)) X.heap.size #[.string ⟨#[84, 104, 114, 101, 97, 100]⟩, .string ⟨#[79, 98, 106, 101, 99, 116]⟩, .slice none 0 0, .slice none 0 0, .slice (some ⟨gT, 0, none⟩) 3 3, .string ⟨#[83, 121, 115, 116, 101, 109]⟩, .string ⟨#[79, 98, 106, 101, 99, 116]⟩, .slice none 0 0, .slice none 0 0, .slice (some ⟨gS, 0, none⟩) 2 2] 43 ∧ Below w.heap.size w (X.alloc (.cells #[.string ⟨#[84, 104, 114, 101, 97, 100]⟩, .string ⟨#[79, 98, 106, 101, 99, 116]⟩, .slice none 0 0, .slice none 0 0, .slice (some ⟨gT, 0, none⟩) 3 3, .string ⟨#[83, 121, 115, 116, 101, 109]⟩, .string ⟨#[79, 98, 106, 101, 99, 116]⟩, .slice none 0 0, .slice none 0 0, .slice (some ⟨gS, 0, none⟩) 2 2] 43)) ∧ Blk (X.alloc (.cells #[.string ⟨#[84, 104, 114, 101, 97, 100]⟩, .string ⟨#[79, 98, 106, 101, 99, 116]⟩, .slice none 0 0, .slice none 0 0, .slice (some ⟨gT, 0, none⟩) 3 3, .string ⟨#[83, 121, 115, 116, 101, 109]⟩, .string ⟨#[79, 98, 106, 101, 99, 116]⟩, .slice none 0 0, .slice none 0 0, .slice (some ⟨gS, 0, none⟩) 2 2] 43)) gT #[.string ⟨#[114, 117, 110]⟩, .string ⟨#[40, 41, 86]⟩, .bool false, .bool false, .int .i64 0, .int .i64 1, .slice (some ⟨gq, 0, none⟩) 1 1, .slice none 0 0, .slice none 0 0, .string ⟨#[115, 116, 97, 114, 116]⟩, .string ⟨#[40, 41, 86]⟩, .bool false, .bool true, .int .i64 0, .int .i64 0, .slice none 0 0, .slice none 0 0, .slice none 0 0, .string ⟨#[106, 111, 105, 110]⟩, .string ⟨#[40, 41, 86]⟩, .bool false, .bool true, .int .i64 0, .int .i64 0, .slice none 0 0, .slice none 0 0, .slice none 0 0] 30 ∧ Blk (X.alloc (.cells #[.string ⟨#[84, 104, 114, 101, 97, 100]⟩, .string ⟨#[79, 98, 106, 101, 99, 116]⟩, .slice none 0 0, .slice none 0 0, .slice (some ⟨gT, 0, none⟩) 3 3, .string ⟨#[83, 121, 115, 116, 101, 109]⟩, .string ⟨#[79, 98, 106, 101, 99, 116]⟩, .slice none 0 0, .slice none 0 0, .slice (some ⟨gS, 0, none⟩) 2 2] 43)) gS #[.string ⟨#[112, 114, 105, 110, 116]⟩, .string ⟨#[40, 73, 41, 86]⟩, .bool true, .bool true, .int .i64 0, .int .i64 0, .slice none 0 0, .slice none 0 0, .slice none 0 0, .string ⟨#[115, 108, 101, 101, 112]⟩, .string ⟨#[40, 73, 41, 86]⟩, .bool true, .bool true, .int .i64 0, .int .i64 0, .slice none 0 0, .slice none 0 0, .slice none 0 0] 30 :=
  ⟨Blk.new X _ _, next h (balloc X _), K4.alloc _, K8.alloc _⟩
def rowsT (gq j : Nat) : List Value := match j with | 0 => [.string ⟨#[114, 117, 110]⟩, .string ⟨#[40, 41, 86]⟩, .bool false, .bool false, .int .i64 0, .int .i64 1, .slice (some ⟨gq, 0, none⟩) 1 1, .slice none 0 0, .slice none 0 0] | 1 => natRow ⟨#[115, 116, 97, 114, 116]⟩ ⟨#[40, 41, 86]⟩ false | _ => natRow ⟨#[106, 111, 105, 110]⟩ ⟨#[40, 41, 86]⟩ false
def rowsS (j : Nat) : List Value := match j with | 0 => natRow ⟨#[112, 114, 105, 110, 116]⟩ ⟨#[40, 73, 41, 86]⟩ true | _ => natRow ⟨#[115, 108, 101, 101, 112]⟩ ⟨#[40, 73, 41, 86]⟩ true
def rowsL (gT gS j : Nat) : List Value := match j with | 0 => [.string ⟨#[84, 104, 114, 101, 97, 100]⟩, .string ⟨#[79, 98, 106, 101, 99, 116]⟩, .slice none 0 0, .slice none 0 0, .slice (some ⟨gT, 0, none⟩) 3 3] | _ => [.string ⟨#[83, 121, 115, 116, 101, 109]⟩, .string ⟨#[79, 98, 106, 101, 99, 116]⟩, .slice none 0 0, .slice none 0 0, .slice (some ⟨gS, 0, none⟩) 2 2]
theorem run_meth {W : World} {gq : Nat} {X : Nat → Bool} (hb : Blk W gq #[.int .u8 177] 5) (hX : X gq = true) : MethR (seen X W) (rowsT gq 0) runM := by
  refine ⟨some ⟨gq, 0, none⟩, 1, none, 0, none, 0, rfl, by decide, by decide, ⟨some ⟨gq, 0, none⟩, 1, rfl, Nat.le_refl _, by unfold maxLen; omega, fun x hx => by simp [runM] at hx; subst hx; decide, .inr ⟨gq, 0, rfl, fun j x hj => ?_⟩⟩, LAt.nil _ _ _ _ _ (by unfold maxLen; omega), LAt.nil _ _ _ _ _ (by unfold maxLen; omega)⟩
  refine seen_cell.2 ⟨hX, ?_⟩
  rw [hb.cell]
  match j, hj with
  | 0, hj => simp [runM] at hj; subst hj; rfl
  | j + 1, hj => simp [runM] at hj
theorem gvFin {w X w9 : World} {v v9 : Value} {rows : Nat → List Value} {gT gS gq : Nat} (I : GvI w X v ([objectK, plainK throwableN objectN] ++ (troubles.take 9).map (fun n => plainK n throwableN)) rows) (q4 : w.heap.size ≤ gT) (q8 : w.heap.size ≤ gS) (hq : w.heap.size ≤ gq)
    (K4 : Blk X gT #[.string ⟨#[114, 117, 110]⟩, .string ⟨#[40, 41, 86]⟩, .bool false, .bool false, .int .i64 0, .int .i64 1, .slice (some ⟨gq, 0, none⟩) 1 1, .slice none 0 0, .slice none 0 0, .string ⟨#[115, 116, 97, 114, 116]⟩, .string ⟨#[40, 41, 86]⟩, .bool false, .bool true, .int .i64 0, .int .i64 0, .slice none 0 0, .slice none 0 0, .slice none 0 0, .string ⟨#[106, 111, 105, 110]⟩, .string ⟨#[40, 41, 86]⟩, .bool false, .bool true, .int .i64 0, .int .i64 0, .slice none 0 0, .slice none 0 0, .slice none 0 0] 30) (K8 : Blk X gS #[.string ⟨#[112, 114, 105, 110, 116]⟩, .string ⟨#[40, 73, 41, 86]⟩, .bool true, .bool true, .int .i64 0, .int .i64 0, .slice none 0 0, .slice none 0 0, .slice none 0 0, .string ⟨#[115, 108, 101, 101, 112]⟩, .string ⟨#[40, 73, 41, 86]⟩, .bool true, .bool true, .int .i64 0, .int .i64 0, .slice none 0 0, .slice none 0 0, .slice none 0 0] 30) (QB : Blk X gq #[.int .u8 177] 5) (hlen : ([objectK, plainK throwableN objectN] ++ (troubles.take 9).map (fun n => plainK n throwableN)).length = 2 + 9)
    (ho : w9.ownsRow w.heap.size 43 5 v9 (2 + 9 + 2) (flatR rows (2 + 9) ++ (#[.string ⟨#[84, 104, 114, 101, 97, 100]⟩, .string ⟨#[79, 98, 106, 101, 99, 116]⟩, .slice none 0 0, .slice none 0 0, .slice (some ⟨gT, 0, none⟩) 3 3, .string ⟨#[83, 121, 115, 116, 101, 109]⟩, .string ⟨#[79, 98, 106, 101, 99, 116]⟩, .slice none 0 0, .slice none 0 0, .slice (some ⟨gS, 0, none⟩) 2 2] : Array Value).toList)) (hg : X.grownBy w9 v.ownBlock) (hat : v9.ownBlock = v.ownBlock ∨ v9.ownBlock = some X.heap.size) :
    GvI w w9 v9 givenK (fun j => if j < ([objectK, plainK throwableN objectN] ++ (troubles.take 9).map (fun n => plainK n throwableN)).length then rows j else rowsL gT gS (j - ([objectK, plainK throwableN objectN] ++ (troubles.take 9).map (fun n => plainK n throwableN)).length)) := by
  have hs : ∀ {g : Nat} {cs : Array Value} {t : TypeId}, Blk X g cs t → t ≠ 43 → w.heap.size ≤ g → newBut w.heap.size v g = true := fun hb ht hg => by
    simp only [newBut, Bool.and_eq_true, decide_eq_true_eq, bne_iff_ne]
    exact ⟨hg, own_not I.o hb ht⟩
  refine I.push [threadK, systemK] (rowsL gT gS) (by rw [hlen]; exact ho) hg hat (fun j hj => by match j, hj with | 0, _ => rfl | 1, _ => rfl) (fun j x hx => ?_)
  match j, hx with
  | 0, hx =>
    cases hx
    refine ⟨none, 0, none, 0, some ⟨gT, 0, none⟩, 3, rfl, by decide, by decide, LAt.nil _ _ _ _ _ (by unfold maxLen; omega), LAt.nil _ _ _ _ _ (by unfold maxLen; omega), ?_⟩
    refine block_meths K4 (hs K4 (by decide) q4) 3 3 (Nat.le_refl _) (by unfold maxLen; omega) _ rfl (rowsT gq) (ix9 rfl (fun j hj => by match j, hj with | 0, _ => rfl | 1, _ => rfl | 2, _ => rfl)) (fun j x hx => ?_)
    match j, hx with
    | 0, hx => cases hx; exact run_meth QB (hs QB (by decide) hq)
    | 1, hx => cases hx; exact nat_meth _ _ _ _ (by decide) (by decide)
    | 2, hx => cases hx; exact nat_meth _ _ _ _ (by decide) (by decide)
    | j + 3, hx => simp [threadK] at hx
  | 1, hx =>
    cases hx
    refine ⟨none, 0, none, 0, some ⟨gS, 0, none⟩, 2, rfl, by decide, by decide, LAt.nil _ _ _ _ _ (by unfold maxLen; omega), LAt.nil _ _ _ _ _ (by unfold maxLen; omega), ?_⟩
    refine block_meths K8 (hs K8 (by decide) q8) 2 2 (Nat.le_refl _) (by unfold maxLen; omega) _ rfl rowsS (ix9 rfl (fun j hj => by match j, hj with | 0, _ => rfl | 1, _ => rfl)) (fun j x hx => ?_)
    match j, hx with
    | 0, hx => cases hx; exact nat_meth _ _ _ _ (by decide) (by decide)
    | 1, hx => cases hx; exact nat_meth _ _ _ _ (by decide) (by decide)
    | j + 2, hx => simp [systemK] at hx
  | j + 2, hx => simp at hx
theorem blkGrown {X Y : World} {row : Option Nat} {b : Nat} {cs : Array Value} {t : TypeId} (h : Blk X b cs t) (hg : X.grownBy Y row) (hne : row ≠ some b) : Blk Y b cs t := (hg.block b h.lt (fun e => hne e.symm)).trans h
set_option maxRecDepth 8000 in
set_option maxHeartbeats 4000000 in
theorem given_any (w : World) : Calls Tryz.prog 40 #[] w fun e w' => ∃ v rows, e = .returned v ∧ GvI w w' v givenK rows := by
  obtain ⟨i0, hi, hz0, hz1, hz2⟩ := info_parts infoK
  go_enter Tryz.func40, Tryz.ntmps40
  go_wp2_with fail
  refine (nat_any _ _ _).mono ?_
  rintro e x1 ⟨rfl, b1⟩
  go_wp2_with fail
  refine (nat_any _ _ _).mono ?_
  rintro e x2 ⟨rfl, b2⟩
  go_wp2_with fail
  refine (nat_any _ _ _).mono ?_
  rintro e w1 ⟨rfl, b3⟩
  have B1 := next b1 (next b2 b3)
  go_wp2_with fail
  have M1 : Blk (((w1.alloc (.cells #[.string ⟨#[119, 97, 105, 116]⟩, .string ⟨#[40, 41, 86]⟩, .bool false, .bool true, .int .i64 0, .int .i64 0, .slice none 0 0, .slice none 0 0, .slice none 0 0, .string ⟨#[110, 111, 116, 105, 102, 121]⟩, .string ⟨#[40, 41, 86]⟩, .bool false, .bool true, .int .i64 0, .int .i64 0, .slice none 0 0, .slice none 0 0, .slice none 0 0, .string ⟨#[110, 111, 116, 105, 102, 121, 65, 108, 108]⟩, .string ⟨#[40, 41, 86]⟩, .bool false, .bool true, .int .i64 0, .int .i64 0, .slice none 0 0, .slice none 0 0, .slice none 0 0] 30)).alloc (.cells #[.string ⟨#[79, 98, 106, 101, 99, 116]⟩, .string ⟨#[]⟩, .slice none 0 0, .slice none 0 0, .slice (some ⟨w1.heap.size, 0, none⟩) 3 3, .string ⟨#[84, 104, 114, 111, 119, 97, 98, 108, 101]⟩, .string ⟨#[79, 98, 106, 101, 99, 116]⟩, .slice none 0 0, .slice none 0 0, .slice none 0 0] 43)).alloc (.cells #[.string ⟨#[65, 114, 105, 116, 104, 109, 101, 116, 105, 99]⟩, .string ⟨#[78, 117, 108, 108, 80, 111, 105, 110, 116, 101, 114]⟩, .string ⟨#[73, 110, 100, 101, 120]⟩, .string ⟨#[78, 101, 103, 97, 116, 105, 118, 101, 83, 105, 122, 101]⟩, .string ⟨#[67, 97, 115, 116]⟩, .string ⟨#[83, 116, 111, 114, 101]⟩, .string ⟨#[77, 111, 110, 105, 116, 111, 114]⟩, .string ⟨#[77, 101, 109, 111, 114, 121]⟩, .string ⟨#[83, 116, 97, 99, 107]⟩] 9)) w1.heap.size #[.string ⟨#[119, 97, 105, 116]⟩, .string ⟨#[40, 41, 86]⟩, .bool false, .bool true, .int .i64 0, .int .i64 0, .slice none 0 0, .slice none 0 0, .slice none 0 0, .string ⟨#[110, 111, 116, 105, 102, 121]⟩, .string ⟨#[40, 41, 86]⟩, .bool false, .bool true, .int .i64 0, .int .i64 0, .slice none 0 0, .slice none 0 0, .slice none 0 0, .string ⟨#[110, 111, 116, 105, 102, 121, 65, 108, 108]⟩, .string ⟨#[40, 41, 86]⟩, .bool false, .bool true, .int .i64 0, .int .i64 0, .slice none 0 0, .slice none 0 0, .slice none 0 0] 30 := ((Blk.new w1 _ _).alloc _).alloc _
  have T1 : Blk (((w1.alloc (.cells #[.string ⟨#[119, 97, 105, 116]⟩, .string ⟨#[40, 41, 86]⟩, .bool false, .bool true, .int .i64 0, .int .i64 0, .slice none 0 0, .slice none 0 0, .slice none 0 0, .string ⟨#[110, 111, 116, 105, 102, 121]⟩, .string ⟨#[40, 41, 86]⟩, .bool false, .bool true, .int .i64 0, .int .i64 0, .slice none 0 0, .slice none 0 0, .slice none 0 0, .string ⟨#[110, 111, 116, 105, 102, 121, 65, 108, 108]⟩, .string ⟨#[40, 41, 86]⟩, .bool false, .bool true, .int .i64 0, .int .i64 0, .slice none 0 0, .slice none 0 0, .slice none 0 0] 30)).alloc (.cells #[.string ⟨#[79, 98, 106, 101, 99, 116]⟩, .string ⟨#[]⟩, .slice none 0 0, .slice none 0 0, .slice (some ⟨w1.heap.size, 0, none⟩) 3 3, .string ⟨#[84, 104, 114, 111, 119, 97, 98, 108, 101]⟩, .string ⟨#[79, 98, 106, 101, 99, 116]⟩, .slice none 0 0, .slice none 0 0, .slice none 0 0] 43)).alloc (.cells #[.string ⟨#[65, 114, 105, 116, 104, 109, 101, 116, 105, 99]⟩, .string ⟨#[78, 117, 108, 108, 80, 111, 105, 110, 116, 101, 114]⟩, .string ⟨#[73, 110, 100, 101, 120]⟩, .string ⟨#[78, 101, 103, 97, 116, 105, 118, 101, 83, 105, 122, 101]⟩, .string ⟨#[67, 97, 115, 116]⟩, .string ⟨#[83, 116, 111, 114, 101]⟩, .string ⟨#[77, 111, 110, 105, 116, 111, 114]⟩, .string ⟨#[77, 101, 109, 111, 114, 121]⟩, .string ⟨#[83, 116, 97, 99, 107]⟩] 9)) (w1.heap.size + 1 + 1) #[.string ⟨#[65, 114, 105, 116, 104, 109, 101, 116, 105, 99]⟩, .string ⟨#[78, 117, 108, 108, 80, 111, 105, 110, 116, 101, 114]⟩, .string ⟨#[73, 110, 100, 101, 120]⟩, .string ⟨#[78, 101, 103, 97, 116, 105, 118, 101, 83, 105, 122, 101]⟩, .string ⟨#[67, 97, 115, 116]⟩, .string ⟨#[83, 116, 111, 114, 101]⟩, .string ⟨#[77, 111, 110, 105, 116, 111, 114]⟩, .string ⟨#[77, 101, 109, 111, 114, 121]⟩, .string ⟨#[83, 116, 97, 99, 107]⟩] 9 := by have := Blk.new ((w1.alloc (.cells #[.string ⟨#[119, 97, 105, 116]⟩, .string ⟨#[40, 41, 86]⟩, .bool false, .bool true, .int .i64 0, .int .i64 0, .slice none 0 0, .slice none 0 0, .slice none 0 0, .string ⟨#[110, 111, 116, 105, 102, 121]⟩, .string ⟨#[40, 41, 86]⟩, .bool false, .bool true, .int .i64 0, .int .i64 0, .slice none 0 0, .slice none 0 0, .slice none 0 0, .string ⟨#[110, 111, 116, 105, 102, 121, 65, 108, 108]⟩, .string ⟨#[40, 41, 86]⟩, .bool false, .bool true, .int .i64 0, .int .i64 0, .slice none 0 0, .slice none 0 0, .slice none 0 0] 30)).alloc (.cells #[.string ⟨#[79, 98, 106, 101, 99, 116]⟩, .string ⟨#[]⟩, .slice none 0 0, .slice none 0 0, .slice (some ⟨w1.heap.size, 0, none⟩) 3 3, .string ⟨#[84, 104, 114, 111, 119, 97, 98, 108, 101]⟩, .string ⟨#[79, 98, 106, 101, 99, 116]⟩, .slice none 0 0, .slice none 0 0, .slice none 0 0] 43)) #[.string ⟨#[65, 114, 105, 116, 104, 109, 101, 116, 105, 99]⟩, .string ⟨#[78, 117, 108, 108, 80, 111, 105, 110, 116, 101, 114]⟩, .string ⟨#[73, 110, 100, 101, 120]⟩, .string ⟨#[78, 101, 103, 97, 116, 105, 118, 101, 83, 105, 122, 101]⟩, .string ⟨#[67, 97, 115, 116]⟩, .string ⟨#[83, 116, 111, 114, 101]⟩, .string ⟨#[77, 111, 110, 105, 116, 111, 114]⟩, .string ⟨#[77, 101, 109, 111, 114, 121]⟩, .string ⟨#[83, 116, 97, 99, 107]⟩] 9; simpa only [World.size_alloc] using this
  have IA : GvI w (((w1.alloc (.cells #[.string ⟨#[119, 97, 105, 116]⟩, .string ⟨#[40, 41, 86]⟩, .bool false, .bool true, .int .i64 0, .int .i64 0, .slice none 0 0, .slice none 0 0, .slice none 0 0, .string ⟨#[110, 111, 116, 105, 102, 121]⟩, .string ⟨#[40, 41, 86]⟩, .bool false, .bool true, .int .i64 0, .int .i64 0, .slice none 0 0, .slice none 0 0, .slice none 0 0, .string ⟨#[110, 111, 116, 105, 102, 121, 65, 108, 108]⟩, .string ⟨#[40, 41, 86]⟩, .bool false, .bool true, .int .i64 0, .int .i64 0, .slice none 0 0, .slice none 0 0, .slice none 0 0] 30)).alloc (.cells #[.string ⟨#[79, 98, 106, 101, 99, 116]⟩, .string ⟨#[]⟩, .slice none 0 0, .slice none 0 0, .slice (some ⟨w1.heap.size, 0, none⟩) 3 3, .string ⟨#[84, 104, 114, 111, 119, 97, 98, 108, 101]⟩, .string ⟨#[79, 98, 106, 101, 99, 116]⟩, .slice none 0 0, .slice none 0 0, .slice none 0 0] 43)).alloc (.cells #[.string ⟨#[65, 114, 105, 116, 104, 109, 101, 116, 105, 99]⟩, .string ⟨#[78, 117, 108, 108, 80, 111, 105, 110, 116, 101, 114]⟩, .string ⟨#[73, 110, 100, 101, 120]⟩, .string ⟨#[78, 101, 103, 97, 116, 105, 118, 101, 83, 105, 122, 101]⟩, .string ⟨#[67, 97, 115, 116]⟩, .string ⟨#[83, 116, 111, 114, 101]⟩, .string ⟨#[77, 111, 110, 105, 116, 111, 114]⟩, .string ⟨#[77, 101, 109, 111, 114, 121]⟩, .string ⟨#[83, 116, 97, 99, 107]⟩] 9)) (.slice (some ⟨w1.heap.size + 1, 0, none⟩) 2 2) [objectK, plainK throwableN objectN] (rowsA w1.heap.size) := by
    refine ⟨((B1.alloc B1.size _).alloc (by have := B1.size; simp; omega) _).alloc (by have := B1.size; simp; omega) _, ?_, fun j hj => ?_, fun j x hx => ?_⟩
    · have := World.ownsRow_lit (e := 43) (size := 5) (base := w.heap.size) (w1.alloc (.cells #[.string ⟨#[119, 97, 105, 116]⟩, .string ⟨#[40, 41, 86]⟩, .bool false, .bool true, .int .i64 0, .int .i64 0, .slice none 0 0, .slice none 0 0, .slice none 0 0, .string ⟨#[110, 111, 116, 105, 102, 121]⟩, .string ⟨#[40, 41, 86]⟩, .bool false, .bool true, .int .i64 0, .int .i64 0, .slice none 0 0, .slice none 0 0, .slice none 0 0, .string ⟨#[110, 111, 116, 105, 102, 121, 65, 108, 108]⟩, .string ⟨#[40, 41, 86]⟩, .bool false, .bool true, .int .i64 0, .int .i64 0, .slice none 0 0, .slice none 0 0, .slice none 0 0] 30)) #[.string ⟨#[79, 98, 106, 101, 99, 116]⟩, .string ⟨#[]⟩, .slice none 0 0, .slice none 0 0, .slice (some ⟨w1.heap.size, 0, none⟩) 3 3, .string ⟨#[84, 104, 114, 111, 119, 97, 98, 108, 101]⟩, .string ⟨#[79, 98, 106, 101, 99, 116]⟩, .slice none 0 0, .slice none 0 0, .slice none 0 0] 2 (by have := B1.size; simp; omega) (by unfold maxLen; omega) rfl
      rw [World.size_alloc] at this
      exact this.alloc _
    · match j, hj with
      | 0, _ => rfl
      | 1, _ => rfl
    · match j, hx with
      | 0, hx =>
        cases hx
        refine objA M1 ?_
        have := B1.size
        simp [newBut, Value.ownBlock]
        omega
      | 1, hx => cases hx; exact plain_class _ _ _ (by decide) (by decide)
      | j + 2, hx => simp at hx
  have hgl : w.heap.size ≤ w1.heap.size := B1.size
  generalize ((w1.alloc (.cells #[.string ⟨#[119, 97, 105, 116]⟩, .string ⟨#[40, 41, 86]⟩, .bool false, .bool true, .int .i64 0, .int .i64 0, .slice none 0 0, .slice none 0 0, .slice none 0 0, .string ⟨#[110, 111, 116, 105, 102, 121]⟩, .string ⟨#[40, 41, 86]⟩, .bool false, .bool true, .int .i64 0, .int .i64 0, .slice none 0 0, .slice none 0 0, .slice none 0 0, .string ⟨#[110, 111, 116, 105, 102, 121, 65, 108, 108]⟩, .string ⟨#[40, 41, 86]⟩, .bool false, .bool true, .int .i64 0, .int .i64 0, .slice none 0 0, .slice none 0 0, .slice none 0 0] 30)).alloc (.cells #[.string ⟨#[79, 98, 106, 101, 99, 116]⟩, .string ⟨#[]⟩, .slice none 0 0, .slice none 0 0, .slice (some ⟨w1.heap.size, 0, none⟩) 3 3, .string ⟨#[84, 104, 114, 111, 119, 97, 98, 108, 101]⟩, .string ⟨#[79, 98, 106, 101, 99, 116]⟩, .slice none 0 0, .slice none 0 0, .slice none 0 0] 43)).alloc (.cells #[.string ⟨#[65, 114, 105, 116, 104, 109, 101, 116, 105, 99]⟩, .string ⟨#[78, 117, 108, 108, 80, 111, 105, 110, 116, 101, 114]⟩, .string ⟨#[73, 110, 100, 101, 120]⟩, .string ⟨#[78, 101, 103, 97, 116, 105, 118, 101, 83, 105, 122, 101]⟩, .string ⟨#[67, 97, 115, 116]⟩, .string ⟨#[83, 116, 111, 114, 101]⟩, .string ⟨#[77, 111, 110, 105, 116, 111, 114]⟩, .string ⟨#[77, 101, 109, 111, 114, 121]⟩, .string ⟨#[83, 116, 97, 99, 107]⟩] 9) = WA at *
  generalize w1.heap.size = g at *
  clear M1 b1 b2 b3 B1
  go_loopw [1, 14] (fun lv iv wr => ∃ (i : Nat) (rows : Nat → List Value), iv = .int .i64 (i : Int) ∧ i ≤ 9 ∧ GvI w wr lv ([objectK, plainK throwableN objectN] ++ (troubles.take i).map (fun n => plainK n throwableN)) rows ∧ Blk wr (g + 1 + 1) #[.string ⟨#[65, 114, 105, 116, 104, 109, 101, 116, 105, 99]⟩, .string ⟨#[78, 117, 108, 108, 80, 111, 105, 110, 116, 101, 114]⟩, .string ⟨#[73, 110, 100, 101, 120]⟩, .string ⟨#[78, 101, 103, 97, 116, 105, 118, 101, 83, 105, 122, 101]⟩, .string ⟨#[67, 97, 115, 116]⟩, .string ⟨#[83, 116, 111, 114, 101]⟩, .string ⟨#[77, 111, 110, 105, 116, 111, 114]⟩, .string ⟨#[77, 101, 109, 111, 114, 121]⟩, .string ⟨#[83, 116, 97, 99, 107]⟩] 9) (fun _ iv _ => 9 - (intOf iv).toNat)
  case atStart => exact ⟨0, _, rfl, Nat.zero_le _, IA, T1⟩
  case round =>
    obtain ⟨i, rows, rfl, hi9, I, T⟩ := hrel
    clear IA T1
    have hlen : ([objectK, plainK throwableN objectN] ++ (troubles.take i).map (fun n => plainK n throwableN)).length = 2 + i := by
      simp [List.length_take, show troubles.length = 9 from rfl]; omega
    obtain ⟨ga, gc, hlv⟩ := own_form I.o (by rw [hlen]; omega)
    rw [hlen] at hlv
    subst hlv
    by_cases hlt : i < 9
    · have hlt' : (i : Int) < 9 := by omega
      obtain ⟨n, hn⟩ : ∃ n, troubles[i]? = some n := ⟨_, List.getElem?_eq_getElem (show i < troubles.length from hlt)⟩
      have hns : n.size ≤ 1000 := by
        have := List.mem_of_getElem? hn
        revert this
        generalize n = x
        unfold troubles
        simp only [List.mem_cons, List.not_mem_nil, or_false]
        rintro (rfl | rfl | rfl | rfl | rfl | rfl | rfl | rfl | rfl) <;> decide
      have ht := T.cell i
      rw [show (#[.string ⟨#[65, 114, 105, 116, 104, 109, 101, 116, 105, 99]⟩, .string ⟨#[78, 117, 108, 108, 80, 111, 105, 110, 116, 101, 114]⟩, .string ⟨#[73, 110, 100, 101, 120]⟩, .string ⟨#[78, 101, 103, 97, 116, 105, 118, 101, 83, 105, 122, 101]⟩, .string ⟨#[67, 97, 115, 116]⟩, .string ⟨#[83, 116, 111, 114, 101]⟩, .string ⟨#[77, 111, 110, 105, 116, 111, 114]⟩, .string ⟨#[77, 101, 109, 111, 114, 121]⟩, .string ⟨#[83, 116, 97, 99, 107]⟩] : Array Value)[i]? = some (.string n) by
        have : (#[.string ⟨#[65, 114, 105, 116, 104, 109, 101, 116, 105, 99]⟩, .string ⟨#[78, 117, 108, 108, 80, 111, 105, 110, 116, 101, 114]⟩, .string ⟨#[73, 110, 100, 101, 120]⟩, .string ⟨#[78, 101, 103, 97, 116, 105, 118, 101, 83, 105, 122, 101]⟩, .string ⟨#[67, 97, 115, 116]⟩, .string ⟨#[83, 116, 111, 114, 101]⟩, .string ⟨#[77, 111, 110, 105, 116, 111, 114]⟩, .string ⟨#[77, 101, 109, 111, 114, 121]⟩, .string ⟨#[83, 116, 97, 99, 107]⟩] : Array Value) = (troubles.map Value.string).toArray := rfl
        rw [this, List.getElem?_toArray, List.getElem?_map, hn]; rfl] at ht
      have I2 := I.below (balloc wr (.cells #[.string n, .string ⟨#[84, 104, 114, 111, 119, 97, 98, 108, 101]⟩, .slice none 0 0, .slice none 0 0, .slice none 0 0] 43))
      have T2 := T.alloc (.cells #[.string n, .string ⟨#[84, 104, 114, 111, 119, 97, 98, 108, 101]⟩, .slice none 0 0, .slice none 0 0, .slice none 0 0] 43)
      have o2 := I2.o
      rw [hlen] at o2
      have hsW := I2.B.size
      have hnews : ∀ j u, (plainRow n throwableN)[j]? = some u → (wr.alloc (.cells #[.string n, .string ⟨#[84, 104, 114, 111, 119, 97, 98, 108, 101]⟩, .slice none 0 0, .slice none 0 0, .slice none 0 0] 43)).cell? ((⟨wr.heap.size, 0, none⟩ : Addr).add j) = some u := fun j u hj => by
        rw [Addr.add_lit, Nat.zero_add, (Blk.new wr #[.string n, .string ⟨#[84, 104, 114, 111, 119, 97, 98, 108, 101]⟩, .slice none 0 0, .slice none 0 0, .slice none 0 0] 43).cell j]
        show (plainRow n throwableN).toArray[j]? = some u
        rw [List.getElem?_toArray]; exact hj
      go_wp2_with (at_builtin; refine wpList_append_own_at _ rfl _ _ 35 rfl w.heap.size 43 i0 (.agg #[.string ⟨#[]⟩, .string ⟨#[]⟩, .slice none 0 0, .slice none 0 0, .slice none 0 0]) 5 104 Tryz.underlying35 hi hz0 hz1 hz2 rfl (by decide) _ _ _ rfl o2 _ 1 1 (plainRow n throwableN) rfl rfl hnews (by intro u hu; simp [plainRow] at hu; rcases hu with rfl | rfl | rfl | rfl | rfl <;> rfl) (by unfold maxLen; omega) (by omega) hsW ?_; intro v1 w2 ho1 hg1 _ hat1)
      have I3 := I2.push [plainK n throwableN] (fun _ => plainRow n throwableN) (by rw [hlen]; exact ho1) hg1 hat1 (fun _ _ => rfl) (fun j x hx => by
        match j, hx with
        | 0, hx => cases hx; exact plain_class _ _ _ (by omega) (by decide)
        | j + 1, hx => simp at hx)
      have T3 : Blk w2 (g + 1 + 1) #[.string ⟨#[65, 114, 105, 116, 104, 109, 101, 116, 105, 99]⟩, .string ⟨#[78, 117, 108, 108, 80, 111, 105, 110, 116, 101, 114]⟩, .string ⟨#[73, 110, 100, 101, 120]⟩, .string ⟨#[78, 101, 103, 97, 116, 105, 118, 101, 83, 105, 122, 101]⟩, .string ⟨#[67, 97, 115, 116]⟩, .string ⟨#[83, 116, 111, 114, 101]⟩, .string ⟨#[77, 111, 110, 105, 116, 111, 114]⟩, .string ⟨#[77, 101, 109, 111, 114, 121]⟩, .string ⟨#[83, 116, 97, 99, 107]⟩] 9 := (hg1.block _ T2.lt (fun e => own_not I2.o T2 (by decide) e.symm)).trans T2
      have hks : ([objectK, plainK throwableN objectN] ++ (troubles.take i).map (fun n => plainK n throwableN)) ++ [plainK n throwableN] = [objectK, plainK throwableN objectN] ++ (troubles.take (i + 1)).map (fun n => plainK n throwableN) := by
        rw [List.take_add_one, hn, List.map_append, List.append_assoc]; rfl
      rw [hks] at I3
      go_wp2
      go_roundw
      case rel => exact ⟨i + 1, _, by go_num, by omega, I3, T3⟩
      case measure => simp [intOf]; omega
    · have hlt' : ¬ (i : Int) < 9 := by omega
      have : i = 9 := by omega
      subst this
      clear T
      have IC := I.below (((Below.refl _ wr).alloc (Nat.le_refl _) (.cells #[.int .u8 177] 5)).alloc (by simp) (.cells #[.string ⟨#[114, 117, 110]⟩, .string ⟨#[40, 41, 86]⟩, .bool false, .bool false, .int .i64 0, .int .i64 1, .slice (some ⟨wr.heap.size, 0, none⟩) 1 1, .slice none 0 0, .slice none 0 0] 30))
      have QB := (Blk.new wr #[.int .u8 177] 5).alloc (.cells #[.string ⟨#[114, 117, 110]⟩, .string ⟨#[40, 41, 86]⟩, .bool false, .bool false, .int .i64 0, .int .i64 1, .slice (some ⟨wr.heap.size, 0, none⟩) 1 1, .slice none 0 0, .slice none 0 0] 30)
      have RB := Blk.new (wr.alloc (.cells #[.int .u8 177] 5)) #[.string ⟨#[114, 117, 110]⟩, .string ⟨#[40, 41, 86]⟩, .bool false, .bool false, .int .i64 0, .int .i64 1, .slice (some ⟨wr.heap.size, 0, none⟩) 1 1, .slice none 0 0, .slice none 0 0] 30
      rw [World.size_alloc] at RB
      have hgq : w.heap.size ≤ wr.heap.size := I.B.size
      go_wp2_with fail
      generalize (wr.alloc (.cells #[.int .u8 177] 5)).alloc (.cells #[.string ⟨#[114, 117, 110]⟩, .string ⟨#[40, 41, 86]⟩, .bool false, .bool false, .int .i64 0, .int .i64 1, .slice (some ⟨wr.heap.size, 0, none⟩) 1 1, .slice none 0 0, .slice none 0 0] 30) = WC at *
      generalize wr.heap.size = gq at *
      clear I
      have ST := D.hidIt (fun (X : World) (h : Blk X (gq + 1) #[.string ⟨#[114, 117, 110]⟩, .string ⟨#[40, 41, 86]⟩, .bool false, .bool false, .int .i64 0, .int .i64 1, .slice (some ⟨gq, 0, none⟩) 1 1, .slice none 0 0, .slice none 0 0] 30) => (⟨h.cell 0, h.cell 1, h.cell 2, h.cell 3, h.cell 4, h.cell 5, h.cell 6, h.cell 7, h.cell 8⟩ : (fun X => X.cell? ⟨gq + 1, 0, none⟩ = some (.string ⟨#[114, 117, 110]⟩) ∧ X.cell? ⟨gq + 1, 1, none⟩ = some (.string ⟨#[40, 41, 86]⟩) ∧ X.cell? ⟨gq + 1, 2, none⟩ = some (.bool false) ∧ X.cell? ⟨gq + 1, 3, none⟩ = some (.bool false) ∧ X.cell? ⟨gq + 1, 4, none⟩ = some (.int .i64 0) ∧ X.cell? ⟨gq + 1, 5, none⟩ = some (.int .i64 1) ∧ X.cell? ⟨gq + 1, 6, none⟩ = some (.slice (some ⟨gq, 0, none⟩) 1 1) ∧ X.cell? ⟨gq + 1, 7, none⟩ = some (.slice none 0 0) ∧ X.cell? ⟨gq + 1, 8, none⟩ = some (.slice none 0 0)) X))
      have hcur := (Below.refl WC.heap.size WC).drew
      refine wp_region_noPanic ?_
      refine wp_region_held_drew (S := (fun X => X.cell? ⟨gq + 1, 0, none⟩ = some (.string ⟨#[114, 117, 110]⟩) ∧ X.cell? ⟨gq + 1, 1, none⟩ = some (.string ⟨#[40, 41, 86]⟩) ∧ X.cell? ⟨gq + 1, 2, none⟩ = some (.bool false) ∧ X.cell? ⟨gq + 1, 3, none⟩ = some (.bool false) ∧ X.cell? ⟨gq + 1, 4, none⟩ = some (.int .i64 0) ∧ X.cell? ⟨gq + 1, 5, none⟩ = some (.int .i64 1) ∧ X.cell? ⟨gq + 1, 6, none⟩ = some (.slice (some ⟨gq, 0, none⟩) 1 1) ∧ X.cell? ⟨gq + 1, 7, none⟩ = some (.slice none 0 0) ∧ X.cell? ⟨gq + 1, 8, none⟩ = some (.slice none 0 0))) (by kernel_rfl) ?_ (fun hHeld => ?_)
      · (try dsimp only); first | exact ST.out _ RB9 | exact ST.out _ (RB.below hcur)
      refine tk 0 ⟨some 26, .move (.tmp 1), 35, "given.go:15", #[], none⟩ ?vg_1 rfl (fun _ _ _ h => h) (.inl ⟨by rfl, ?hyg_1⟩) (by assumption) ?restg_1
      case hyg_1 => intro w hSw; (try dsimp only at hSw); go_simp; try with_reducible rfl
      try simp only [Act.put, List.setIfInBounds_toArray, List.set_cons_zero, List.set_cons_succ]
      refine tk 1 ⟨some 27, .load 30 (.tmp 4), 30, "given.go:15", #[], none⟩ ?vg_2 rfl (fun _ _ _ h => h) (.inl ⟨by rfl, ?hyg_2⟩) (by assumption) ?restg_2
      case hyg_2 => intro w hSw; (try dsimp only at hSw); go_simp; try with_reducible rfl
      try simp only [Act.put, List.setIfInBounds_toArray, List.set_cons_zero, List.set_cons_succ]
      refine wpAnyH_ready (rs := [2]) (by kernel_rfl) (by simp) ?_
      refine AllReadyH.cons (o := ⟨some 28, .call { callee := .value (.func 78), args := #[.const (.string { data := #[115, 116, 97, 114, 116] }), .const (.string { data := #[40, 41, 86] })], argTypes := #[9, 9] }, 30, "given.go:16", #[], none⟩) rfl (fun K hK => ?_) AllReadyH.nil
      go_simp
      refine (nat_any _ _ _).mono ?_; rintro e y1 ⟨rfl, c1⟩; have hcur := next hcur c1; (try (have K4 := K4.below c1)); (try (have K8 := K8.below c1))
      try go_wp2_with fail
      refine hK.out _ _ ?hSg_3 ?restg_3
      case hSg_3 => (try dsimp only); first | exact ST.out _ RB9 | exact ST.out _ (RB.below hcur)
      clear hK K hHeld
      intro hHeld
      try simp only [Act.put, List.setIfInBounds_toArray, List.set_cons_zero, List.set_cons_succ]
      refine wpAnyH_ready (rs := [3]) (by kernel_rfl) (by simp) ?_
      refine AllReadyH.cons (o := ⟨some 29, .call { callee := .value (.func 78), args := #[.const (.string { data := #[106, 111, 105, 110] }), .const (.string { data := #[40, 41, 86] })], argTypes := #[9, 9] }, 30, "given.go:16", #[⟨2, .chain⟩], none⟩) rfl (fun K hK => ?_) AllReadyH.nil
      go_simp
      refine (nat_any _ _ _).mono ?_; rintro e y2 ⟨rfl, c2⟩; have hcur := next hcur c2; (try (have K4 := K4.below c2)); (try (have K8 := K8.below c2))
      try go_wp2_with fail
      refine hK.out _ _ ?hSg_4 ?restg_4
      case hSg_4 => (try dsimp only); first | exact ST.out _ RB9 | exact ST.out _ (RB.below hcur)
      clear hK K hHeld
      intro hHeld
      try simp only [Act.put, List.setIfInBounds_toArray, List.set_cons_zero, List.set_cons_succ]
      refine wpAnyH_ready (rs := [4, 6]) (by kernel_rfl) (by simp) ?_
      refine (AllReadyH.cons (o := ⟨some 30, .buildSlice 41 3 #[(0, .tmp 27), (1, .tmp 28), (2, .tmp 29)], 41, "given.go:15", #[⟨1, .data⟩, ⟨2, .data⟩, ⟨3, .data⟩], none⟩) rfl (fun K hK => ?_) (AllReadyH.cons (o := ⟨some 32, .call { callee := .value (.func 79), args := #[.const (.string { data := #[112, 114, 105, 110, 116] }), .const (.string { data := #[40, 73, 41, 86] })], argTypes := #[9, 9] }, 30, "given.go:17", #[⟨3, .chain⟩], none⟩) rfl (fun K hK => ?_) AllReadyH.nil))
      · have hdum := True.intro
        go_simp
        have q4 := geOf IC hcur; have K4 := blkOf hcur #[.string ⟨#[114, 117, 110]⟩, .string ⟨#[40, 41, 86]⟩, .bool false, .bool false, .int .i64 0, .int .i64 1, .slice (some ⟨gq, 0, none⟩) 1 1, .slice none 0 0, .slice none 0 0, .string ⟨#[115, 116, 97, 114, 116]⟩, .string ⟨#[40, 41, 86]⟩, .bool false, .bool true, .int .i64 0, .int .i64 0, .slice none 0 0, .slice none 0 0, .slice none 0 0, .string ⟨#[106, 111, 105, 110]⟩, .string ⟨#[40, 41, 86]⟩, .bool false, .bool true, .int .i64 0, .int .i64 0, .slice none 0 0, .slice none 0 0, .slice none 0 0] 30; (try simp only [World.size_alloc] at K4 q4); (try (have K8 := K8.alloc (.cells #[.string ⟨#[114, 117, 110]⟩, .string ⟨#[40, 41, 86]⟩, .bool false, .bool false, .int .i64 0, .int .i64 1, .slice (some ⟨gq, 0, none⟩) 1 1, .slice none 0 0, .slice none 0 0, .string ⟨#[115, 116, 97, 114, 116]⟩, .string ⟨#[40, 41, 86]⟩, .bool false, .bool true, .int .i64 0, .int .i64 0, .slice none 0 0, .slice none 0 0, .slice none 0 0, .string ⟨#[106, 111, 105, 110]⟩, .string ⟨#[40, 41, 86]⟩, .bool false, .bool true, .int .i64 0, .int .i64 0, .slice none 0 0, .slice none 0 0, .slice none 0 0] 30))); have hcur := allocOf hcur (.cells #[.string ⟨#[114, 117, 110]⟩, .string ⟨#[40, 41, 86]⟩, .bool false, .bool false, .int .i64 0, .int .i64 1, .slice (some ⟨gq, 0, none⟩) 1 1, .slice none 0 0, .slice none 0 0, .string ⟨#[115, 116, 97, 114, 116]⟩, .string ⟨#[40, 41, 86]⟩, .bool false, .bool true, .int .i64 0, .int .i64 0, .slice none 0 0, .slice none 0 0, .slice none 0 0, .string ⟨#[106, 111, 105, 110]⟩, .string ⟨#[40, 41, 86]⟩, .bool false, .bool true, .int .i64 0, .int .i64 0, .slice none 0 0, .slice none 0 0, .slice none 0 0] 30)
        try go_wp2_with fail
        refine hK.out _ _ ?hSg_5 ?restg_5
        case hSg_5 => (try dsimp only); first | exact ST.out _ RB9 | exact ST.out _ (RB.below hcur)
        clear hK K hHeld
        intro hHeld
        try simp only [Act.put, List.setIfInBounds_toArray, List.set_cons_zero, List.set_cons_succ]
        refine tk 5 ⟨some 31, .build 43 #[(0, .const (.string { data := #[84, 104, 114, 101, 97, 100] })), (1, .const (.string { data := #[79, 98, 106, 101, 99, 116] })), (4, .tmp 30)], 43, "given.go:15", #[⟨4, .data⟩], none⟩ ?vg_6 rfl (fun _ _ _ h => h) (.inl ⟨by rfl, ?hyg_6⟩) (by assumption) ?restg_6
        case hyg_6 => intro w hSw; (try dsimp only at hSw); go_simp; try with_reducible rfl
        try simp only [Act.put, List.setIfInBounds_toArray, List.set_cons_zero, List.set_cons_succ]
        refine wpAnyH_ready (rs := [6]) (by kernel_rfl) (by simp) ?_
        refine AllReadyH.cons (o := ⟨some 32, .call { callee := .value (.func 79), args := #[.const (.string { data := #[112, 114, 105, 110, 116] }), .const (.string { data := #[40, 73, 41, 86] })], argTypes := #[9, 9] }, 30, "given.go:17", #[⟨3, .chain⟩], none⟩) rfl (fun K hK => ?_) AllReadyH.nil
        go_simp
        refine (natS_any _ _ _).mono ?_; rintro e y3 ⟨rfl, c3⟩; have hcur := next hcur c3; (try (have K4 := K4.below c3)); (try (have K8 := K8.below c3))
        try go_wp2_with fail
        refine hK.out _ _ ?hSg_7 ?restg_7
        case hSg_7 => (try dsimp only); first | exact ST.out _ RB9 | exact ST.out _ (RB.below hcur)
        clear hK K hHeld
        intro hHeld
        try simp only [Act.put, List.setIfInBounds_toArray, List.set_cons_zero, List.set_cons_succ]
        refine wpAnyH_ready (rs := [7]) (by kernel_rfl) (by simp) ?_
        refine AllReadyH.cons (o := ⟨some 33, .call { callee := .value (.func 79), args := #[.const (.string { data := #[115, 108, 101, 101, 112] }), .const (.string { data := #[40, 73, 41, 86] })], argTypes := #[9, 9] }, 30, "given.go:17", #[⟨6, .chain⟩], none⟩) rfl (fun K hK => ?_) AllReadyH.nil
        go_simp
        refine (natS_any _ _ _).mono ?_; rintro e y4 ⟨rfl, c4⟩; have hcur := next hcur c4; (try (have K4 := K4.below c4)); (try (have K8 := K8.below c4))
        try go_wp2_with fail
        refine hK.out _ _ ?hSg_8 ?restg_8
        case hSg_8 => (try dsimp only); first | exact ST.out _ RB9 | exact ST.out _ (RB.below hcur)
        clear hK K hHeld
        intro hHeld
        try simp only [Act.put, List.setIfInBounds_toArray, List.set_cons_zero, List.set_cons_succ]
        refine wpAnyH_ready (rs := [8]) (by kernel_rfl) (by simp) ?_
        refine AllReadyH.cons (o := ⟨some 34, .buildSlice 41 2 #[(0, .tmp 32), (1, .tmp 33)], 41, "given.go:15", #[⟨6, .data⟩, ⟨7, .data⟩], none⟩) rfl (fun K hK => ?_) AllReadyH.nil
        go_simp
        have q8 := geOf IC hcur; have K8 := blkOf hcur #[.string ⟨#[112, 114, 105, 110, 116]⟩, .string ⟨#[40, 73, 41, 86]⟩, .bool true, .bool true, .int .i64 0, .int .i64 0, .slice none 0 0, .slice none 0 0, .slice none 0 0, .string ⟨#[115, 108, 101, 101, 112]⟩, .string ⟨#[40, 73, 41, 86]⟩, .bool true, .bool true, .int .i64 0, .int .i64 0, .slice none 0 0, .slice none 0 0, .slice none 0 0] 30; (try simp only [World.size_alloc] at K8 q8); (try (have K4 := K4.alloc (.cells #[.string ⟨#[112, 114, 105, 110, 116]⟩, .string ⟨#[40, 73, 41, 86]⟩, .bool true, .bool true, .int .i64 0, .int .i64 0, .slice none 0 0, .slice none 0 0, .slice none 0 0, .string ⟨#[115, 108, 101, 101, 112]⟩, .string ⟨#[40, 73, 41, 86]⟩, .bool true, .bool true, .int .i64 0, .int .i64 0, .slice none 0 0, .slice none 0 0, .slice none 0 0] 30))); have hcur := allocOf hcur (.cells #[.string ⟨#[112, 114, 105, 110, 116]⟩, .string ⟨#[40, 73, 41, 86]⟩, .bool true, .bool true, .int .i64 0, .int .i64 0, .slice none 0 0, .slice none 0 0, .slice none 0 0, .string ⟨#[115, 108, 101, 101, 112]⟩, .string ⟨#[40, 73, 41, 86]⟩, .bool true, .bool true, .int .i64 0, .int .i64 0, .slice none 0 0, .slice none 0 0, .slice none 0 0] 30)
        try go_wp2_with fail
        refine hK.out _ _ ?hSg_9 ?restg_9
        case hSg_9 => (try dsimp only); first | exact ST.out _ RB9 | exact ST.out _ (RB.below hcur)
        clear hK K hHeld
        intro hHeld
        try simp only [Act.put, List.setIfInBounds_toArray, List.set_cons_zero, List.set_cons_succ]
        refine tk 9 ⟨some 35, .build 43 #[(0, .const (.string { data := #[83, 121, 115, 116, 101, 109] })), (1, .const (.string { data := #[79, 98, 106, 101, 99, 116] })), (4, .tmp 34)], 43, "given.go:15", #[⟨8, .data⟩], none⟩ ?vg_10 rfl (fun _ _ _ h => h) (.inl ⟨by rfl, ?hyg_10⟩) (by assumption) ?restg_10
        case hyg_10 => intro w hSw; (try dsimp only at hSw); go_simp; try with_reducible rfl
        try simp only [Act.put, List.setIfInBounds_toArray, List.set_cons_zero, List.set_cons_succ]
        refine wpAnyH_ready (rs := [10]) (by kernel_rfl) (by simp) ?_
        refine AllReadyH.cons (o := ⟨some 36, .buildSlice 35 2 #[(0, .tmp 31), (1, .tmp 35)], 35, "given.go:15", #[⟨5, .data⟩, ⟨9, .data⟩], none⟩) rfl (fun K hK => ?_) AllReadyH.nil
        go_simp
        obtain ⟨K10, hcur, K4, K8⟩ := cls10 hcur K4 K8; (try simp only [World.size_alloc] at K10)
        try go_wp2_with fail
        refine hK.out _ _ ?hSg_11 ?restg_11
        case hSg_11 => (try dsimp only); first | exact ST.out _ RB9 | exact ST.out _ (RB.below hcur)
        clear hK K hHeld
        intro hHeld
        try simp only [Act.put, List.setIfInBounds_toArray, List.set_cons_zero, List.set_cons_succ]
        refine wpAnyH_ready (rs := [11]) (by kernel_rfl) (by simp) ?_
        refine AllReadyH.cons (o := ⟨some 37, .call { callee := .builtin .append, args := #[.tmp 26, .tmp 36], argTypes := #[35, 35] }, 35, "given.go:15", #[⟨0, .data⟩, ⟨10, .data⟩, ⟨7, .chain⟩], none⟩) rfl (fun K hK => ?_) AllReadyH.nil
        have I9 := IC.below hcur
        have o9 := I9.o
        rw [hlen] at o9
        obtain ⟨v9, w9, hr9, ho9, hg9, _, hat9⟩ := run_append_own_at (P := Tryz.prog) _ w.heap.size 35 35 43 i0 (.agg #[.string ⟨#[]⟩, .string ⟨#[]⟩, .slice none 0 0, .slice none 0 0, .slice none 0 0]) 5 104 Tryz.underlying35 hi hz0 hz1 hz2 rfl (by decide) _ _ _ o9 _ 2 2 _ rfl (World.news_of_block K10) (by intro u hu; simp at hu; rcases hu with rfl | rfl | rfl | rfl | rfl | rfl | rfl | rfl | rfl | rfl <;> rfl) (by unfold maxLen; omega) (by omega) I9.B.size
        have RB9 := blkGrown (RB.below hcur) hg9 (own_not I9.o (RB.below hcur) (by decide))
        have FIN := gvFin I9 q4 q8 hgq K4 K8 (QB.below hcur) hlen ho9 hg9 hat9
        refine op_append (v := .slice (some ⟨ga, 0, none⟩) (2 + 9) gc) (vb := .slice (some ⟨_, 0, none⟩) 2 2) rfl rfl rfl rfl hr9 ?_
        refine hK.out _ _ ?hSg_12 ?restg_12
        case hSg_12 => (try dsimp only); first | exact ST.out _ RB9 | exact ST.out _ (RB.below hcur)
        clear hK K hHeld
        intro hHeld
        try simp only [Act.put, List.setIfInBounds_toArray, List.set_cons_zero, List.set_cons_succ]
        refine tk 12 ⟨some 0, .assign (.tmp 37), 35, "given.go:15", #[⟨11, .data⟩, ⟨11, .chain⟩, ⟨0, .phase⟩, ⟨1, .phase⟩, ⟨2, .phase⟩, ⟨3, .phase⟩, ⟨4, .phase⟩, ⟨5, .phase⟩, ⟨6, .phase⟩, ⟨7, .phase⟩, ⟨8, .phase⟩, ⟨9, .phase⟩, ⟨10, .phase⟩, ⟨11, .phase⟩], none⟩ ?vg_13 rfl (fun _ _ _ h => h) (.inl ⟨by rfl, ?hyg_13⟩) (by assumption) ?restg_13
        case hyg_13 => intro w hSw; (try dsimp only at hSw); go_simp; try with_reducible rfl
        try simp only [Act.put, List.setIfInBounds_toArray, List.set_cons_zero]
        refine wpAnyH_done (by kernel_rfl) ?_ _
        refine NoPanic.normal ?_
        go_wp2
        go_ret
        exact ⟨_, rfl, _, FIN⟩
      · have hdum := True.intro
        go_simp
        refine (natS_any _ _ _).mono ?_; rintro e y3 ⟨rfl, c3⟩; have hcur := next hcur c3; (try (have K4 := K4.below c3)); (try (have K8 := K8.below c3))
        try go_wp2_with fail
        refine hK.out _ _ ?hSg_14 ?restg_14
        case hSg_14 => (try dsimp only); first | exact ST.out _ RB9 | exact ST.out _ (RB.below hcur)
        clear hK K hHeld
        intro hHeld
        try simp only [Act.put, List.setIfInBounds_toArray, List.set_cons_zero, List.set_cons_succ]
        refine wpAnyH_ready (rs := [4, 7]) (by kernel_rfl) (by simp) ?_
        refine (AllReadyH.cons (o := ⟨some 30, .buildSlice 41 3 #[(0, .tmp 27), (1, .tmp 28), (2, .tmp 29)], 41, "given.go:15", #[⟨1, .data⟩, ⟨2, .data⟩, ⟨3, .data⟩], none⟩) rfl (fun K hK => ?_) (AllReadyH.cons (o := ⟨some 33, .call { callee := .value (.func 79), args := #[.const (.string { data := #[115, 108, 101, 101, 112] }), .const (.string { data := #[40, 73, 41, 86] })], argTypes := #[9, 9] }, 30, "given.go:17", #[⟨6, .chain⟩], none⟩) rfl (fun K hK => ?_) AllReadyH.nil))
        · have hdum := True.intro
          go_simp
          have q4 := geOf IC hcur; have K4 := blkOf hcur #[.string ⟨#[114, 117, 110]⟩, .string ⟨#[40, 41, 86]⟩, .bool false, .bool false, .int .i64 0, .int .i64 1, .slice (some ⟨gq, 0, none⟩) 1 1, .slice none 0 0, .slice none 0 0, .string ⟨#[115, 116, 97, 114, 116]⟩, .string ⟨#[40, 41, 86]⟩, .bool false, .bool true, .int .i64 0, .int .i64 0, .slice none 0 0, .slice none 0 0, .slice none 0 0, .string ⟨#[106, 111, 105, 110]⟩, .string ⟨#[40, 41, 86]⟩, .bool false, .bool true, .int .i64 0, .int .i64 0, .slice none 0 0, .slice none 0 0, .slice none 0 0] 30; (try simp only [World.size_alloc] at K4 q4); (try (have K8 := K8.alloc (.cells #[.string ⟨#[114, 117, 110]⟩, .string ⟨#[40, 41, 86]⟩, .bool false, .bool false, .int .i64 0, .int .i64 1, .slice (some ⟨gq, 0, none⟩) 1 1, .slice none 0 0, .slice none 0 0, .string ⟨#[115, 116, 97, 114, 116]⟩, .string ⟨#[40, 41, 86]⟩, .bool false, .bool true, .int .i64 0, .int .i64 0, .slice none 0 0, .slice none 0 0, .slice none 0 0, .string ⟨#[106, 111, 105, 110]⟩, .string ⟨#[40, 41, 86]⟩, .bool false, .bool true, .int .i64 0, .int .i64 0, .slice none 0 0, .slice none 0 0, .slice none 0 0] 30))); have hcur := allocOf hcur (.cells #[.string ⟨#[114, 117, 110]⟩, .string ⟨#[40, 41, 86]⟩, .bool false, .bool false, .int .i64 0, .int .i64 1, .slice (some ⟨gq, 0, none⟩) 1 1, .slice none 0 0, .slice none 0 0, .string ⟨#[115, 116, 97, 114, 116]⟩, .string ⟨#[40, 41, 86]⟩, .bool false, .bool true, .int .i64 0, .int .i64 0, .slice none 0 0, .slice none 0 0, .slice none 0 0, .string ⟨#[106, 111, 105, 110]⟩, .string ⟨#[40, 41, 86]⟩, .bool false, .bool true, .int .i64 0, .int .i64 0, .slice none 0 0, .slice none 0 0, .slice none 0 0] 30)
          try go_wp2_with fail
          refine hK.out _ _ ?hSg_15 ?restg_15
          case hSg_15 => (try dsimp only); first | exact ST.out _ RB9 | exact ST.out _ (RB.below hcur)
          clear hK K hHeld
          intro hHeld
          try simp only [Act.put, List.setIfInBounds_toArray, List.set_cons_zero, List.set_cons_succ]
          refine tk 5 ⟨some 31, .build 43 #[(0, .const (.string { data := #[84, 104, 114, 101, 97, 100] })), (1, .const (.string { data := #[79, 98, 106, 101, 99, 116] })), (4, .tmp 30)], 43, "given.go:15", #[⟨4, .data⟩], none⟩ ?vg_16 rfl (fun _ _ _ h => h) (.inl ⟨by rfl, ?hyg_16⟩) (by assumption) ?restg_16
          case hyg_16 => intro w hSw; (try dsimp only at hSw); go_simp; try with_reducible rfl
          try simp only [Act.put, List.setIfInBounds_toArray, List.set_cons_zero, List.set_cons_succ]
          refine wpAnyH_ready (rs := [7]) (by kernel_rfl) (by simp) ?_
          refine AllReadyH.cons (o := ⟨some 33, .call { callee := .value (.func 79), args := #[.const (.string { data := #[115, 108, 101, 101, 112] }), .const (.string { data := #[40, 73, 41, 86] })], argTypes := #[9, 9] }, 30, "given.go:17", #[⟨6, .chain⟩], none⟩) rfl (fun K hK => ?_) AllReadyH.nil
          go_simp
          refine (natS_any _ _ _).mono ?_; rintro e y4 ⟨rfl, c4⟩; have hcur := next hcur c4; (try (have K4 := K4.below c4)); (try (have K8 := K8.below c4))
          try go_wp2_with fail
          refine hK.out _ _ ?hSg_17 ?restg_17
          case hSg_17 => (try dsimp only); first | exact ST.out _ RB9 | exact ST.out _ (RB.below hcur)
          clear hK K hHeld
          intro hHeld
          try simp only [Act.put, List.setIfInBounds_toArray, List.set_cons_zero, List.set_cons_succ]
          refine wpAnyH_ready (rs := [8]) (by kernel_rfl) (by simp) ?_
          refine AllReadyH.cons (o := ⟨some 34, .buildSlice 41 2 #[(0, .tmp 32), (1, .tmp 33)], 41, "given.go:15", #[⟨6, .data⟩, ⟨7, .data⟩], none⟩) rfl (fun K hK => ?_) AllReadyH.nil
          go_simp
          have q8 := geOf IC hcur; have K8 := blkOf hcur #[.string ⟨#[112, 114, 105, 110, 116]⟩, .string ⟨#[40, 73, 41, 86]⟩, .bool true, .bool true, .int .i64 0, .int .i64 0, .slice none 0 0, .slice none 0 0, .slice none 0 0, .string ⟨#[115, 108, 101, 101, 112]⟩, .string ⟨#[40, 73, 41, 86]⟩, .bool true, .bool true, .int .i64 0, .int .i64 0, .slice none 0 0, .slice none 0 0, .slice none 0 0] 30; (try simp only [World.size_alloc] at K8 q8); (try (have K4 := K4.alloc (.cells #[.string ⟨#[112, 114, 105, 110, 116]⟩, .string ⟨#[40, 73, 41, 86]⟩, .bool true, .bool true, .int .i64 0, .int .i64 0, .slice none 0 0, .slice none 0 0, .slice none 0 0, .string ⟨#[115, 108, 101, 101, 112]⟩, .string ⟨#[40, 73, 41, 86]⟩, .bool true, .bool true, .int .i64 0, .int .i64 0, .slice none 0 0, .slice none 0 0, .slice none 0 0] 30))); have hcur := allocOf hcur (.cells #[.string ⟨#[112, 114, 105, 110, 116]⟩, .string ⟨#[40, 73, 41, 86]⟩, .bool true, .bool true, .int .i64 0, .int .i64 0, .slice none 0 0, .slice none 0 0, .slice none 0 0, .string ⟨#[115, 108, 101, 101, 112]⟩, .string ⟨#[40, 73, 41, 86]⟩, .bool true, .bool true, .int .i64 0, .int .i64 0, .slice none 0 0, .slice none 0 0, .slice none 0 0] 30)
          try go_wp2_with fail
          refine hK.out _ _ ?hSg_18 ?restg_18
          case hSg_18 => (try dsimp only); first | exact ST.out _ RB9 | exact ST.out _ (RB.below hcur)
          clear hK K hHeld
          intro hHeld
          try simp only [Act.put, List.setIfInBounds_toArray, List.set_cons_zero, List.set_cons_succ]
          refine tk 9 ⟨some 35, .build 43 #[(0, .const (.string { data := #[83, 121, 115, 116, 101, 109] })), (1, .const (.string { data := #[79, 98, 106, 101, 99, 116] })), (4, .tmp 34)], 43, "given.go:15", #[⟨8, .data⟩], none⟩ ?vg_19 rfl (fun _ _ _ h => h) (.inl ⟨by rfl, ?hyg_19⟩) (by assumption) ?restg_19
          case hyg_19 => intro w hSw; (try dsimp only at hSw); go_simp; try with_reducible rfl
          try simp only [Act.put, List.setIfInBounds_toArray, List.set_cons_zero, List.set_cons_succ]
          refine wpAnyH_ready (rs := [10]) (by kernel_rfl) (by simp) ?_
          refine AllReadyH.cons (o := ⟨some 36, .buildSlice 35 2 #[(0, .tmp 31), (1, .tmp 35)], 35, "given.go:15", #[⟨5, .data⟩, ⟨9, .data⟩], none⟩) rfl (fun K hK => ?_) AllReadyH.nil
          go_simp
          obtain ⟨K10, hcur, K4, K8⟩ := cls10 hcur K4 K8; (try simp only [World.size_alloc] at K10)
          try go_wp2_with fail
          refine hK.out _ _ ?hSg_20 ?restg_20
          case hSg_20 => (try dsimp only); first | exact ST.out _ RB9 | exact ST.out _ (RB.below hcur)
          clear hK K hHeld
          intro hHeld
          try simp only [Act.put, List.setIfInBounds_toArray, List.set_cons_zero, List.set_cons_succ]
          refine wpAnyH_ready (rs := [11]) (by kernel_rfl) (by simp) ?_
          refine AllReadyH.cons (o := ⟨some 37, .call { callee := .builtin .append, args := #[.tmp 26, .tmp 36], argTypes := #[35, 35] }, 35, "given.go:15", #[⟨0, .data⟩, ⟨10, .data⟩, ⟨7, .chain⟩], none⟩) rfl (fun K hK => ?_) AllReadyH.nil
          have I9 := IC.below hcur
          have o9 := I9.o
          rw [hlen] at o9
          obtain ⟨v9, w9, hr9, ho9, hg9, _, hat9⟩ := run_append_own_at (P := Tryz.prog) _ w.heap.size 35 35 43 i0 (.agg #[.string ⟨#[]⟩, .string ⟨#[]⟩, .slice none 0 0, .slice none 0 0, .slice none 0 0]) 5 104 Tryz.underlying35 hi hz0 hz1 hz2 rfl (by decide) _ _ _ o9 _ 2 2 _ rfl (World.news_of_block K10) (by intro u hu; simp at hu; rcases hu with rfl | rfl | rfl | rfl | rfl | rfl | rfl | rfl | rfl | rfl <;> rfl) (by unfold maxLen; omega) (by omega) I9.B.size
          have RB9 := blkGrown (RB.below hcur) hg9 (own_not I9.o (RB.below hcur) (by decide))
          have FIN := gvFin I9 q4 q8 hgq K4 K8 (QB.below hcur) hlen ho9 hg9 hat9
          refine op_append (v := .slice (some ⟨ga, 0, none⟩) (2 + 9) gc) (vb := .slice (some ⟨_, 0, none⟩) 2 2) rfl rfl rfl rfl hr9 ?_
          refine hK.out _ _ ?hSg_21 ?restg_21
          case hSg_21 => (try dsimp only); first | exact ST.out _ RB9 | exact ST.out _ (RB.below hcur)
          clear hK K hHeld
          intro hHeld
          try simp only [Act.put, List.setIfInBounds_toArray, List.set_cons_zero, List.set_cons_succ]
          refine tk 12 ⟨some 0, .assign (.tmp 37), 35, "given.go:15", #[⟨11, .data⟩, ⟨11, .chain⟩, ⟨0, .phase⟩, ⟨1, .phase⟩, ⟨2, .phase⟩, ⟨3, .phase⟩, ⟨4, .phase⟩, ⟨5, .phase⟩, ⟨6, .phase⟩, ⟨7, .phase⟩, ⟨8, .phase⟩, ⟨9, .phase⟩, ⟨10, .phase⟩, ⟨11, .phase⟩], none⟩ ?vg_22 rfl (fun _ _ _ h => h) (.inl ⟨by rfl, ?hyg_22⟩) (by assumption) ?restg_22
          case hyg_22 => intro w hSw; (try dsimp only at hSw); go_simp; try with_reducible rfl
          try simp only [Act.put, List.setIfInBounds_toArray, List.set_cons_zero]
          refine wpAnyH_done (by kernel_rfl) ?_ _
          refine NoPanic.normal ?_
          go_wp2
          go_ret
          exact ⟨_, rfl, _, FIN⟩
        · have hdum := True.intro
          go_simp
          refine (natS_any _ _ _).mono ?_; rintro e y4 ⟨rfl, c4⟩; have hcur := next hcur c4; (try (have K4 := K4.below c4)); (try (have K8 := K8.below c4))
          try go_wp2_with fail
          refine hK.out _ _ ?hSg_23 ?restg_23
          case hSg_23 => (try dsimp only); first | exact ST.out _ RB9 | exact ST.out _ (RB.below hcur)
          clear hK K hHeld
          intro hHeld
          try simp only [Act.put, List.setIfInBounds_toArray, List.set_cons_zero, List.set_cons_succ]
          refine wpAnyH_ready (rs := [4, 8]) (by kernel_rfl) (by simp) ?_
          refine (AllReadyH.cons (o := ⟨some 30, .buildSlice 41 3 #[(0, .tmp 27), (1, .tmp 28), (2, .tmp 29)], 41, "given.go:15", #[⟨1, .data⟩, ⟨2, .data⟩, ⟨3, .data⟩], none⟩) rfl (fun K hK => ?_) (AllReadyH.cons (o := ⟨some 34, .buildSlice 41 2 #[(0, .tmp 32), (1, .tmp 33)], 41, "given.go:15", #[⟨6, .data⟩, ⟨7, .data⟩], none⟩) rfl (fun K hK => ?_) AllReadyH.nil))
          · have hdum := True.intro
            go_simp
            have q4 := geOf IC hcur; have K4 := blkOf hcur #[.string ⟨#[114, 117, 110]⟩, .string ⟨#[40, 41, 86]⟩, .bool false, .bool false, .int .i64 0, .int .i64 1, .slice (some ⟨gq, 0, none⟩) 1 1, .slice none 0 0, .slice none 0 0, .string ⟨#[115, 116, 97, 114, 116]⟩, .string ⟨#[40, 41, 86]⟩, .bool false, .bool true, .int .i64 0, .int .i64 0, .slice none 0 0, .slice none 0 0, .slice none 0 0, .string ⟨#[106, 111, 105, 110]⟩, .string ⟨#[40, 41, 86]⟩, .bool false, .bool true, .int .i64 0, .int .i64 0, .slice none 0 0, .slice none 0 0, .slice none 0 0] 30; (try simp only [World.size_alloc] at K4 q4); (try (have K8 := K8.alloc (.cells #[.string ⟨#[114, 117, 110]⟩, .string ⟨#[40, 41, 86]⟩, .bool false, .bool false, .int .i64 0, .int .i64 1, .slice (some ⟨gq, 0, none⟩) 1 1, .slice none 0 0, .slice none 0 0, .string ⟨#[115, 116, 97, 114, 116]⟩, .string ⟨#[40, 41, 86]⟩, .bool false, .bool true, .int .i64 0, .int .i64 0, .slice none 0 0, .slice none 0 0, .slice none 0 0, .string ⟨#[106, 111, 105, 110]⟩, .string ⟨#[40, 41, 86]⟩, .bool false, .bool true, .int .i64 0, .int .i64 0, .slice none 0 0, .slice none 0 0, .slice none 0 0] 30))); have hcur := allocOf hcur (.cells #[.string ⟨#[114, 117, 110]⟩, .string ⟨#[40, 41, 86]⟩, .bool false, .bool false, .int .i64 0, .int .i64 1, .slice (some ⟨gq, 0, none⟩) 1 1, .slice none 0 0, .slice none 0 0, .string ⟨#[115, 116, 97, 114, 116]⟩, .string ⟨#[40, 41, 86]⟩, .bool false, .bool true, .int .i64 0, .int .i64 0, .slice none 0 0, .slice none 0 0, .slice none 0 0, .string ⟨#[106, 111, 105, 110]⟩, .string ⟨#[40, 41, 86]⟩, .bool false, .bool true, .int .i64 0, .int .i64 0, .slice none 0 0, .slice none 0 0, .slice none 0 0] 30)
            try go_wp2_with fail
            refine hK.out _ _ ?hSg_24 ?restg_24
            case hSg_24 => (try dsimp only); first | exact ST.out _ RB9 | exact ST.out _ (RB.below hcur)
            clear hK K hHeld
            intro hHeld
            try simp only [Act.put, List.setIfInBounds_toArray, List.set_cons_zero, List.set_cons_succ]
            refine tk 5 ⟨some 31, .build 43 #[(0, .const (.string { data := #[84, 104, 114, 101, 97, 100] })), (1, .const (.string { data := #[79, 98, 106, 101, 99, 116] })), (4, .tmp 30)], 43, "given.go:15", #[⟨4, .data⟩], none⟩ ?vg_25 rfl (fun _ _ _ h => h) (.inl ⟨by rfl, ?hyg_25⟩) (by assumption) ?restg_25
            case hyg_25 => intro w hSw; (try dsimp only at hSw); go_simp; try with_reducible rfl
            try simp only [Act.put, List.setIfInBounds_toArray, List.set_cons_zero, List.set_cons_succ]
            refine wpAnyH_ready (rs := [8]) (by kernel_rfl) (by simp) ?_
            refine AllReadyH.cons (o := ⟨some 34, .buildSlice 41 2 #[(0, .tmp 32), (1, .tmp 33)], 41, "given.go:15", #[⟨6, .data⟩, ⟨7, .data⟩], none⟩) rfl (fun K hK => ?_) AllReadyH.nil
            go_simp
            have q8 := geOf IC hcur; have K8 := blkOf hcur #[.string ⟨#[112, 114, 105, 110, 116]⟩, .string ⟨#[40, 73, 41, 86]⟩, .bool true, .bool true, .int .i64 0, .int .i64 0, .slice none 0 0, .slice none 0 0, .slice none 0 0, .string ⟨#[115, 108, 101, 101, 112]⟩, .string ⟨#[40, 73, 41, 86]⟩, .bool true, .bool true, .int .i64 0, .int .i64 0, .slice none 0 0, .slice none 0 0, .slice none 0 0] 30; (try simp only [World.size_alloc] at K8 q8); (try (have K4 := K4.alloc (.cells #[.string ⟨#[112, 114, 105, 110, 116]⟩, .string ⟨#[40, 73, 41, 86]⟩, .bool true, .bool true, .int .i64 0, .int .i64 0, .slice none 0 0, .slice none 0 0, .slice none 0 0, .string ⟨#[115, 108, 101, 101, 112]⟩, .string ⟨#[40, 73, 41, 86]⟩, .bool true, .bool true, .int .i64 0, .int .i64 0, .slice none 0 0, .slice none 0 0, .slice none 0 0] 30))); have hcur := allocOf hcur (.cells #[.string ⟨#[112, 114, 105, 110, 116]⟩, .string ⟨#[40, 73, 41, 86]⟩, .bool true, .bool true, .int .i64 0, .int .i64 0, .slice none 0 0, .slice none 0 0, .slice none 0 0, .string ⟨#[115, 108, 101, 101, 112]⟩, .string ⟨#[40, 73, 41, 86]⟩, .bool true, .bool true, .int .i64 0, .int .i64 0, .slice none 0 0, .slice none 0 0, .slice none 0 0] 30)
            try go_wp2_with fail
            refine hK.out _ _ ?hSg_26 ?restg_26
            case hSg_26 => (try dsimp only); first | exact ST.out _ RB9 | exact ST.out _ (RB.below hcur)
            clear hK K hHeld
            intro hHeld
            try simp only [Act.put, List.setIfInBounds_toArray, List.set_cons_zero, List.set_cons_succ]
            refine tk 9 ⟨some 35, .build 43 #[(0, .const (.string { data := #[83, 121, 115, 116, 101, 109] })), (1, .const (.string { data := #[79, 98, 106, 101, 99, 116] })), (4, .tmp 34)], 43, "given.go:15", #[⟨8, .data⟩], none⟩ ?vg_27 rfl (fun _ _ _ h => h) (.inl ⟨by rfl, ?hyg_27⟩) (by assumption) ?restg_27
            case hyg_27 => intro w hSw; (try dsimp only at hSw); go_simp; try with_reducible rfl
            try simp only [Act.put, List.setIfInBounds_toArray, List.set_cons_zero, List.set_cons_succ]
            refine wpAnyH_ready (rs := [10]) (by kernel_rfl) (by simp) ?_
            refine AllReadyH.cons (o := ⟨some 36, .buildSlice 35 2 #[(0, .tmp 31), (1, .tmp 35)], 35, "given.go:15", #[⟨5, .data⟩, ⟨9, .data⟩], none⟩) rfl (fun K hK => ?_) AllReadyH.nil
            go_simp
            obtain ⟨K10, hcur, K4, K8⟩ := cls10 hcur K4 K8; (try simp only [World.size_alloc] at K10)
            try go_wp2_with fail
            refine hK.out _ _ ?hSg_28 ?restg_28
            case hSg_28 => (try dsimp only); first | exact ST.out _ RB9 | exact ST.out _ (RB.below hcur)
            clear hK K hHeld
            intro hHeld
            try simp only [Act.put, List.setIfInBounds_toArray, List.set_cons_zero, List.set_cons_succ]
            refine wpAnyH_ready (rs := [11]) (by kernel_rfl) (by simp) ?_
            refine AllReadyH.cons (o := ⟨some 37, .call { callee := .builtin .append, args := #[.tmp 26, .tmp 36], argTypes := #[35, 35] }, 35, "given.go:15", #[⟨0, .data⟩, ⟨10, .data⟩, ⟨7, .chain⟩], none⟩) rfl (fun K hK => ?_) AllReadyH.nil
            have I9 := IC.below hcur
            have o9 := I9.o
            rw [hlen] at o9
            obtain ⟨v9, w9, hr9, ho9, hg9, _, hat9⟩ := run_append_own_at (P := Tryz.prog) _ w.heap.size 35 35 43 i0 (.agg #[.string ⟨#[]⟩, .string ⟨#[]⟩, .slice none 0 0, .slice none 0 0, .slice none 0 0]) 5 104 Tryz.underlying35 hi hz0 hz1 hz2 rfl (by decide) _ _ _ o9 _ 2 2 _ rfl (World.news_of_block K10) (by intro u hu; simp at hu; rcases hu with rfl | rfl | rfl | rfl | rfl | rfl | rfl | rfl | rfl | rfl <;> rfl) (by unfold maxLen; omega) (by omega) I9.B.size
            have RB9 := blkGrown (RB.below hcur) hg9 (own_not I9.o (RB.below hcur) (by decide))
            have FIN := gvFin I9 q4 q8 hgq K4 K8 (QB.below hcur) hlen ho9 hg9 hat9
            refine op_append (v := .slice (some ⟨ga, 0, none⟩) (2 + 9) gc) (vb := .slice (some ⟨_, 0, none⟩) 2 2) rfl rfl rfl rfl hr9 ?_
            refine hK.out _ _ ?hSg_29 ?restg_29
            case hSg_29 => (try dsimp only); first | exact ST.out _ RB9 | exact ST.out _ (RB.below hcur)
            clear hK K hHeld
            intro hHeld
            try simp only [Act.put, List.setIfInBounds_toArray, List.set_cons_zero, List.set_cons_succ]
            refine tk 12 ⟨some 0, .assign (.tmp 37), 35, "given.go:15", #[⟨11, .data⟩, ⟨11, .chain⟩, ⟨0, .phase⟩, ⟨1, .phase⟩, ⟨2, .phase⟩, ⟨3, .phase⟩, ⟨4, .phase⟩, ⟨5, .phase⟩, ⟨6, .phase⟩, ⟨7, .phase⟩, ⟨8, .phase⟩, ⟨9, .phase⟩, ⟨10, .phase⟩, ⟨11, .phase⟩], none⟩ ?vg_30 rfl (fun _ _ _ h => h) (.inl ⟨by rfl, ?hyg_30⟩) (by assumption) ?restg_30
            case hyg_30 => intro w hSw; (try dsimp only at hSw); go_simp; try with_reducible rfl
            try simp only [Act.put, List.setIfInBounds_toArray, List.set_cons_zero]
            refine wpAnyH_done (by kernel_rfl) ?_ _
            refine NoPanic.normal ?_
            go_wp2
            go_ret
            exact ⟨_, rfl, _, FIN⟩
          · have hdum := True.intro
            go_simp
            have q8 := geOf IC hcur; have K8 := blkOf hcur #[.string ⟨#[112, 114, 105, 110, 116]⟩, .string ⟨#[40, 73, 41, 86]⟩, .bool true, .bool true, .int .i64 0, .int .i64 0, .slice none 0 0, .slice none 0 0, .slice none 0 0, .string ⟨#[115, 108, 101, 101, 112]⟩, .string ⟨#[40, 73, 41, 86]⟩, .bool true, .bool true, .int .i64 0, .int .i64 0, .slice none 0 0, .slice none 0 0, .slice none 0 0] 30; (try simp only [World.size_alloc] at K8 q8); (try (have K4 := K4.alloc (.cells #[.string ⟨#[112, 114, 105, 110, 116]⟩, .string ⟨#[40, 73, 41, 86]⟩, .bool true, .bool true, .int .i64 0, .int .i64 0, .slice none 0 0, .slice none 0 0, .slice none 0 0, .string ⟨#[115, 108, 101, 101, 112]⟩, .string ⟨#[40, 73, 41, 86]⟩, .bool true, .bool true, .int .i64 0, .int .i64 0, .slice none 0 0, .slice none 0 0, .slice none 0 0] 30))); have hcur := allocOf hcur (.cells #[.string ⟨#[112, 114, 105, 110, 116]⟩, .string ⟨#[40, 73, 41, 86]⟩, .bool true, .bool true, .int .i64 0, .int .i64 0, .slice none 0 0, .slice none 0 0, .slice none 0 0, .string ⟨#[115, 108, 101, 101, 112]⟩, .string ⟨#[40, 73, 41, 86]⟩, .bool true, .bool true, .int .i64 0, .int .i64 0, .slice none 0 0, .slice none 0 0, .slice none 0 0] 30)
            try go_wp2_with fail
            refine hK.out _ _ ?hSg_31 ?restg_31
            case hSg_31 => (try dsimp only); first | exact ST.out _ RB9 | exact ST.out _ (RB.below hcur)
            clear hK K hHeld
            intro hHeld
            try simp only [Act.put, List.setIfInBounds_toArray, List.set_cons_zero, List.set_cons_succ]
            refine tk 9 ⟨some 35, .build 43 #[(0, .const (.string { data := #[83, 121, 115, 116, 101, 109] })), (1, .const (.string { data := #[79, 98, 106, 101, 99, 116] })), (4, .tmp 34)], 43, "given.go:15", #[⟨8, .data⟩], none⟩ ?vg_32 rfl (fun _ _ _ h => h) (.inl ⟨by rfl, ?hyg_32⟩) (by assumption) ?restg_32
            case hyg_32 => intro w hSw; (try dsimp only at hSw); go_simp; try with_reducible rfl
            try simp only [Act.put, List.setIfInBounds_toArray, List.set_cons_zero, List.set_cons_succ]
            refine wpAnyH_ready (rs := [4]) (by kernel_rfl) (by simp) ?_
            refine AllReadyH.cons (o := ⟨some 30, .buildSlice 41 3 #[(0, .tmp 27), (1, .tmp 28), (2, .tmp 29)], 41, "given.go:15", #[⟨1, .data⟩, ⟨2, .data⟩, ⟨3, .data⟩], none⟩) rfl (fun K hK => ?_) AllReadyH.nil
            go_simp
            have q4 := geOf IC hcur; have K4 := blkOf hcur #[.string ⟨#[114, 117, 110]⟩, .string ⟨#[40, 41, 86]⟩, .bool false, .bool false, .int .i64 0, .int .i64 1, .slice (some ⟨gq, 0, none⟩) 1 1, .slice none 0 0, .slice none 0 0, .string ⟨#[115, 116, 97, 114, 116]⟩, .string ⟨#[40, 41, 86]⟩, .bool false, .bool true, .int .i64 0, .int .i64 0, .slice none 0 0, .slice none 0 0, .slice none 0 0, .string ⟨#[106, 111, 105, 110]⟩, .string ⟨#[40, 41, 86]⟩, .bool false, .bool true, .int .i64 0, .int .i64 0, .slice none 0 0, .slice none 0 0, .slice none 0 0] 30; (try simp only [World.size_alloc] at K4 q4); (try (have K8 := K8.alloc (.cells #[.string ⟨#[114, 117, 110]⟩, .string ⟨#[40, 41, 86]⟩, .bool false, .bool false, .int .i64 0, .int .i64 1, .slice (some ⟨gq, 0, none⟩) 1 1, .slice none 0 0, .slice none 0 0, .string ⟨#[115, 116, 97, 114, 116]⟩, .string ⟨#[40, 41, 86]⟩, .bool false, .bool true, .int .i64 0, .int .i64 0, .slice none 0 0, .slice none 0 0, .slice none 0 0, .string ⟨#[106, 111, 105, 110]⟩, .string ⟨#[40, 41, 86]⟩, .bool false, .bool true, .int .i64 0, .int .i64 0, .slice none 0 0, .slice none 0 0, .slice none 0 0] 30))); have hcur := allocOf hcur (.cells #[.string ⟨#[114, 117, 110]⟩, .string ⟨#[40, 41, 86]⟩, .bool false, .bool false, .int .i64 0, .int .i64 1, .slice (some ⟨gq, 0, none⟩) 1 1, .slice none 0 0, .slice none 0 0, .string ⟨#[115, 116, 97, 114, 116]⟩, .string ⟨#[40, 41, 86]⟩, .bool false, .bool true, .int .i64 0, .int .i64 0, .slice none 0 0, .slice none 0 0, .slice none 0 0, .string ⟨#[106, 111, 105, 110]⟩, .string ⟨#[40, 41, 86]⟩, .bool false, .bool true, .int .i64 0, .int .i64 0, .slice none 0 0, .slice none 0 0, .slice none 0 0] 30)
            try go_wp2_with fail
            refine hK.out _ _ ?hSg_33 ?restg_33
            case hSg_33 => (try dsimp only); first | exact ST.out _ RB9 | exact ST.out _ (RB.below hcur)
            clear hK K hHeld
            intro hHeld
            try simp only [Act.put, List.setIfInBounds_toArray, List.set_cons_zero, List.set_cons_succ]
            refine tk 5 ⟨some 31, .build 43 #[(0, .const (.string { data := #[84, 104, 114, 101, 97, 100] })), (1, .const (.string { data := #[79, 98, 106, 101, 99, 116] })), (4, .tmp 30)], 43, "given.go:15", #[⟨4, .data⟩], none⟩ ?vg_34 rfl (fun _ _ _ h => h) (.inl ⟨by rfl, ?hyg_34⟩) (by assumption) ?restg_34
            case hyg_34 => intro w hSw; (try dsimp only at hSw); go_simp; try with_reducible rfl
            try simp only [Act.put, List.setIfInBounds_toArray, List.set_cons_zero, List.set_cons_succ]
            refine wpAnyH_ready (rs := [10]) (by kernel_rfl) (by simp) ?_
            refine AllReadyH.cons (o := ⟨some 36, .buildSlice 35 2 #[(0, .tmp 31), (1, .tmp 35)], 35, "given.go:15", #[⟨5, .data⟩, ⟨9, .data⟩], none⟩) rfl (fun K hK => ?_) AllReadyH.nil
            go_simp
            obtain ⟨K10, hcur, K4, K8⟩ := cls10 hcur K4 K8; (try simp only [World.size_alloc] at K10)
            try go_wp2_with fail
            refine hK.out _ _ ?hSg_35 ?restg_35
            case hSg_35 => (try dsimp only); first | exact ST.out _ RB9 | exact ST.out _ (RB.below hcur)
            clear hK K hHeld
            intro hHeld
            try simp only [Act.put, List.setIfInBounds_toArray, List.set_cons_zero, List.set_cons_succ]
            refine wpAnyH_ready (rs := [11]) (by kernel_rfl) (by simp) ?_
            refine AllReadyH.cons (o := ⟨some 37, .call { callee := .builtin .append, args := #[.tmp 26, .tmp 36], argTypes := #[35, 35] }, 35, "given.go:15", #[⟨0, .data⟩, ⟨10, .data⟩, ⟨7, .chain⟩], none⟩) rfl (fun K hK => ?_) AllReadyH.nil
            have I9 := IC.below hcur
            have o9 := I9.o
            rw [hlen] at o9
            obtain ⟨v9, w9, hr9, ho9, hg9, _, hat9⟩ := run_append_own_at (P := Tryz.prog) _ w.heap.size 35 35 43 i0 (.agg #[.string ⟨#[]⟩, .string ⟨#[]⟩, .slice none 0 0, .slice none 0 0, .slice none 0 0]) 5 104 Tryz.underlying35 hi hz0 hz1 hz2 rfl (by decide) _ _ _ o9 _ 2 2 _ rfl (World.news_of_block K10) (by intro u hu; simp at hu; rcases hu with rfl | rfl | rfl | rfl | rfl | rfl | rfl | rfl | rfl | rfl <;> rfl) (by unfold maxLen; omega) (by omega) I9.B.size
            have RB9 := blkGrown (RB.below hcur) hg9 (own_not I9.o (RB.below hcur) (by decide))
            have FIN := gvFin I9 q4 q8 hgq K4 K8 (QB.below hcur) hlen ho9 hg9 hat9
            refine op_append (v := .slice (some ⟨ga, 0, none⟩) (2 + 9) gc) (vb := .slice (some ⟨_, 0, none⟩) 2 2) rfl rfl rfl rfl hr9 ?_
            refine hK.out _ _ ?hSg_36 ?restg_36
            case hSg_36 => (try dsimp only); first | exact ST.out _ RB9 | exact ST.out _ (RB.below hcur)
            clear hK K hHeld
            intro hHeld
            try simp only [Act.put, List.setIfInBounds_toArray, List.set_cons_zero, List.set_cons_succ]
            refine tk 12 ⟨some 0, .assign (.tmp 37), 35, "given.go:15", #[⟨11, .data⟩, ⟨11, .chain⟩, ⟨0, .phase⟩, ⟨1, .phase⟩, ⟨2, .phase⟩, ⟨3, .phase⟩, ⟨4, .phase⟩, ⟨5, .phase⟩, ⟨6, .phase⟩, ⟨7, .phase⟩, ⟨8, .phase⟩, ⟨9, .phase⟩, ⟨10, .phase⟩, ⟨11, .phase⟩], none⟩ ?vg_37 rfl (fun _ _ _ h => h) (.inl ⟨by rfl, ?hyg_37⟩) (by assumption) ?restg_37
            case hyg_37 => intro w hSw; (try dsimp only at hSw); go_simp; try with_reducible rfl
            try simp only [Act.put, List.setIfInBounds_toArray, List.set_cons_zero]
            refine wpAnyH_done (by kernel_rfl) ?_ _
            refine NoPanic.normal ?_
            go_wp2
            go_ret
            exact ⟨_, rfl, _, FIN⟩
end Go.Proofs.YtccbgdbipihoaaaGreat.K
