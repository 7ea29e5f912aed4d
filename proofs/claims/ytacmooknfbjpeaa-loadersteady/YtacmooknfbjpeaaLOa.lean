/- LoaderSteady: name, rows. -/
import Derived.Test.YtacmooknfbjpeaaLJa
import Derived.Test.YtacmooknfbjpeaaLSp
import Derived.Test.YtacmooknfbjpeaaGOa
import Derived.Deep.CutBlock
import Derived.Deep.CutRange
namespace Go.Proofs.Ytacmooknfbjpeaa.J
open Go.RowKit Go.MapKept Go.ChangeMaps
set_option linter.unusedVariables false
variable {n0 : Nat} {w : World} {S : Ls}

theorem tmod5 (a : Nat) : ∃ q : Nat, q < 5 ∧ (a : Int).tmod 5 = (q : Int) := by
  have h1 := Int.emod_nonneg (a : Int) (show (5 : Int) ≠ 0 by omega)
  have h2 := Int.emod_lt_of_pos (a : Int) (show (0 : Int) < 5 by omega)
  refine ⟨((a : Int) % 5).toNat, by omega, ?_⟩
  rw [Int.tmod_eq_emod_of_nonneg (by omega)]
  omega
set_option maxRecDepth 8000 in
set_option maxHeartbeats 2000000 in
theorem name0_any (n : Int) (hn : -9223372036854775808 ≤ n ∧ n ≤ 9223372036854775807) (w : World) : Calls Try.prog 16 #[.string ⟨#[]⟩, .int .i64 n] w fun e w' => ∃ s, e = .returned (.string s) ∧ Below w.heap.size w w' := by
  by_cases h : n < 0
  · obtain ⟨a, ha⟩ : ∃ a : Nat, -(n + 1) = (a : Int) := ⟨(-(n + 1)).toNat, by omega⟩
    have h2 : wrap64 (n + 1) = n + 1 := IntWalk.wrap64_in _ (by omega)
    have h3 : wrap64 (-(n + 1)) = (a : Int) := by rw [IntWalk.wrap64_in _ (by omega), ha]
    obtain ⟨q, hq, ht⟩ := tmod5 a
    have hq5 : q = 0 ∨ q = 1 ∨ q = 2 ∨ q = 3 ∨ q = 4 := by omega
    rcases hq5 with rfl | rfl | rfl | rfl | rfl <;>
      (go_enter Try.func16, Try.ntmps16
       go_wp2_with fail
       go_ret
       first | exact ⟨_, rfl, balloc _ _⟩ | exact ⟨⟨_, rfl⟩, balloc _ _⟩)
  · obtain ⟨a, rfl⟩ : ∃ a : Nat, n = (a : Int) := ⟨n.toNat, by omega⟩
    obtain ⟨q, hq, ht⟩ := tmod5 a
    have hq5 : q = 0 ∨ q = 1 ∨ q = 2 ∨ q = 3 ∨ q = 4 := by omega
    rcases hq5 with rfl | rfl | rfl | rfl | rfl <;>
      (go_enter Try.func16, Try.ntmps16
       go_wp2_with fail
       go_ret
       first | exact ⟨_, rfl, balloc _ _⟩ | exact ⟨⟨_, rfl⟩, balloc _ _⟩)
def gotC : List (Int × Int × ByteArray) → List Value
  | [] => []
  | g :: l => [.int .i64 g.1, .int .i64 g.2.1, .string g.2.2] ++ gotC l
def pacC : List (Int × Int × ByteArray) → List Value
  | [] => []
  | g :: l => [.int .i64 0, .int .i64 g.1, .int .i64 g.2.1, .int .i64 0, .string g.2.2, .string ⟨#[]⟩] ++ pacC l
theorem gotC_snoc (x : Int × Int × ByteArray) : ∀ l, gotC (l ++ [x]) = gotC l ++ [.int .i64 x.1, .int .i64 x.2.1, .string x.2.2]
  | [] => by simp [gotC]
  | y :: l => by simp only [List.cons_append, gotC, gotC_snoc x l, List.append_assoc]
theorem pacC_snoc (x : Int × Int × ByteArray) : ∀ l, pacC (l ++ [x]) = pacC l ++ [.int .i64 0, .int .i64 x.1, .int .i64 x.2.1, .int .i64 0, .string x.2.2, .string ⟨#[]⟩]
  | [] => by simp [pacC]
  | y :: l => by simp only [List.cons_append, pacC, pacC_snoc x l, List.append_assoc]
theorem gotC_at : ∀ (l : List (Int × Int × ByteArray)) (i : Nat) (x : Int × Int × ByteArray) (j : Nat), l[i]? = some x → j < 3 → (gotC l)[i * 3 + j]? = ([.int .i64 x.1, .int .i64 x.2.1, .string x.2.2] : List Value)[j]?
  | [], i, x, j, h, hj => by simp at h
  | y :: l, 0, x, j, h, hj => by
    simp only [List.getElem?_cons_zero, Option.some.injEq] at h
    subst h
    simp only [gotC, Nat.zero_mul, Nat.zero_add]
    rw [List.getElem?_append_left (by simp; omega)]
  | y :: l, i + 1, x, j, h, hj => by
    simp only [gotC]
    rw [List.getElem?_append_right (by simp; omega), show (i + 1) * 3 + j - List.length ([.int .i64 y.1, .int .i64 y.2.1, .string y.2.2] : List Value) = i * 3 + j by simp only [List.length_cons, List.length_nil]; omega, gotC_at l i x j (by simpa using h) hj]
theorem pacC_at : ∀ (l : List (Int × Int × ByteArray)) (i : Nat) (x : Int × Int × ByteArray) (j : Nat), l[i]? = some x → j < 6 → (pacC l)[i * 6 + j]? = ([.int .i64 0, .int .i64 x.1, .int .i64 x.2.1, .int .i64 0, .string x.2.2, .string ⟨#[]⟩] : List Value)[j]?
  | [], i, x, j, h, hj => by simp at h
  | y :: l, 0, x, j, h, hj => by
    simp only [List.getElem?_cons_zero, Option.some.injEq] at h
    subst h
    simp only [pacC, Nat.zero_mul, Nat.zero_add]
    rw [List.getElem?_append_left (by simp; omega)]
  | y :: l, i + 1, x, j, h, hj => by
    simp only [pacC]
    rw [List.getElem?_append_right (by simp; omega), show (i + 1) * 6 + j - List.length ([.int .i64 0, .int .i64 y.1, .int .i64 y.2.1, .int .i64 0, .string y.2.2, .string ⟨#[]⟩] : List Value) = i * 6 + j by simp only [List.length_cons, List.length_nil]; omega, pacC_at l i x j (by simpa using h) hj]
theorem Try.infoGot : (Try.prog.info? 49).map (fun i => (i.zero, i.size, i.bytes)) = some (some (.agg #[.int .i64 0, .int .i64 0, .string ⟨#[]⟩]), 3, 32) := by kernel_rfl
theorem Try.infoAsk : (Try.prog.info? 38).map (fun i => (i.zero, i.size, i.bytes)) = some (some (.agg #[.int .i64 0, .int .i64 0, .int .i64 0, .int .i64 0, .string ⟨#[]⟩, .string ⟨#[]⟩]), 6, 64) := by kernel_rfl
theorem own_stp {w w' : World} {B T k n : Nat} {v : Value} {xs : List Value} (h : w.ownsRow B T k v n xs) (s : LStp n0 w w') (h1 : T ≠ 56) (h2 : T ≠ 64) (h3 : T ≠ 3) : w'.ownsRow B T k v n xs :=
  own_kept h fun b e => by
    obtain ⟨c, fz, h'⟩ := Lib.ownsRow_kind h b e
    exact s.keep b c T fz h1 h2 h3 h'
/-- A row of another type grows. -/
theorem LAt.grown {w w' : World} {b B T k n : Nat} {v v' : Value} {xs row : List Value} (h : LAt n0 b w S) (ho : w.ownsRow B T k v n xs) (st : Step v (w.alloc (.cells row.toArray T)) v' w') (h1 : T ≠ 56) (h2 : T ≠ 64) (h3 : T ≠ 3) : LAt n0 b w' S := by
  obtain ⟨H, h, e⟩ := h
  refine ⟨H, h.kept fun q hq => ?_, e⟩
  have hlt := (h.lt hq).2
  refine (st.grown.block q (by simp; omega) fun e2 => ?_).trans (Below.heap_alloc w _ _ hlt)
  obtain ⟨c, fz, h'⟩ := Lib.ownsRow_kind ho q e2.symm
  exact h.other h1 h2 h3 h' hq
theorem own_grown {w w' : World} {B T k n B2 T2 k2 n2 : Nat} {v v' v2 : Value} {xs row xs2 : List Value} (h2 : w.ownsRow B2 T2 k2 v2 n2 xs2) (ho : w.ownsRow B T k v n xs) (st : Step v (w.alloc (.cells row.toArray T)) v' w') (ht : T2 ≠ T) : w'.ownsRow B2 T2 k2 v2 n2 xs2 :=
  own_kept h2 fun b e => (st.grown.block b (by have := (h2.lt b e).2; simp; omega) fun e2 => own_apart h2 ho ht e e2.symm).trans (Below.heap_alloc w _ _ (h2.lt b e).2)
theorem below_app {w w' : World} {B T : Nat} {v v' : Value} {row : List Value} (st : Step v (w.alloc (.cells row.toArray T)) v' w') (hB : B ≤ w.heap.size) (hv : ∀ k, v.ownBlock = some k → B ≤ k) : Below B w w' :=
  ((balloc w _).mono hB).trans (st.below (by simp; omega) hv)
theorem LAt.par {w : World} {b : Nat} (h : LAt n0 b w S) : ParOk S ∧ RlOk S ∧ S.each.length ≤ 16 := by
  obtain ⟨H, h, _⟩ := h
  exact ⟨h.par, h.rlOk, h.few⟩
/-- Between two calls. -/
def StI (n0 : Nat) (w0 : World) (b i : Nat) (hv pv : Value) (W : World) : Prop := ∃ (S : Ls) (hl pl : List (Int × Int × ByteArray)), hl.length ≤ i ∧ pl.length ≤ i ∧ LAt n0 b W S ∧ Sdy S hl pl ∧ W.ownsRow n0 49 3 hv hl.length (gotC hl) ∧ W.ownsRow n0 38 6 pv pl.length (pacC pl) ∧ Below n0 w0 W
end Go.Proofs.Ytacmooknfbjpeaa.J
