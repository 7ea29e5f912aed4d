/- Encode of a valid text gives its modified UTF-8 in new memory; of a text that is not valid it gives ErrForm. -/
import Derived.Test.YthagaldpopnoeaaGreatDoorBase
import Derived.Lib.OthersKept
import Derived.Lib.ValidU
import Derived.Lib.DecodeN
import Derived.Deep.LoopGhost
namespace Go.Proofs.YthagaldpopnoeaaGreatDoor
open Go.RowKit

/-- What Encode makes of the text from 'pos' on. -/
def encFrom (s : ByteArray) : Nat → Nat → List Int
  | 0, _ => []
  | f + 1, pos => if pos < s.size then mcode (Utf8.decode s pos).1 ++ encFrom s f (pos + (Utf8.decode s pos).2) else []
def encZ (s : ByteArray) : List Int := encFrom s s.size 0

theorem mcode_len (r : Int) : (mcode r).length ≤ 6 := by
  unfold mcode; split; · simp
  split; · simp
  split <;> simp
theorem encFrom_end (s : ByteArray) (fuel pos : Nat) (h : ¬ pos < s.size) : encFrom s fuel pos = [] := by cases fuel <;> simp [encFrom, h]
theorem encFrom_len (s : ByteArray) : ∀ fuel pos, (encFrom s fuel pos).length ≤ 6 * fuel
  | 0, _ => by simp [encFrom]
  | f + 1, pos => by
    unfold encFrom
    split
    · have := mcode_len ((Utf8.decode s pos).1 : Int)
      have := encFrom_len s f (pos + (Utf8.decode s pos).2)
      rw [List.length_append]; omega
    · simp
theorem width_pos (s : ByteArray) (pos : Nat) (h : pos < s.size) : 1 ≤ (Utf8.decode s pos).2 := by
  by_cases ha : (s[pos]'h).toNat < 128
  · rw [decode_ascii s pos h ha]
    exact Nat.le_refl _
  · exact (decode_high s pos h (by omega)).2
theorem decode_rune (s : ByteArray) (pos : Nat) : (Utf8.decode s pos).1 ≤ 1114111 := by
  rw [Lib.decode_at]
  unfold Lib.decodeN
  repeat' split
  all_goals (simp only []; omega)

/-- A row of bytes is not where an iterator stands. -/
theorem own_ne_iter {w : World} {B e size : Nat} {v : Value} {n : Nat} {xs : List Value} {k : Nat} {s : ByteArray} {pos : Nat} (h : w.ownsRow B e size v n xs) (hk : w.heap[k]? = some (.stringIter s pos)) : some k ≠ v.ownBlock := by
  intro e1
  rcases h.2 with ⟨rfl, _⟩ | ⟨g, cap, cur, rfl, _, hg, _⟩
  · simp [Value.ownBlock] at e1
  · simp [Value.ownBlock] at e1
    subst e1
    rw [hk] at hg; cases hg
theorem own_iterAt {w : World} {B e size : Nat} {v : Value} {n : Nat} {xs : List Value} {k : Nat} {s : ByteArray} {pos : Nat} (h : w.ownsRow B e size v n xs) (hk : w.heap[k]? = some (.stringIter s pos)) (pos' : Nat) : (w.iterAt k s pos').ownsRow B e size v n xs := by
  have hne := own_ne_iter h hk
  refine ⟨h.1, ?_⟩
  rcases h.2 with h2 | ⟨g, cap, cur, rfl, hB, hg, r⟩
  · exact .inl h2
  · refine .inr ⟨g, cap, cur, rfl, hB, ?_, r⟩
    rw [Lib.iterAt_other w k g s pos' (fun e => hne (by simp [Value.ownBlock, e]))]; exact hg

set_option maxRecDepth 8000 in
set_option maxHeartbeats 2000000 in
theorem encode_bad (s : ByteArray) (w : World)
    (hV : Calls Tryz.prog 168 #[.string s] w fun e w' => e = .returned (.bool false) ∧ Below w.heap.size w w') :
    Calls Tryz.prog 132 #[.string s] w fun e w' => e = .returned (.tuple #[.slice none 0 0, .int .i64 12]) ∧ Below w.heap.size w w' := by
  go_enter Tryz.func132, Tryz.ntmps132
  go_wp2_with (go_at_call 168; refine hV.mono ?_; rintro e w' ⟨rfl, hb⟩)
  go_ret2
  exact ⟨rfl, hb⟩

set_option maxRecDepth 8000 in
set_option maxHeartbeats 2000000 in
theorem encode_ok (s : ByteArray) (w : World) (hs : s.size ≤ 1099511627776)
    (hV : Calls Tryz.prog 168 #[.string s] w fun e w' => e = .returned (.bool true) ∧ Below w.heap.size w w') :
    Calls Tryz.prog 132 #[.string s] w fun e w' => Below w.heap.size w w' ∧
      ∃ v, e = .returned (.tuple #[v, .int .i64 0]) ∧ w'.ownsRow w.heap.size 5 1 v (encZ s).length (bcells (encZ s)) := by
  go_enter Tryz.func132, Tryz.ntmps132
  obtain ⟨i0, hi, hz0, hz1, hz2⟩ := info_parts Tryz.info5
  go_wp2_with (first
    | (go_at_call 168; refine hV.mono ?_; rintro e w1 ⟨rfl, hb⟩)
    | (at_make; refine wpList_make_own _ rfl _ _ 22 rfl w.heap.size 5 i0 (.int .u8 0) 1 Tryz.underlying22 hi hz0 hz1 _ _ _ s.size rfl rfl (by omega) (by rw [hz2]; omega) (by unfold maxLen; omega) hb.size ?_; intro w2 hown hgrow))
  have hb2 : Below w.heap.size w w2 := hb.grown hgrow hb.size (fun k h => by cases h)
  have hz2 := hb2.size
  clear hV hb hgrow hz0 hz1 hi
  go_loopw [4] (fun b wr => ∃ (pos fuel : Nat) (acc : List Int), wr.ownsRow w.heap.size 5 1 b acc.length (bcells acc) ∧ wr.heap[w2.heap.size]? = some (.stringIter s pos) ∧ Below w.heap.size w wr ∧ acc ++ encFrom s fuel pos = encZ s ∧ s.size ≤ pos + fuel ∧ acc.length ≤ 6 * pos) (fun _ wr => s.size - wr.iterPos w2.heap.size)
  case atStart =>
    refine ⟨0, s.size, [], hown.alloc _, ?_, hb2.alloc hz2 _, rfl, by omega, by simp⟩
    simpa using World.iter_heap w2 s 0
  case round =>
    obtain ⟨pos, fuel, acc, hI, hit, hbw, hacc, hfu, hal⟩ := hrel
    have hsz : w2.heap.size < wr.heap.size := (Array.getElem?_eq_some_iff.1 hit).1
    by_cases hp : pos < s.size
    · have hnx : ∀ ty, (Instr.next (.pointer (some ⟨w2.heap.size, 0, none⟩)) true ty).run Tryz.prog wr = _ := fun ty => Lib.run_next_any_at wr w2.heap.size s pos ty hit hp
      have hwd := width_pos s pos hp
      have hd1 := decode_rune s pos
      have hI2 := own_iterAt hI hit (pos + (Utf8.decode s pos).2)
      have hit2 := Lib.iterAt_heap wr w2.heap.size s pos (pos + (Utf8.decode s pos).2) hit
      have hbw2 := Lib.below_iterAt hbw (k := w2.heap.size) hz2 s (pos + (Utf8.decode s pos).2)
      have hsz2 : w.heap.size ≤ (wr.iterAt w2.heap.size s (pos + (Utf8.decode s pos).2)).heap.size := by rw [Lib.iterAt_size]; omega
      obtain ⟨f, rfl⟩ : ∃ f, fuel = f + 1 := ⟨fuel - 1, by omega⟩
      have hml := mcode_len ((Utf8.decode s pos).1 : Int)
      have HA : Hid (encFrom s (f + 1) pos = mcode (Utf8.decode s pos).1 ++ encFrom s f (pos + (Utf8.decode s pos).2)) := by
        show _ = _
        simp [encFrom, hp]
      have HB : Hid (acc ++ encFrom s (f + 1) pos = encZ s) := hacc
      clear hacc
      go_wp2_with (go_at_call 169; refine (rune_any w.heap.size _ _ _ _ _ (by omega) (by omega) hI2 (by omega) hsz2).mono ?_; rintro e W1 ⟨v1, rfl, hI3, hst⟩)
      have hit3 : W1.heap[w2.heap.size]? = some (.stringIter s (pos + (Utf8.decode s pos).2)) := by
        rw [hst.grown.block w2.heap.size (by rw [Lib.iterAt_size]; exact hsz) (own_ne_iter hI2 hit2)]; exact hit2
      go_roundw
      case rel =>
        refine ⟨pos + (Utf8.decode s pos).2, f, acc ++ mcode (Utf8.decode s pos).1, ?_, hit3, hbw2.trans (hst.below hsz2 (fun k h => (hI2.lt k h).1)), ?_, by omega, ?_⟩
        · rw [bcells_append, List.length_append]; exact hI3
        · rw [← HB.out, HA.out, List.append_assoc]
        · rw [List.length_append]; omega
      case measure =>
        simp only [World.iterPos, hit3, hit]
        omega
    · have hnx : ∀ ty, (Instr.next (.pointer (some ⟨w2.heap.size, 0, none⟩)) true ty).run Tryz.prog wr = _ := fun ty => Lib.run_next_end_at wr w2.heap.size s pos ty hit hp
      go_wp2
      go_ret2
      refine ⟨hbw, ?_⟩
      rw [encFrom_end s fuel pos hp, List.append_nil] at hacc
      subst hacc
      exact ⟨_, rfl, hI⟩
end Go.Proofs.YthagaldpopnoeaaGreatDoor
