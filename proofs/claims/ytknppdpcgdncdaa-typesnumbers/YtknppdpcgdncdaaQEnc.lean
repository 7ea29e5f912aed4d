/- Encode of a valid text gives its modified UTF-8 in new memory; of a text that is not valid it gives ErrForm. -/
import Derived.Test.YtknppdpcgdncdaaQBase
import Derived.Lib.OthersKept
import Derived.Lib.ValidU
import Derived.Lib.DecodeN
import Derived.Deep.LoopGhost
namespace Go.Proofs.Ytknppdpcgdncdaa.Q
open Go.RowKit
/-- What Encode makes of the text from 'pos' on. -/
def encFrom (s : ByteArray) : Nat → Nat → List Int
  | 0, _ => []
  | f + 1, pos => if pos < s.size then mcode (Utf8.decode s pos).1 ++ encFrom s f (pos + (Utf8.decode s pos).2) else []
def encZ (s : ByteArray) : List Int := encFrom s s.size 0

theorem mcode_len (r : Int) : (mcode r).length ≤ 6 := by
  unfold mcode; split; · simp
  split; · simp
  split <;> simp
theorem encFrom_end (s : ByteArray) (fuel pos : Nat) (h : ¬ pos < s.size) : encFrom s fuel pos = [] := by cases fuel <;> simp [encFrom, h]
theorem encFrom_len (s : ByteArray) : ∀ fuel pos, (encFrom s fuel pos).length ≤ 6 * fuel
  | 0, _ => by simp [encFrom]
  | f + 1, pos => by
    unfold encFrom
    split
    · have := mcode_len ((Utf8.decode s pos).1 : Int)
      have := encFrom_len s f (pos + (Utf8.decode s pos).2)
      rw [List.length_append]; omega
    · simp
theorem width_pos (s : ByteArray) (pos : Nat) (h : pos < s.size) : 1 ≤ (Utf8.decode s pos).2 := by
  by_cases ha : (s[pos]'h).toNat < 128
  · rw [decode_ascii s pos h ha]
    exact Nat.le_refl _
  · exact (decode_high s pos h (by omega)).2
theorem decode_rune (s : ByteArray) (pos : Nat) : (Utf8.decode s pos).1 ≤ 1114111 := by
  rw [Lib.decode_at]
  unfold Lib.decodeN
  repeat' split
  all_goals (simp only []; omega)

/-- A row of bytes is not where an iterator stands. -/
theorem own_ne_iter {w : World} {B e size : Nat} {v : Value} {n : Nat} {xs : List Value} {k : Nat} {s : ByteArray} {pos : Nat} (h : w.ownsRow B e size v n xs) (hk : w.heap[k]? = some (.stringIter s pos)) : some k ≠ v.ownBlock := by
  intro e1
  rcases h.2 with ⟨rfl, _⟩ | ⟨g, cap, cur, rfl, _, hg, _⟩
  · simp [Value.ownBlock] at e1
  · simp [Value.ownBlock] at e1
    subst e1
    rw [hk] at hg; cases hg
theorem own_iterAt {w : World} {B e size : Nat} {v : Value} {n : Nat} {xs : List Value} {k : Nat} {s : ByteArray} {pos : Nat} (h : w.ownsRow B e size v n xs) (hk : w.heap[k]? = some (.stringIter s pos)) (pos' : Nat) : (w.iterAt k s pos').ownsRow B e size v n xs := by
  have hne := own_ne_iter h hk
  refine ⟨h.1, ?_⟩
  rcases h.2 with h2 | ⟨g, cap, cur, rfl, hB, hg, r⟩
  · exact .inl h2
  · refine .inr ⟨g, cap, cur, rfl, hB, ?_, r⟩
    rw [Lib.iterAt_other w k g s pos' (fun e => hne (by simp [Value.ownBlock, e]))]; exact hg

end Go.Proofs.Ytknppdpcgdncdaa.Q
