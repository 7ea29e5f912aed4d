/- Bytes that Encode makes are bytes. -/
import Derived.Test.YtnnoifofgbibmabDoorKnown
namespace Go.Proofs.YtnnoifofgbibmabDoor
open Go.RowKit

theorem mcode_bytes (r : Int) (h0 : 0 ≤ r) (h1 : r ≤ 1114111) : AllBytes (mcode r) := by
  intro x hx
  unfold mcode at hx
  split at hx
  · simp at hx; omega
  · split at hx
    · simp at hx; omega
    · split at hx
      · simp at hx; omega
      · simp at hx; omega
theorem AllBytes.append {a b : List Int} (ha : AllBytes a) (hb : AllBytes b) : AllBytes (a ++ b) := fun x hx => by
  rcases List.mem_append.1 hx with h | h
  · exact ha x h
  · exact hb x h
theorem AllBytes.nil : AllBytes [] := fun x hx => by simp at hx
theorem encFrom_bytes (s : ByteArray) : ∀ f pos, AllBytes (encFrom s f pos)
  | 0, _ => AllBytes.nil
  | f + 1, pos => by
    unfold encFrom
    split
    · exact (mcode_bytes _ (by omega) (by have := decode_rune s pos; omega)).append (encFrom_bytes s f _)
    · exact AllBytes.nil
theorem encZ_bytes (s : ByteArray) : AllBytes (encZ s) := encFrom_bytes s _ _

theorem View.empty (w : World) : View w (.slice none 0 0) [] := ⟨none, 0, rfl, Nat.le_refl _, by unfold maxLen; omega, AllBytes.nil, .inl rfl⟩
end Go.Proofs.YtnnoifofgbibmabDoor
