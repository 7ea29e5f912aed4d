/- firstRune reads the rune that a list of bytes begins with. -/
import Derived.Test.YtknppdpcgdncdaaQDecA
import Derived.Laws.BytesArg
namespace Go.Proofs.Ytknppdpcgdncdaa.Q
open Go.RowKit
/-- The bytes l lie from off on in block g. -/
def Lies (w : World) (g off : Nat) (l : List Int) : Prop := ∀ j x, l[j]? = some x → w.cell? ⟨g, off + j, none⟩ = some (.int .u8 x)
def AllBytes (l : List Int) : Prop := ∀ x ∈ l, 0 ≤ x ∧ x ≤ 255
/-- v is a slice that holds the bytes l. -/
def View (w : World) (v : Value) (l : List Int) : Prop :=
  ∃ ao cap, v = .slice ao l.length cap ∧ l.length ≤ cap ∧ cap ≤ maxLen ∧ AllBytes l ∧ (l = [] ∨ ∃ g off, ao = some ⟨g, off, none⟩ ∧ Lies w g off l)

/-- The code that the bytes begin with, and its size (0: none such). -/
def fcode : List Int → Int × Nat
  | [] => (0, 0)
  | [a] => if 1 ≤ a ∧ a ≤ 127 then (a, 1) else (0, 0)
  | [a, b] => if 1 ≤ a ∧ a ≤ 127 then (a, 1)
      else if a / 32 = 6 ∧ b / 64 = 2 ∧ (a % 32 * 64 + b % 64 = 0 ∨ 127 < a % 32 * 64 + b % 64) then (a % 32 * 64 + b % 64, 2) else (0, 0)
  | a :: b :: c :: _ => if 1 ≤ a ∧ a ≤ 127 then (a, 1)
      else if a / 32 = 6 ∧ b / 64 = 2 ∧ (a % 32 * 64 + b % 64 = 0 ∨ 127 < a % 32 * 64 + b % 64) then (a % 32 * 64 + b % 64, 2)
      else if a / 16 = 14 ∧ b / 64 = 2 ∧ c / 64 = 2 ∧ 2047 < a % 16 * 4096 + b % 64 * 64 + c % 64 then (a % 16 * 4096 + b % 64 * 64 + c % 64, 3) else (0, 0)

theorem fcode1 (a : Int) : fcode [a] = if 1 ≤ a ∧ a ≤ 127 then (a, 1) else (0, 0) := rfl
theorem fcode2 (a b : Int) : fcode [a, b] = if 1 ≤ a ∧ a ≤ 127 then (a, 1)
      else if a / 32 = 6 ∧ b / 64 = 2 ∧ (a % 32 * 64 + b % 64 = 0 ∨ 127 < a % 32 * 64 + b % 64) then (a % 32 * 64 + b % 64, 2) else (0, 0) := rfl
theorem fcode3 (a b c : Int) (t : List Int) : fcode (a :: b :: c :: t) = if 1 ≤ a ∧ a ≤ 127 then (a, 1)
      else if a / 32 = 6 ∧ b / 64 = 2 ∧ (a % 32 * 64 + b % 64 = 0 ∨ 127 < a % 32 * 64 + b % 64) then (a % 32 * 64 + b % 64, 2)
      else if a / 16 = 14 ∧ b / 64 = 2 ∧ c / 64 = 2 ∧ 2047 < a % 16 * 4096 + b % 64 * 64 + c % 64 then (a % 16 * 4096 + b % 64 * 64 + c % 64, 3) else (0, 0) := rfl

theorem calls_q {P : Program} {f : Nat} {args : Array Value} {w : World} {v : Value} (h : Calls P f args w fun e w' => e = .returned v ∧ w' = w) : Calls P f args w fun e w' => e = .returned v ∧ ∃ q, w' = w.drewN q :=
  h.mono fun _ _ ⟨a, b⟩ => ⟨a, 0, b⟩

/-- What a code is: of one, two or three bytes, in its range. -/
theorem fcode_range (l : List Int) (hb : AllBytes l) : (fcode l).2 ≤ l.length ∧ 0 ≤ (fcode l).1 ∧ (fcode l).1 ≤ 65535 ∧ ((fcode l).2 = 0 → (fcode l).1 = 0) ∧ (2047 < (fcode l).1 → (fcode l).2 = 3) ∧ (fcode l).2 ≤ 3 := by
  match l with
  | [] => simp [fcode]
  | [a] =>
    obtain ⟨a0, a1⟩ := hb a (by simp)
    rw [fcode1]; split <;> simp <;> omega
  | [a, b] =>
    obtain ⟨a0, a1⟩ := hb a (by simp)
    obtain ⟨b0, b1⟩ := hb b (by simp)
    rw [fcode2]; split
    · simp; omega
    · split <;> simp <;> omega
  | a :: b :: c :: t =>
    obtain ⟨a0, a1⟩ := hb a (by simp)
    obtain ⟨b0, b1⟩ := hb b (by simp)
    obtain ⟨c0', c1'⟩ := hb c (by simp)
    rw [fcode3]; split
    · simp; omega
    · split
      · simp; omega
      · split <;> simp <;> omega

theorem View.drewN {w : World} {v : Value} {l : List Int} (h : View w v l) (q : Nat) : View (w.drewN q) v l := h

/-- The rune that the bytes begin with, and its size (0: none such). -/
def frune (l : List Int) : Int × Nat :=
  if (fcode l).1 < 55296 ∨ 57344 ≤ (fcode l).1 then fcode l
  else if 56320 ≤ (fcode l).1 then (0, 0)
  else if (fcode (l.drop 3)).1 < 56320 ∨ 57344 ≤ (fcode (l.drop 3)).1 then (0, 0)
  else (65536 + ((fcode l).1 - 55296) * 1024 + ((fcode (l.drop 3)).1 - 56320), 6)

end Go.Proofs.Ytknppdpcgdncdaa.Q
