/- The small laws on which the walks of layer 1 stand: where a row of bytes lies behind an append, and bits as sums. -/
import Derived.Test.YtknppdpcgdncdaaProg
import Derived.WalkKit
import Derived.WalkSpells
import Derived.WalkLawsBesides
import Derived.Maps.AppendAt
import Derived.Deep.AppendLies
namespace Go.Proofs.Ytknppdpcgdncdaa.Q
open Go.RowKit
/-- The value lies where the old one did, or in a block that is new since H. -/
def Moved (H : Nat) (v v' : Value) : Prop := v'.ownBlock = v.ownBlock ∨ ∃ g, v'.ownBlock = some g ∧ H ≤ g

/-- What appending does: every old block but v's own row stands; the new value lies where v did or in new memory. -/
structure Step (v : Value) (w : World) (v' : Value) (w' : World) : Prop where
  grown : w.grownBy w' v.ownBlock
  moved : Moved w.heap.size v v'

theorem Step.refl (v : Value) (w : World) : Step v w v w := ⟨⟨rfl, rfl, rfl, Nat.le_refl _, fun _ _ _ => rfl⟩, .inl rfl⟩

theorem Step.trans {v v1 v2 : Value} {w w1 w2 : World} (h : Step v w v1 w1) (k : Step v1 w1 v2 w2) : Step v w v2 w2 := by
  refine ⟨⟨k.grown.os.trans h.grown.os, k.grown.tape.trans h.grown.tape, k.grown.output.trans h.grown.output, Nat.le_trans h.grown.size k.grown.size, ?_⟩, ?_⟩
  · intro i hi hne
    have h1 := h.grown.block i hi hne
    have hlt : i < w1.heap.size := Nat.lt_of_lt_of_le hi h.grown.size
    rw [k.grown.block i hlt ?_, h1]
    rcases h.moved with e | ⟨g, e, hg⟩
    · rw [e]; exact hne
    · rw [e]; intro e2; cases e2; omega
  · rcases k.moved with e | ⟨g, e, hg⟩
    · rcases h.moved with e1 | ⟨g1, e1, hg1⟩
      · exact .inl (e.trans e1)
      · exact .inr ⟨g1, e.trans e1, hg1⟩
    · exact .inr ⟨g, e, Nat.le_trans h.grown.size hg⟩

theorem Step.before_alloc {v v' : Value} {w w' : World} {o : Obj} (h : Step v (w.alloc o) v' w') : Step v w v' w' := by
  have hz : (w.alloc o).heap.size = w.heap.size + 1 := by simp
  refine ⟨⟨h.grown.os, h.grown.tape, h.grown.output, by have := h.grown.size; omega, fun i hi hne => ?_⟩, ?_⟩
  · rw [h.grown.block i (by omega) hne]; exact Below.heap_alloc w o i hi
  · rcases h.moved with e | ⟨g, e, hg⟩
    · exact .inl e
    · exact .inr ⟨g, e, by omega⟩

theorem Step.of_alloc {v v' : Value} {w w' : World} {o : Obj} (hg : (w.alloc o).grownBy w' v.ownBlock) (ha : v'.ownBlock = v.ownBlock ∨ v'.ownBlock = some (w.heap.size + 1)) : Step v w v' w' :=
  Step.before_alloc (o := o) ⟨hg, ha.imp id fun e => ⟨_, e, by simp⟩⟩

theorem Step.before_drew {v v' : Value} {w w' : World} (h : Step v w.drew v' w') : Step v w v' w' := ⟨⟨h.grown.os, h.grown.tape, h.grown.output, h.grown.size, h.grown.block⟩, h.moved⟩

theorem Step.of_at {v v' : Value} {w w' : World} (hg : w.grownBy w' v.ownBlock) (ha : v'.ownBlock = v.ownBlock ∨ v'.ownBlock = some w.heap.size) : Step v w v' w' :=
  ⟨hg, ha.imp id fun e => ⟨_, e, Nat.le_refl _⟩⟩

/-- What lies below B stands, if the row lies from B on. -/
theorem Step.below {v v' : Value} {w w' : World} (h : Step v w v' w') {B : Nat} (hB : B ≤ w.heap.size) (hv : ∀ k, v.ownBlock = some k → B ≤ k) : Below B w w' :=
  (Below.refl _ _).grown h.grown hB hv

theorem Try.info5 : (Try.prog.info? 5).map (fun i => (i.zero, i.size, i.bytes)) = some (some (.int .u8 0), 1, 1) := by kernel_rfl

theorem ret_int {k : IntKind} {a b : Int} (h : a = b) : Ending.returned (.int k a) = .returned (.int k b) := by rw [h]

theorem i32_mask (i : Nat) (hi : i ≤ 31) (x : Int) (h0 : 0 ≤ x) (h1 : x ≤ 2147483647) : bits .and .i32 x (2 ^ i - 1) = x % 2 ^ i :=
  bits_mask .i32 31 (by decide) wraps_i32 i hi x h0 (by omega)
theorem i32_and63 (x : Int) (h0 : 0 ≤ x) (h1 : x ≤ 2147483647) : bits .and .i32 x 63 = x % 64 := i32_mask 6 (by decide) x h0 h1
theorem i32_and1023 (x : Int) (h0 : 0 ≤ x) (h1 : x ≤ 2147483647) : bits .and .i32 x 1023 = x % 1024 := i32_mask 10 (by decide) x h0 h1

/-- The bytes of one rune in modified UTF-8. -/
def mcode (r : Int) : List Int :=
  if 1 ≤ r ∧ r ≤ 127 then [r]
  else if r ≤ 2047 then [192 + r / 64, 128 + r % 64]
  else if r < 65536 then [224 + r / 4096, 128 + r / 64 % 64, 128 + r % 64]
  else [224 + (55296 + (r - 65536) / 1024) / 4096, 128 + (55296 + (r - 65536) / 1024) / 64 % 64, 128 + (55296 + (r - 65536) / 1024) % 64,
        224 + (56320 + (r - 65536) % 1024) / 4096, 128 + (56320 + (r - 65536) % 1024) / 64 % 64, 128 + (56320 + (r - 65536) % 1024) % 64]
def bcells (l : List Int) : List Value := l.map (Value.int .u8)
theorem bcells_append (a b : List Int) : bcells (a ++ b) = bcells a ++ bcells b := by simp [bcells]
theorem hidIt {p : Prop} (h : p) : Hid p := h

end Go.Proofs.Ytknppdpcgdncdaa.Q
