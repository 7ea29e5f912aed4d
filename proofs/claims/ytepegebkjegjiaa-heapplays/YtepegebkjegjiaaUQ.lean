/- Mark of the document's own heap: walked up to its sorting. -/
import Derived.Test.YtepegebkjegjiaaUP
import Derived.Test.YtepegebkjegjiaaUM
namespace Go.Proofs.Ytepegebkjegjiaa.J
open Go.RowKit Go.MapKept Go.ChangeMaps
set_option linter.unusedVariables false

variable {n0 : Nat} {w : World} {R : RB} {most : Nat} {l : List Ob} {ss : List (List Bool)} {roots : List Int}
theorem nodup_len : ∀ (a b : List Int), a.Nodup → (∀ x ∈ a, x ∈ b) → a.length ≤ b.length
  | [], b, _, _ => by simp
  | x :: a, b, hn, hs => by
    have h1 := List.nodup_cons.1 hn
    have h2 := nodup_len a (b.erase x) h1.2 (fun y hy => by
      have hne : y ≠ x := fun e => h1.1 (e ▸ hy)
      exact (List.mem_erase_of_ne hne).2 (hs y (List.mem_cons_of_mem _ hy)))
    have h3 : (b.erase x).length = b.length - 1 := List.length_erase_of_mem (hs x List.mem_cons_self)
    have h4 : 0 < b.length := List.length_pos_of_mem (hs x List.mem_cons_self)
    simp only [List.length_cons]
    omega
theorem Mrk.len {out left : List Int} (h : Mrk ss l roots out left) : out.length ≤ l.length := by
  have := nodup_len out (begs 0 l) h.nd (fun x hx => by
    obtain ⟨o, ho⟩ := Option.isSome_iff_exists.1 (h.ob x hx)
    obtain ⟨i, h1, h2⟩ := objZ_idx ho
    have h3 := begs_at l 0 i (List.getElem?_eq_some_iff.1 h1).1
    rw [Nat.zero_add, ← h2] at h3
    exact List.mem_of_getElem? h3)
  rwa [begs_len] at this
def lenV : Value → Nat
  | .slice _ n _ => n
  | _ => 0
/-- A marking as it lies in memory. -/
def MkI (w : World) (ss : List (List Bool)) (l : List Ob) (roots : List Int) (ov lv : Value) (wr : World) : Prop :=
  ∃ (out left : List Int) (ao al : Option Addr) (co cl : Nat), ov = .slice ao out.length co ∧ lv = .slice al left.length cl ∧ NOwn wr w.heap.size (.slice ao out.length co) out ∧ NOwn wr w.heap.size (.slice al left.length cl) left ∧ (∀ b, (Value.slice ao out.length co).ownBlock = some b → (Value.slice al left.length cl).ownBlock ≠ some b) ∧ Mrk ss l roots out left ∧ left.length ≤ roots.length + out.length * 16384 ∧ Below w.heap.size w wr
end Go.Proofs.Ytepegebkjegjiaa.J

