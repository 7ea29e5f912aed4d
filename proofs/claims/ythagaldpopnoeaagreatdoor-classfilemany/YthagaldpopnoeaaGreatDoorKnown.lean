/- Some of chapter 1's runs, as the law's helper 'known' asks them, come out true in whatever world. -/
import Derived.Test.YthagaldpopnoeaaGreatDoorEnc
import Derived.Test.YthagaldpopnoeaaGreatDoorYC
namespace Go.Proofs.YthagaldpopnoeaaGreatDoor
open Go.RowKit

/-- The library's two tables hold what its text lays. -/
def Tabs (w : World) : Prop := Lib.Utf8Tabs (Tryz.lays196_ren.g 3) (Tryz.lays196_ren.g 4) w
theorem Tabs.below {w wr : World} (h : Tabs w) (hb : Below w.heap.size w wr) : Tabs wr :=
  ⟨fun c hc => cell_later hb (h.1 c hc), fun i hi => ⟨cell_later hb (h.2 i hi).1, cell_later hb (h.2 i hi).2⟩⟩

theorem encode_yes (s : ByteArray) (w : World) (hT : Tabs w) (hs : s.size ≤ 1099511627776) (hv : Lib.validD s.data.toList = true) :
    Calls Tryz.prog 132 #[.string s] w fun e w' => Below w.heap.size w w' ∧
      ∃ v, e = .returned (.tuple #[v, .int .i64 0]) ∧ w'.ownsRow w.heap.size 5 1 v (encZ s).length (bcells (encZ s)) :=
  encode_ok s w hs (by have := Tryz.utf8_ValidString s w (by omega) hT; rwa [hv] at this)
theorem encode_no (s : ByteArray) (w : World) (hT : Tabs w) (hs : s.size ≤ 1099511627776) (hv : Lib.validD s.data.toList = false) :
    Calls Tryz.prog 132 #[.string s] w fun e w' => e = .returned (.tuple #[.slice none 0 0, .int .i64 12]) ∧ Below w.heap.size w w' :=
  encode_bad s w (by have := Tryz.utf8_ValidString s w (by omega) hT; rwa [hv] at this)







/-- A view of bytes just laid. -/
theorem View.laid (w : World) (l : List Int) (hb : AllBytes l) (hm : l.length ≤ maxLen) : View (w.alloc (.cells (bcells l).toArray 5)) (.slice (some ⟨w.heap.size, 0, none⟩) l.length l.length) l := by
  refine ⟨_, _, rfl, Nat.le_refl _, hm, hb, .inr ⟨_, _, rfl, fun j x hj => ?_⟩⟩
  have h := cell_of_row (w.alloc (.cells (bcells l).toArray 5)) w.heap.size (0 + j) (bcells l).toArray 5 (0, 0) (heap_alloc_new w _)
  rw [h]
  simp [bcells, hj]


end Go.Proofs.YthagaldpopnoeaaGreatDoor
