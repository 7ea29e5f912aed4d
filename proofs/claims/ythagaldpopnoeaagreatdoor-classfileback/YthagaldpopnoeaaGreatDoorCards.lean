/-
  DERIVED. GIVEN WITH THE SEED: THE CARDS: each row of YthagaldpopnoeaaGreatDoorRows.lean that lists a variable, with what it lists TIED to the program's text (the seventh form; the later family's looks); each row that meets fmt, with fmt's text TOLD by the authors' own Lean function (tested against real Go, not proved from fmt's source: count such statements apart). THE CARD IS WHAT COUNTS. Prove the row's statement (the work); the ties are given (YthagaldpopnoeaaGreatDoorTie.lean); close each card by the builder's one call (the guide's Derived/Test/ToyasCard.lean, 'card_holds'). Laid BY PROGRAM, IN A SANDBOX (cutbox-door.mjs). By AI agents, Wed Nov 11 2026. No macro, syntax, notation, axiom, sorry.
-/
import Derived.Test.YthagaldpopnoeaaGreatDoorRows
import GoSem.ClaimSeven
namespace Go.Proofs.YthagaldpopnoeaaGreatDoor
namespace Rows

/-- THE TIED CARD OF 'carafelaw4.ClassfileNumbers'. -/
def classfileNumbersCard : Claim7 := { stood := { row := classfileNumbersRow, standIns := [], harness := (true, "306c5c7fda67d6abca269c7d78b9e2c11c4ee061c49fb0c39f8c5cc55f4905a4"), looks := false }, kinds := [], alts := [], laidByText := true, laidKinds := [.data, .pinned], laidTests := true, laidLooks := .later }
def ClassfileNumbersCardSaid : Prop := Claim7.holds Tryz.pinned (.plain (OpenSpec.ofChange classfileNumbersSpec)) classfileNumbersCard

/-- THE TIED CARD OF 'carafelaw4.ClassfileWrites'. -/
def classfileWritesCard : Claim7 := { stood := { row := classfileWritesRow, standIns := [], harness := (true, "306c5c7fda67d6abca269c7d78b9e2c11c4ee061c49fb0c39f8c5cc55f4905a4"), looks := false }, kinds := [], alts := [], laidByText := true, laidKinds := [.data, .pinned], laidTests := true, laidLooks := .later }
def ClassfileWritesCardSaid : Prop := Claim7.holds Tryz.pinned (.plain (OpenSpec.ofChange classfileWritesSpec)) classfileWritesCard

/-- THE TIED CARD OF 'carafelaw4.ClassfileReads'. -/
def classfileReadsCard : Claim7 := { stood := { row := classfileReadsRow, standIns := [], harness := (true, "306c5c7fda67d6abca269c7d78b9e2c11c4ee061c49fb0c39f8c5cc55f4905a4"), looks := false }, kinds := [], alts := [], laidByText := true, laidKinds := [.data, .pinned], laidTests := true, laidLooks := .later }
def ClassfileReadsCardSaid : Prop := Claim7.holds Tryz.pinned (.plain (OpenSpec.ofChange classfileReadsSpec)) classfileReadsCard

/-- THE TIED CARD OF 'carafelaw4.ClassfileBack'. -/
def classfileBackCard : Claim7 := { stood := { row := classfileBackRow, standIns := [], harness := (true, "306c5c7fda67d6abca269c7d78b9e2c11c4ee061c49fb0c39f8c5cc55f4905a4"), looks := false }, kinds := [], alts := [], laidByText := true, laidKinds := [.data, .pinned], laidTests := true, laidLooks := .later }
def ClassfileBackCardSaid : Prop := Claim7.holds Tryz.pinned (.plain (OpenSpec.ofChange classfileBackSpec)) classfileBackCard

/-- THE TIED CARD OF 'carafelaw4.ClassfileKept'. -/
def classfileKeptCard : Claim7 := { stood := { row := classfileKeptRow, standIns := [], harness := (true, "306c5c7fda67d6abca269c7d78b9e2c11c4ee061c49fb0c39f8c5cc55f4905a4"), looks := false }, kinds := [], alts := [], laidByText := true, laidKinds := [.data, .pinned], laidTests := true, laidLooks := .later }
def ClassfileKeptCardSaid : Prop := Claim7.holds Tryz.pinned (.plain (OpenSpec.ofChange classfileKeptSpec)) classfileKeptCard

/-- THE TIED CARD OF 'carafelaw4.ClassfileMany'. -/
def classfileManyCard : Claim7 := { stood := { row := classfileManyRow, standIns := [], harness := (true, "306c5c7fda67d6abca269c7d78b9e2c11c4ee061c49fb0c39f8c5cc55f4905a4"), looks := false }, kinds := [], alts := [], laidByText := true, laidKinds := [.data, .pinned], laidTests := true, laidLooks := .later }
def ClassfileManyCardSaid : Prop := Claim7.holds Tryz.pinned (.plain (OpenSpec.ofChange classfileManySpec)) classfileManyCard

/-- THE SECOND FORM's CARD OF 'carafelaw4.ClassfileNumbers'. -/
def classfileNumbersUptoCard : Claim7 := { stood := { row := classfileNumbersUptoRow, standIns := [], harness := (true, "306c5c7fda67d6abca269c7d78b9e2c11c4ee061c49fb0c39f8c5cc55f4905a4"), looks := false }, kinds := [], alts := [], laidByText := true, laidKinds := [.data, .pinned], laidTests := true, laidLooks := .later }
def ClassfileNumbersUptoCardSaid : Prop := Claim7.holds Tryz.pinned (.plain (OpenSpec.upto classfileNumbersSpec)) classfileNumbersUptoCard

/-- THE SECOND FORM's CARD OF 'carafelaw4.ClassfileWrites'. -/
def classfileWritesUptoCard : Claim7 := { stood := { row := classfileWritesUptoRow, standIns := [], harness := (true, "306c5c7fda67d6abca269c7d78b9e2c11c4ee061c49fb0c39f8c5cc55f4905a4"), looks := false }, kinds := [], alts := [], laidByText := true, laidKinds := [.data, .pinned], laidTests := true, laidLooks := .later }
def ClassfileWritesUptoCardSaid : Prop := Claim7.holds Tryz.pinned (.plain (OpenSpec.upto classfileWritesSpec)) classfileWritesUptoCard

/-- THE SECOND FORM's CARD OF 'carafelaw4.ClassfileReads'. -/
def classfileReadsUptoCard : Claim7 := { stood := { row := classfileReadsUptoRow, standIns := [], harness := (true, "306c5c7fda67d6abca269c7d78b9e2c11c4ee061c49fb0c39f8c5cc55f4905a4"), looks := false }, kinds := [], alts := [], laidByText := true, laidKinds := [.data, .pinned], laidTests := true, laidLooks := .later }
def ClassfileReadsUptoCardSaid : Prop := Claim7.holds Tryz.pinned (.plain (OpenSpec.upto classfileReadsSpec)) classfileReadsUptoCard

/-- THE SECOND FORM's CARD OF 'carafelaw4.ClassfileBack'. -/
def classfileBackUptoCard : Claim7 := { stood := { row := classfileBackUptoRow, standIns := [], harness := (true, "306c5c7fda67d6abca269c7d78b9e2c11c4ee061c49fb0c39f8c5cc55f4905a4"), looks := false }, kinds := [], alts := [], laidByText := true, laidKinds := [.data, .pinned], laidTests := true, laidLooks := .later }
def ClassfileBackUptoCardSaid : Prop := Claim7.holds Tryz.pinned (.plain (OpenSpec.upto classfileBackSpec)) classfileBackUptoCard

/-- THE SECOND FORM's CARD OF 'carafelaw4.ClassfileKept'. -/
def classfileKeptUptoCard : Claim7 := { stood := { row := classfileKeptUptoRow, standIns := [], harness := (true, "306c5c7fda67d6abca269c7d78b9e2c11c4ee061c49fb0c39f8c5cc55f4905a4"), looks := false }, kinds := [], alts := [], laidByText := true, laidKinds := [.data, .pinned], laidTests := true, laidLooks := .later }
def ClassfileKeptUptoCardSaid : Prop := Claim7.holds Tryz.pinned (.plain (OpenSpec.upto classfileKeptSpec)) classfileKeptUptoCard

/-- THE SECOND FORM's CARD OF 'carafelaw4.ClassfileMany'. -/
def classfileManyUptoCard : Claim7 := { stood := { row := classfileManyUptoRow, standIns := [], harness := (true, "306c5c7fda67d6abca269c7d78b9e2c11c4ee061c49fb0c39f8c5cc55f4905a4"), looks := false }, kinds := [], alts := [], laidByText := true, laidKinds := [.data, .pinned], laidTests := true, laidLooks := .later }
def ClassfileManyUptoCardSaid : Prop := Claim7.holds Tryz.pinned (.plain (OpenSpec.upto classfileManySpec)) classfileManyUptoCard
end Rows
end Go.Proofs.YthagaldpopnoeaaGreatDoor
