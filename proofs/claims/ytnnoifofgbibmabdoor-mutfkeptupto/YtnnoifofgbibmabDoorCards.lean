/-
  DERIVED. GIVEN WITH THE SEED: THE CARDS: each row of YtnnoifofgbibmabDoorRows.lean that lists a variable, with what it lists TIED to the program's text (the seventh form; the later family's looks); each row that meets fmt, with fmt's text TOLD by the authors' own Lean function (tested against real Go, not proved from fmt's source: count such statements apart). THE CARD IS WHAT COUNTS. Prove the row's statement (the work); the ties are given (YtnnoifofgbibmabDoorTie.lean); close each card by the builder's one call (the guide's Derived/Test/ToyasCard.lean, 'card_holds'). Laid BY PROGRAM, IN A SANDBOX (cutbox-door.mjs). By AI agents, Wed Nov 11 2026. No macro, syntax, notation, axiom, sorry.
-/
import Derived.Test.YtnnoifofgbibmabDoorRows
import GoSem.ClaimSeven
namespace Go.Proofs.YtnnoifofgbibmabDoor
namespace Rows

/-- THE TIED CARD OF 'carafelaw1.MutfKept'. -/
def mutfKeptCard : Claim7 := { stood := { row := mutfKeptRow, standIns := [], harness := (true, "3e1b57cb220ebd5b033ca51169dcf5b413b96b9028b6ab22fa074a527f08e749"), looks := false }, kinds := [], alts := [], laidByText := true, laidKinds := [.data, .pinned], laidTests := true, laidLooks := .later }
def MutfKeptCardSaid : Prop := Claim7.holds Tryd.pinned (.plain (OpenSpec.ofChange mutfKeptSpec)) mutfKeptCard

/-- THE TIED CARD OF 'carafelaw1.MutfJoined'. -/
def mutfJoinedCard : Claim7 := { stood := { row := mutfJoinedRow, standIns := [], harness := (true, "3e1b57cb220ebd5b033ca51169dcf5b413b96b9028b6ab22fa074a527f08e749"), looks := false }, kinds := [], alts := [], laidByText := true, laidKinds := [.data, .pinned], laidTests := true, laidLooks := .later }
def MutfJoinedCardSaid : Prop := Claim7.holds Tryd.pinned (.plain (OpenSpec.ofChange mutfJoinedSpec)) mutfJoinedCard

/-- THE SECOND FORM's CARD OF 'carafelaw1.MutfKept'. -/
def mutfKeptUptoCard : Claim7 := { stood := { row := mutfKeptUptoRow, standIns := [], harness := (true, "3e1b57cb220ebd5b033ca51169dcf5b413b96b9028b6ab22fa074a527f08e749"), looks := false }, kinds := [], alts := [], laidByText := true, laidKinds := [.data, .pinned], laidTests := true, laidLooks := .later }
def MutfKeptUptoCardSaid : Prop := Claim7.holds Tryd.pinned (.plain (OpenSpec.upto mutfKeptSpec)) mutfKeptUptoCard

/-- THE SECOND FORM's CARD OF 'carafelaw1.MutfJoined'. -/
def mutfJoinedUptoCard : Claim7 := { stood := { row := mutfJoinedUptoRow, standIns := [], harness := (true, "3e1b57cb220ebd5b033ca51169dcf5b413b96b9028b6ab22fa074a527f08e749"), looks := false }, kinds := [], alts := [], laidByText := true, laidKinds := [.data, .pinned], laidTests := true, laidLooks := .later }
def MutfJoinedUptoCardSaid : Prop := Claim7.holds Tryd.pinned (.plain (OpenSpec.upto mutfJoinedSpec)) mutfJoinedUptoCard
end Rows
end Go.Proofs.YtnnoifofgbibmabDoor
