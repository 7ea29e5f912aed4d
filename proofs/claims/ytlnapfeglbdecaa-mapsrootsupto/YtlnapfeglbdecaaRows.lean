/-
  No cell of these rows narrows 'for every input' (looked for: loops, veiled, ifaces, maps, wideKeys, modest, calm, conditions, laid).
  DERIVED. THE GIVEN ROWS OF THIS SEAT. 2 by the template 'for every input the law returns true; each argument reads behind the call as it read before'; 0 by the template 'total and deterministic' (their statements: YtlnapfeglbdecaaTotals.lean).
  GIVEN WITH THE SEED: the statements are not yours to turn. If you find one false, say at which input.
  Laid BY PROGRAM, IN A SANDBOX (cutbox-rows.mjs): the forced cells as the released guide's own fill.sh prints them over the translation 2a954d12e18c77eb… (all of the seat's roots in one cut). By AI agents, Wed Nov 11 2026. No macro, syntax, notation, axiom, sorry.
-/
import Derived.Test.YtlnapfeglbdecaaChecked
import GoSem.Claim
import GoSem.ClaimJoined
import GoSem.ClaimMapViews
import Derived.JoinedTies
import Derived.KernelRfl
namespace Go.Proofs.Ytlnapfeglbdecaa
/- THE CELL 'sum', in the pinned program and in every row, IS THE sha256 OF THE DUMP (.gsa) THAT YtlnapfeglbdecaaProg.lean LOADS. Nothing in Lean hashes anything: it is a label: what it is worth is what the hold of that sum in a sandbox is worth. -/
noncomputable def Try.pinned : Pinned := { name := "ytlnapfeglbdecaa", sum := "2a954d12e18c77eb17b03b60dde11c3d34067924c41d03550b52b1852b43757e", checked := Try.checked }
namespace Rows
def none {H : Type} : Left H := { results := [], args := [] }

/-- 'carafelaw11.MapsRoots': WHATEVER THE INPUT: true; the input reads as it did. -/
def mapsRootsSpec : ChangeSpec := { name := "mapsRoots", fn := fun _ => fun
  | [d] => { results := [.lit (.bool true)], args := [d] }
  | _ => none }
def mapsRootsRow : OpenClaim := { program := "ytlnapfeglbdecaa", sum := "2a954d12e18c77eb17b03b60dde11c3d34067924c41d03550b52b1852b43757e", func := "carafe/carafelaw11.MapsRoots", spec := "mapsRoots", unfollowed := true, recurses := true, apart := false }
def MapsRootsSaid : Prop := mapsRootsRow.holds Try.pinned (OpenSpec.ofChange mapsRootsSpec)

/-- ITS FALSE NEIGHBOUR: 'it returns false'. Refute it at one input. -/
def mapsRootsWrong : ChangeSpec := { name := "mapsRoots", fn := fun _ => fun
  | [d] => { results := [.lit (.bool false)], args := [d] }
  | _ => none }
def MapsRootsWrongFalsely : Prop := mapsRootsRow.holds Try.pinned (OpenSpec.ofChange mapsRootsWrong)

/-- 'carafelaw11.MapsLeast': WHATEVER THE INPUT: true; the input reads as it did. -/
def mapsLeastSpec : ChangeSpec := { name := "mapsLeast", fn := fun _ => fun
  | [d] => { results := [.lit (.bool true)], args := [d] }
  | _ => none }
def mapsLeastRow : OpenClaim := { program := "ytlnapfeglbdecaa", sum := "2a954d12e18c77eb17b03b60dde11c3d34067924c41d03550b52b1852b43757e", func := "carafe/carafelaw11.MapsLeast", spec := "mapsLeast", unfollowed := true, recurses := true, apart := false }
def MapsLeastSaid : Prop := mapsLeastRow.holds Try.pinned (OpenSpec.ofChange mapsLeastSpec)

/-- ITS FALSE NEIGHBOUR: 'it returns false'. Refute it at one input. -/
def mapsLeastWrong : ChangeSpec := { name := "mapsLeast", fn := fun _ => fun
  | [d] => { results := [.lit (.bool false)], args := [d] }
  | _ => none }
def MapsLeastWrongFalsely : Prop := mapsLeastRow.holds Try.pinned (OpenSpec.ofChange mapsLeastWrong)

/- THE SECOND FORM. 'bulk': how many values and letters a reading holds, each counted each time it is reached (what is shared counts as often as it is met; a slice's spare places count too). A statement '..UptoSaid' is the law's where the arguments, and the package variables that the reading takes, are together of bulk at most 1048576: NARROWER than '..Said'. Prove '..Said' where nothing that the law and all that it calls make is longer than what came in: it says more and counts as full. Else prove '..UptoSaid'. A law counts once. -/
mutual
def uptoBulk {H : Type} : DataW H → Nat
  | .lit (.string bytes) => bytes.length + 1
  | .lit _ => 1
  | .nil => 1
  | .ptr d => uptoBulk d + 1
  | .slice elems spare => uptoBulkAll elems + uptoBulkAll spare + 1
  | .agg parts => uptoBulkAll parts + 1
  | .iface _ d => uptoBulk d + 1
  | .map entries => uptoBulkEntries entries + 1
  | .held _ => 1
def uptoBulkAll {H : Type} : List (DataW H) → Nat
  | [] => 0
  | d :: r => uptoBulk d + uptoBulkAll r
def uptoBulkEntries {H : Type} : List (Lit × DataW H) → Nat
  | [] => 0
  | x :: r => uptoBulkEntry x + uptoBulkEntries r
def uptoBulkEntry {H : Type} : Lit × DataW H → Nat
  | (.string bytes, d) => bytes.length + uptoBulk d + 1
  | (_, d) => uptoBulk d + 1
 end
def uptoSmall : (H : Type) → List (DataW H) → Bool := fun _ ds => decide (uptoBulkAll ds ≤ 1048576)
def OpenSpec.upto (s : _root_.Go.ChangeSpec) : _root_.Go.OpenSpec := { _root_.Go.OpenSpec.ofChange s with cond := some uptoSmall }

/-- 'carafelaw11.MapsRoots', WHERE WHAT IT READS IS OF BULK AT MOST 1048576: true; the input reads as it did. -/
def mapsRootsUptoRow : OpenClaim := { program := "ytlnapfeglbdecaa", sum := "2a954d12e18c77eb17b03b60dde11c3d34067924c41d03550b52b1852b43757e", func := "carafe/carafelaw11.MapsRoots", spec := "mapsRoots", unfollowed := true, recurses := true, apart := false, narrowed := true }
def MapsRootsUptoSaid : Prop := mapsRootsUptoRow.holds Try.pinned (OpenSpec.upto mapsRootsSpec)

/-- 'carafelaw11.MapsLeast', WHERE WHAT IT READS IS OF BULK AT MOST 1048576: true; the input reads as it did. -/
def mapsLeastUptoRow : OpenClaim := { program := "ytlnapfeglbdecaa", sum := "2a954d12e18c77eb17b03b60dde11c3d34067924c41d03550b52b1852b43757e", func := "carafe/carafelaw11.MapsLeast", spec := "mapsLeast", unfollowed := true, recurses := true, apart := false, narrowed := true }
def MapsLeastUptoSaid : Prop := mapsLeastUptoRow.holds Try.pinned (OpenSpec.upto mapsLeastSpec)

end Rows
end Go.Proofs.Ytlnapfeglbdecaa
