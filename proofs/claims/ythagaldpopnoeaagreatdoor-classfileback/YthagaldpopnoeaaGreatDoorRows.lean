/-
  NARROWER THAN 'FOR EVERY INPUT', by the rows' own cells (each row's printed sentence says how): ClassfileNumbers: laid · ClassfileWrites: laid · ClassfileReads: laid · ClassfileBack: laid · ClassfileKept: laid · ClassfileMany: laid.
  DERIVED. THE GIVEN ROWS OF THIS SEAT. 6 by the template 'for every input the law returns true; each argument reads behind the call as it read before'; 0 by the template 'total and deterministic' (their statements: YthagaldpopnoeaaGreatDoorTotals.lean).
  GIVEN WITH THE SEED: the statements are not yours to turn. If you find one false, say at which input.
  Laid BY PROGRAM, IN A SANDBOX (cutbox-rows.mjs): the forced cells as the released guide's own fill.sh prints them over the translation 9fb5fec83046cc74… (all of the seat's roots in one cut). By AI agents, Wed Nov 11 2026. No macro, syntax, notation, axiom, sorry.
-/
import Derived.Test.YthagaldpopnoeaaGreatDoorChecked
import GoSem.PinnedTables
import GoSem.Claim
import GoSem.ClaimJoined
import GoSem.ClaimMapViews
import Derived.JoinedTies
import Derived.KernelRfl
namespace Go.Proofs.YthagaldpopnoeaaGreatDoor
/- THE CELL 'sum', in the pinned program and in every row, IS THE sha256 OF THE DUMP (.gsa) THAT YthagaldpopnoeaaGreatDoorProg.lean LOADS. Nothing in Lean hashes anything: it is a label: what it is worth is what the hold of that sum in a sandbox is worth. -/
noncomputable def Tryz.pinned : Pinned := { name := "ythagaldpopnoeaagreatdoor", sum := "9fb5fec83046cc746bb4486af0ecf2de3735833d4f7adda6786c0b5983893f40", checked := Tryz.checked }
namespace Rows
def none {H : Type} : Left H := { results := [], args := [] }

/- WHAT THE LISTED PACKAGE-LEVEL VARIABLES READ AS WHEN THE CALL BEGINS. Each datum BY PROGRAM (the guide's laid-datum.mjs) off the statement by which the dump's own 'gosem.cut.vars' lays the variable. In a bare row this is a premise. The card (YthagaldpopnoeaaGreatDoorCards.lean) ties it to the program's text. -/
def laid_unicode_utf8_acceptRanges {H : Type} : DataW H := .agg [.agg [.lit (.int .u8 128), .lit (.int .u8 191)], .agg [.lit (.int .u8 160), .lit (.int .u8 191)], .agg [.lit (.int .u8 128), .lit (.int .u8 159)], .agg [.lit (.int .u8 144), .lit (.int .u8 191)], .agg [.lit (.int .u8 128), .lit (.int .u8 143)], .agg [.lit (.int .u8 0), .lit (.int .u8 0)], .agg [.lit (.int .u8 0), .lit (.int .u8 0)], .agg [.lit (.int .u8 0), .lit (.int .u8 0)], .agg [.lit (.int .u8 0), .lit (.int .u8 0)], .agg [.lit (.int .u8 0), .lit (.int .u8 0)], .agg [.lit (.int .u8 0), .lit (.int .u8 0)], .agg [.lit (.int .u8 0), .lit (.int .u8 0)], .agg [.lit (.int .u8 0), .lit (.int .u8 0)], .agg [.lit (.int .u8 0), .lit (.int .u8 0)], .agg [.lit (.int .u8 0), .lit (.int .u8 0)], .agg [.lit (.int .u8 0), .lit (.int .u8 0)]]
/-- One of Go's own tables, pinned by name: the form's constant. -/
def laid_unicode_utf8_first : DataW Unit := Go.Pinned.utf8First

/-- 'carafelaw4.ClassfileNumbers': WHATEVER THE INPUT: true; the input reads as it did. -/
def classfileNumbersSpec : ChangeSpec := { name := "classfileNumbers", fn := fun _ => fun
  | [] => { results := [.lit (.bool true)], args := [] }
  | _ => none }
def classfileNumbersRow : OpenClaim := { program := "ythagaldpopnoeaagreatdoor", sum := "9fb5fec83046cc746bb4486af0ecf2de3735833d4f7adda6786c0b5983893f40", func := "carafe/carafelaw4.ClassfileNumbers", spec := "classfileNumbers", unfollowed := true, recurses := true, named := ["unicode/utf8.first", "unicode/utf8.acceptRanges"], apart := false, laid := [("unicode/utf8.acceptRanges", laid_unicode_utf8_acceptRanges), ("unicode/utf8.first", laid_unicode_utf8_first)] }
def ClassfileNumbersSaid : Prop := classfileNumbersRow.holds Tryz.pinned (OpenSpec.ofChange classfileNumbersSpec)

/-- ITS FALSE NEIGHBOUR: 'it returns false'. Refute it at one input. -/
def classfileNumbersWrong : ChangeSpec := { name := "classfileNumbers", fn := fun _ => fun
  | [] => { results := [.lit (.bool false)], args := [] }
  | _ => none }
def ClassfileNumbersWrongFalsely : Prop := classfileNumbersRow.holds Tryz.pinned (OpenSpec.ofChange classfileNumbersWrong)

/-- 'carafelaw4.ClassfileWrites': WHATEVER THE INPUT: true; the input reads as it did. -/
def classfileWritesSpec : ChangeSpec := { name := "classfileWrites", fn := fun _ => fun
  | [d1, d2] => { results := [.lit (.bool true)], args := [d1, d2] }
  | _ => none }
def classfileWritesRow : OpenClaim := { program := "ythagaldpopnoeaagreatdoor", sum := "9fb5fec83046cc746bb4486af0ecf2de3735833d4f7adda6786c0b5983893f40", func := "carafe/carafelaw4.ClassfileWrites", spec := "classfileWrites", unfollowed := true, recurses := true, named := ["unicode/utf8.first", "unicode/utf8.acceptRanges"], apart := false, laid := [("unicode/utf8.acceptRanges", laid_unicode_utf8_acceptRanges), ("unicode/utf8.first", laid_unicode_utf8_first)] }
def ClassfileWritesSaid : Prop := classfileWritesRow.holds Tryz.pinned (OpenSpec.ofChange classfileWritesSpec)

/-- ITS FALSE NEIGHBOUR: 'it returns false'. Refute it at one input. -/
def classfileWritesWrong : ChangeSpec := { name := "classfileWrites", fn := fun _ => fun
  | [d1, d2] => { results := [.lit (.bool false)], args := [d1, d2] }
  | _ => none }
def ClassfileWritesWrongFalsely : Prop := classfileWritesRow.holds Tryz.pinned (OpenSpec.ofChange classfileWritesWrong)

/-- 'carafelaw4.ClassfileReads': WHATEVER THE INPUT: true; the input reads as it did. -/
def classfileReadsSpec : ChangeSpec := { name := "classfileReads", fn := fun _ => fun
  | [d1, d2, d3, d4, d5] => { results := [.lit (.bool true)], args := [d1, d2, d3, d4, d5] }
  | _ => none }
def classfileReadsRow : OpenClaim := { program := "ythagaldpopnoeaagreatdoor", sum := "9fb5fec83046cc746bb4486af0ecf2de3735833d4f7adda6786c0b5983893f40", func := "carafe/carafelaw4.ClassfileReads", spec := "classfileReads", unfollowed := true, recurses := true, named := ["unicode/utf8.first", "unicode/utf8.acceptRanges"], apart := false, laid := [("unicode/utf8.acceptRanges", laid_unicode_utf8_acceptRanges), ("unicode/utf8.first", laid_unicode_utf8_first)] }
def ClassfileReadsSaid : Prop := classfileReadsRow.holds Tryz.pinned (OpenSpec.ofChange classfileReadsSpec)

/-- ITS FALSE NEIGHBOUR: 'it returns false'. Refute it at one input. -/
def classfileReadsWrong : ChangeSpec := { name := "classfileReads", fn := fun _ => fun
  | [d1, d2, d3, d4, d5] => { results := [.lit (.bool false)], args := [d1, d2, d3, d4, d5] }
  | _ => none }
def ClassfileReadsWrongFalsely : Prop := classfileReadsRow.holds Tryz.pinned (OpenSpec.ofChange classfileReadsWrong)

/-- 'carafelaw4.ClassfileBack': WHATEVER THE INPUT: true; the input reads as it did. -/
def classfileBackSpec : ChangeSpec := { name := "classfileBack", fn := fun _ => fun
  | [d1, d2, d3] => { results := [.lit (.bool true)], args := [d1, d2, d3] }
  | _ => none }
def classfileBackRow : OpenClaim := { program := "ythagaldpopnoeaagreatdoor", sum := "9fb5fec83046cc746bb4486af0ecf2de3735833d4f7adda6786c0b5983893f40", func := "carafe/carafelaw4.ClassfileBack", spec := "classfileBack", unfollowed := true, recurses := true, named := ["unicode/utf8.first", "unicode/utf8.acceptRanges"], apart := false, laid := [("unicode/utf8.acceptRanges", laid_unicode_utf8_acceptRanges), ("unicode/utf8.first", laid_unicode_utf8_first)] }
def ClassfileBackSaid : Prop := classfileBackRow.holds Tryz.pinned (OpenSpec.ofChange classfileBackSpec)

/-- ITS FALSE NEIGHBOUR: 'it returns false'. Refute it at one input. -/
def classfileBackWrong : ChangeSpec := { name := "classfileBack", fn := fun _ => fun
  | [d1, d2, d3] => { results := [.lit (.bool false)], args := [d1, d2, d3] }
  | _ => none }
def ClassfileBackWrongFalsely : Prop := classfileBackRow.holds Tryz.pinned (OpenSpec.ofChange classfileBackWrong)

/-- 'carafelaw4.ClassfileKept': WHATEVER THE INPUT: true; the input reads as it did. -/
def classfileKeptSpec : ChangeSpec := { name := "classfileKept", fn := fun _ => fun
  | [d] => { results := [.lit (.bool true)], args := [d] }
  | _ => none }
def classfileKeptRow : OpenClaim := { program := "ythagaldpopnoeaagreatdoor", sum := "9fb5fec83046cc746bb4486af0ecf2de3735833d4f7adda6786c0b5983893f40", func := "carafe/carafelaw4.ClassfileKept", spec := "classfileKept", unfollowed := true, recurses := true, named := ["unicode/utf8.first", "unicode/utf8.acceptRanges"], apart := false, laid := [("unicode/utf8.acceptRanges", laid_unicode_utf8_acceptRanges), ("unicode/utf8.first", laid_unicode_utf8_first)] }
def ClassfileKeptSaid : Prop := classfileKeptRow.holds Tryz.pinned (OpenSpec.ofChange classfileKeptSpec)

/-- ITS FALSE NEIGHBOUR: 'it returns false'. Refute it at one input. -/
def classfileKeptWrong : ChangeSpec := { name := "classfileKept", fn := fun _ => fun
  | [d] => { results := [.lit (.bool false)], args := [d] }
  | _ => none }
def ClassfileKeptWrongFalsely : Prop := classfileKeptRow.holds Tryz.pinned (OpenSpec.ofChange classfileKeptWrong)

/-- 'carafelaw4.ClassfileMany': WHATEVER THE INPUT: true; the input reads as it did. -/
def classfileManySpec : ChangeSpec := { name := "classfileMany", fn := fun _ => fun
  | [d1, d2] => { results := [.lit (.bool true)], args := [d1, d2] }
  | _ => none }
def classfileManyRow : OpenClaim := { program := "ythagaldpopnoeaagreatdoor", sum := "9fb5fec83046cc746bb4486af0ecf2de3735833d4f7adda6786c0b5983893f40", func := "carafe/carafelaw4.ClassfileMany", spec := "classfileMany", unfollowed := true, recurses := true, named := ["unicode/utf8.first", "unicode/utf8.acceptRanges"], apart := false, laid := [("unicode/utf8.acceptRanges", laid_unicode_utf8_acceptRanges), ("unicode/utf8.first", laid_unicode_utf8_first)] }
def ClassfileManySaid : Prop := classfileManyRow.holds Tryz.pinned (OpenSpec.ofChange classfileManySpec)

/-- ITS FALSE NEIGHBOUR: 'it returns false'. Refute it at one input. -/
def classfileManyWrong : ChangeSpec := { name := "classfileMany", fn := fun _ => fun
  | [d1, d2] => { results := [.lit (.bool false)], args := [d1, d2] }
  | _ => none }
def ClassfileManyWrongFalsely : Prop := classfileManyRow.holds Tryz.pinned (OpenSpec.ofChange classfileManyWrong)

/- THE SECOND FORM. 'bulk': how many values and letters a reading holds, each counted each time it is reached (what is shared counts as often as it is met; a slice's spare places count too). A statement '..UptoSaid' is the law's where the arguments, and the package variables that the reading takes, are together of bulk at most 1048576: NARROWER than '..Said'. Prove '..Said' where nothing that the law and all that it calls make is longer than what came in: it says more and counts as full. Else prove '..UptoSaid'. A law counts once. -/
mutual
def uptoBulk {H : Type} : DataW H → Nat
  | .lit (.string bytes) => bytes.length + 1
  | .lit _ => 1
  | .nil => 1
  | .ptr d => uptoBulk d + 1
  | .slice elems spare => uptoBulkAll elems + uptoBulkAll spare + 1
  | .agg parts => uptoBulkAll parts + 1
  | .iface _ d => uptoBulk d + 1
  | .map entries => uptoBulkEntries entries + 1
  | .held _ => 1
def uptoBulkAll {H : Type} : List (DataW H) → Nat
  | [] => 0
  | d :: r => uptoBulk d + uptoBulkAll r
def uptoBulkEntries {H : Type} : List (Lit × DataW H) → Nat
  | [] => 0
  | x :: r => uptoBulkEntry x + uptoBulkEntries r
def uptoBulkEntry {H : Type} : Lit × DataW H → Nat
  | (.string bytes, d) => bytes.length + uptoBulk d + 1
  | (_, d) => uptoBulk d + 1
 end
def uptoSmall : (H : Type) → List (DataW H) → Bool := fun _ ds => decide (uptoBulkAll ds ≤ 1048576)
def OpenSpec.upto (s : _root_.Go.ChangeSpec) : _root_.Go.OpenSpec := { _root_.Go.OpenSpec.ofChange s with cond := some uptoSmall }

/-- 'carafelaw4.ClassfileNumbers', WHERE WHAT IT READS IS OF BULK AT MOST 1048576: true; the input reads as it did. -/
def classfileNumbersUptoRow : OpenClaim := { program := "ythagaldpopnoeaagreatdoor", sum := "9fb5fec83046cc746bb4486af0ecf2de3735833d4f7adda6786c0b5983893f40", func := "carafe/carafelaw4.ClassfileNumbers", spec := "classfileNumbers", unfollowed := true, recurses := true, named := ["unicode/utf8.first", "unicode/utf8.acceptRanges"], apart := false, laid := [("unicode/utf8.acceptRanges", laid_unicode_utf8_acceptRanges), ("unicode/utf8.first", laid_unicode_utf8_first)], narrowed := true }
def ClassfileNumbersUptoSaid : Prop := classfileNumbersUptoRow.holds Tryz.pinned (OpenSpec.upto classfileNumbersSpec)

/-- 'carafelaw4.ClassfileWrites', WHERE WHAT IT READS IS OF BULK AT MOST 1048576: true; the input reads as it did. -/
def classfileWritesUptoRow : OpenClaim := { program := "ythagaldpopnoeaagreatdoor", sum := "9fb5fec83046cc746bb4486af0ecf2de3735833d4f7adda6786c0b5983893f40", func := "carafe/carafelaw4.ClassfileWrites", spec := "classfileWrites", unfollowed := true, recurses := true, named := ["unicode/utf8.first", "unicode/utf8.acceptRanges"], apart := false, laid := [("unicode/utf8.acceptRanges", laid_unicode_utf8_acceptRanges), ("unicode/utf8.first", laid_unicode_utf8_first)], narrowed := true }
def ClassfileWritesUptoSaid : Prop := classfileWritesUptoRow.holds Tryz.pinned (OpenSpec.upto classfileWritesSpec)

/-- 'carafelaw4.ClassfileReads', WHERE WHAT IT READS IS OF BULK AT MOST 1048576: true; the input reads as it did. -/
def classfileReadsUptoRow : OpenClaim := { program := "ythagaldpopnoeaagreatdoor", sum := "9fb5fec83046cc746bb4486af0ecf2de3735833d4f7adda6786c0b5983893f40", func := "carafe/carafelaw4.ClassfileReads", spec := "classfileReads", unfollowed := true, recurses := true, named := ["unicode/utf8.first", "unicode/utf8.acceptRanges"], apart := false, laid := [("unicode/utf8.acceptRanges", laid_unicode_utf8_acceptRanges), ("unicode/utf8.first", laid_unicode_utf8_first)], narrowed := true }
def ClassfileReadsUptoSaid : Prop := classfileReadsUptoRow.holds Tryz.pinned (OpenSpec.upto classfileReadsSpec)

/-- 'carafelaw4.ClassfileBack', WHERE WHAT IT READS IS OF BULK AT MOST 1048576: true; the input reads as it did. -/
def classfileBackUptoRow : OpenClaim := { program := "ythagaldpopnoeaagreatdoor", sum := "9fb5fec83046cc746bb4486af0ecf2de3735833d4f7adda6786c0b5983893f40", func := "carafe/carafelaw4.ClassfileBack", spec := "classfileBack", unfollowed := true, recurses := true, named := ["unicode/utf8.first", "unicode/utf8.acceptRanges"], apart := false, laid := [("unicode/utf8.acceptRanges", laid_unicode_utf8_acceptRanges), ("unicode/utf8.first", laid_unicode_utf8_first)], narrowed := true }
def ClassfileBackUptoSaid : Prop := classfileBackUptoRow.holds Tryz.pinned (OpenSpec.upto classfileBackSpec)

/-- 'carafelaw4.ClassfileKept', WHERE WHAT IT READS IS OF BULK AT MOST 1048576: true; the input reads as it did. -/
def classfileKeptUptoRow : OpenClaim := { program := "ythagaldpopnoeaagreatdoor", sum := "9fb5fec83046cc746bb4486af0ecf2de3735833d4f7adda6786c0b5983893f40", func := "carafe/carafelaw4.ClassfileKept", spec := "classfileKept", unfollowed := true, recurses := true, named := ["unicode/utf8.first", "unicode/utf8.acceptRanges"], apart := false, laid := [("unicode/utf8.acceptRanges", laid_unicode_utf8_acceptRanges), ("unicode/utf8.first", laid_unicode_utf8_first)], narrowed := true }
def ClassfileKeptUptoSaid : Prop := classfileKeptUptoRow.holds Tryz.pinned (OpenSpec.upto classfileKeptSpec)

/-- 'carafelaw4.ClassfileMany', WHERE WHAT IT READS IS OF BULK AT MOST 1048576: true; the input reads as it did. -/
def classfileManyUptoRow : OpenClaim := { program := "ythagaldpopnoeaagreatdoor", sum := "9fb5fec83046cc746bb4486af0ecf2de3735833d4f7adda6786c0b5983893f40", func := "carafe/carafelaw4.ClassfileMany", spec := "classfileMany", unfollowed := true, recurses := true, named := ["unicode/utf8.first", "unicode/utf8.acceptRanges"], apart := false, laid := [("unicode/utf8.acceptRanges", laid_unicode_utf8_acceptRanges), ("unicode/utf8.first", laid_unicode_utf8_first)], narrowed := true }
def ClassfileManyUptoSaid : Prop := classfileManyUptoRow.holds Tryz.pinned (OpenSpec.upto classfileManySpec)

end Rows
end Go.Proofs.YthagaldpopnoeaaGreatDoor
