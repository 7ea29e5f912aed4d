/-
  No cell of these rows narrows 'for every input' (looked for: loops, veiled, ifaces, maps, wideKeys, modest, calm, conditions, laid).
  DERIVED. THE GIVEN ROWS OF THIS SEAT. 6 by the template 'for every input the law returns true; each argument reads behind the call as it read before'; 0 by the template 'total and deterministic' (their statements: YtpehimfnkmepnaaGreatTotals.lean).
  GIVEN WITH THE SEED: the statements are not yours to turn. If you find one false, say at which input.
  Laid BY PROGRAM, IN A SANDBOX (cutbox-rows.mjs): the forced cells as the released guide's own fill.sh prints them over the translation 6f0432b281651aa1… (all of the seat's roots in one cut). By AI agents, Wed Nov 11 2026. No macro, syntax, notation, axiom, sorry.
-/
import Derived.Test.YtpehimfnkmepnaaGreatChecked
import GoSem.Claim
import GoSem.ClaimJoined
import GoSem.ClaimMapViews
import Derived.JoinedTies
import Derived.KernelRfl
namespace Go.Proofs.YtpehimfnkmepnaaGreat
/- THE CELL 'sum', in the pinned program and in every row, IS THE sha256 OF THE DUMP (.gsa) THAT YtpehimfnkmepnaaGreatProg.lean LOADS. Nothing in Lean hashes anything: it is a label: what it is worth is what the hold of that sum in a sandbox is worth. -/
noncomputable def Tryz.pinned : Pinned := { name := "ytpehimfnkmepnaagreat", sum := "6f0432b281651aa1b642ab58ee349e90e4684df7dee0ca5d469db3891e015548", checked := Tryz.checked }
namespace Rows
def none {H : Type} : Left H := { results := [], args := [] }

/-- 'carafelaw7.KinKept': WHATEVER THE INPUT: true; the input reads as it did. -/
def kinKeptSpec : ChangeSpec := { name := "kinKept", fn := fun _ => fun
  | [d] => { results := [.lit (.bool true)], args := [d] }
  | _ => none }
def kinKeptRow : OpenClaim := { program := "ytpehimfnkmepnaagreat", sum := "6f0432b281651aa1b642ab58ee349e90e4684df7dee0ca5d469db3891e015548", func := "carafe/carafelaw7.KinKept", spec := "kinKept", unfollowed := true, recurses := true, apart := false }
def KinKeptSaid : Prop := kinKeptRow.holds Tryz.pinned (OpenSpec.ofChange kinKeptSpec)

/-- ITS FALSE NEIGHBOUR: 'it returns false'. Refute it at one input. -/
def kinKeptWrong : ChangeSpec := { name := "kinKept", fn := fun _ => fun
  | [d] => { results := [.lit (.bool false)], args := [d] }
  | _ => none }
def KinKeptWrongFalsely : Prop := kinKeptRow.holds Tryz.pinned (OpenSpec.ofChange kinKeptWrong)

/-- 'carafelaw8.TypesCompare': WHATEVER THE INPUT: true; the input reads as it did. -/
def typesCompareSpec : ChangeSpec := { name := "typesCompare", fn := fun _ => fun
  | [d1, d2, d3, d4] => { results := [.lit (.bool true)], args := [d1, d2, d3, d4] }
  | _ => none }
def typesCompareRow : OpenClaim := { program := "ytpehimfnkmepnaagreat", sum := "6f0432b281651aa1b642ab58ee349e90e4684df7dee0ca5d469db3891e015548", func := "carafe/carafelaw8.TypesCompare", spec := "typesCompare", unfollowed := true, recurses := true, apart := false }
def TypesCompareSaid : Prop := typesCompareRow.holds Tryz.pinned (OpenSpec.ofChange typesCompareSpec)

/-- ITS FALSE NEIGHBOUR: 'it returns false'. Refute it at one input. -/
def typesCompareWrong : ChangeSpec := { name := "typesCompare", fn := fun _ => fun
  | [d1, d2, d3, d4] => { results := [.lit (.bool false)], args := [d1, d2, d3, d4] }
  | _ => none }
def TypesCompareWrongFalsely : Prop := typesCompareRow.holds Tryz.pinned (OpenSpec.ofChange typesCompareWrong)

/-- 'carafelaw8.TypesOrder': WHATEVER THE INPUT: true; the input reads as it did. -/
def typesOrderSpec : ChangeSpec := { name := "typesOrder", fn := fun _ => fun
  | [d1, d2, d3, d4] => { results := [.lit (.bool true)], args := [d1, d2, d3, d4] }
  | _ => none }
def typesOrderRow : OpenClaim := { program := "ytpehimfnkmepnaagreat", sum := "6f0432b281651aa1b642ab58ee349e90e4684df7dee0ca5d469db3891e015548", func := "carafe/carafelaw8.TypesOrder", spec := "typesOrder", unfollowed := true, recurses := true, apart := false }
def TypesOrderSaid : Prop := typesOrderRow.holds Tryz.pinned (OpenSpec.ofChange typesOrderSpec)

/-- ITS FALSE NEIGHBOUR: 'it returns false'. Refute it at one input. -/
def typesOrderWrong : ChangeSpec := { name := "typesOrder", fn := fun _ => fun
  | [d1, d2, d3, d4] => { results := [.lit (.bool false)], args := [d1, d2, d3, d4] }
  | _ => none }
def TypesOrderWrongFalsely : Prop := typesOrderRow.holds Tryz.pinned (OpenSpec.ofChange typesOrderWrong)

/-- 'carafelaw8.TypesJoin': WHATEVER THE INPUT: true; the input reads as it did. -/
def typesJoinSpec : ChangeSpec := { name := "typesJoin", fn := fun _ => fun
  | [d1, d2, d3] => { results := [.lit (.bool true)], args := [d1, d2, d3] }
  | _ => none }
def typesJoinRow : OpenClaim := { program := "ytpehimfnkmepnaagreat", sum := "6f0432b281651aa1b642ab58ee349e90e4684df7dee0ca5d469db3891e015548", func := "carafe/carafelaw8.TypesJoin", spec := "typesJoin", unfollowed := true, recurses := true, apart := false }
def TypesJoinSaid : Prop := typesJoinRow.holds Tryz.pinned (OpenSpec.ofChange typesJoinSpec)

/-- ITS FALSE NEIGHBOUR: 'it returns false'. Refute it at one input. -/
def typesJoinWrong : ChangeSpec := { name := "typesJoin", fn := fun _ => fun
  | [d1, d2, d3] => { results := [.lit (.bool false)], args := [d1, d2, d3] }
  | _ => none }
def TypesJoinWrongFalsely : Prop := typesJoinRow.holds Tryz.pinned (OpenSpec.ofChange typesJoinWrong)

/-- 'carafelaw9.FramesWork': WHATEVER THE INPUT: true; the input reads as it did. -/
def framesWorkSpec : ChangeSpec := { name := "framesWork", fn := fun _ => fun
  | [d1, d2, d3, d4, d5, d6, d7, d8] => { results := [.lit (.bool true)], args := [d1, d2, d3, d4, d5, d6, d7, d8] }
  | _ => none }
def framesWorkRow : OpenClaim := { program := "ytpehimfnkmepnaagreat", sum := "6f0432b281651aa1b642ab58ee349e90e4684df7dee0ca5d469db3891e015548", func := "carafe/carafelaw9.FramesWork", spec := "framesWork", inPlace := ["slices.overlaps[string]"], unfollowed := true, recurses := true, apart := false }
def FramesWorkSaid : Prop := framesWorkRow.holds Tryz.pinned (OpenSpec.ofChange framesWorkSpec)

/-- ITS FALSE NEIGHBOUR: 'it returns false'. Refute it at one input. -/
def framesWorkWrong : ChangeSpec := { name := "framesWork", fn := fun _ => fun
  | [d1, d2, d3, d4, d5, d6, d7, d8] => { results := [.lit (.bool false)], args := [d1, d2, d3, d4, d5, d6, d7, d8] }
  | _ => none }
def FramesWorkWrongFalsely : Prop := framesWorkRow.holds Tryz.pinned (OpenSpec.ofChange framesWorkWrong)

/-- 'carafelaw10.VerifyNumbers': WHATEVER THE INPUT: true; the input reads as it did. -/
def verifyNumbersSpec : ChangeSpec := { name := "verifyNumbers", fn := fun _ => fun
  | [] => { results := [.lit (.bool true)], args := [] }
  | _ => none }
def verifyNumbersRow : OpenClaim := { program := "ytpehimfnkmepnaagreat", sum := "6f0432b281651aa1b642ab58ee349e90e4684df7dee0ca5d469db3891e015548", func := "carafe/carafelaw10.VerifyNumbers", spec := "verifyNumbers", inPlace := ["slices.overlaps[string]"], unfollowed := true, recurses := true, apart := false }
def VerifyNumbersSaid : Prop := verifyNumbersRow.holds Tryz.pinned (OpenSpec.ofChange verifyNumbersSpec)

/-- ITS FALSE NEIGHBOUR: 'it returns false'. Refute it at one input. -/
def verifyNumbersWrong : ChangeSpec := { name := "verifyNumbers", fn := fun _ => fun
  | [] => { results := [.lit (.bool false)], args := [] }
  | _ => none }
def VerifyNumbersWrongFalsely : Prop := verifyNumbersRow.holds Tryz.pinned (OpenSpec.ofChange verifyNumbersWrong)

/- THE SECOND FORM. 'bulk': how many values and letters a reading holds, each counted each time it is reached (what is shared counts as often as it is met; a slice's spare places count too). A statement '..UptoSaid' is the law's where the arguments, and the package variables that the reading takes, are together of bulk at most 1048576: NARROWER than '..Said'. Prove '..Said' where nothing that the law and all that it calls make is longer than what came in: it says more and counts as full. Else prove '..UptoSaid'. A law counts once. -/
mutual
def uptoBulk {H : Type} : DataW H → Nat
  | .lit (.string bytes) => bytes.length + 1
  | .lit _ => 1
  | .nil => 1
  | .ptr d => uptoBulk d + 1
  | .slice elems spare => uptoBulkAll elems + uptoBulkAll spare + 1
  | .agg parts => uptoBulkAll parts + 1
  | .iface _ d => uptoBulk d + 1
  | .map entries => uptoBulkEntries entries + 1
  | .held _ => 1
def uptoBulkAll {H : Type} : List (DataW H) → Nat
  | [] => 0
  | d :: r => uptoBulk d + uptoBulkAll r
def uptoBulkEntries {H : Type} : List (Lit × DataW H) → Nat
  | [] => 0
  | x :: r => uptoBulkEntry x + uptoBulkEntries r
def uptoBulkEntry {H : Type} : Lit × DataW H → Nat
  | (.string bytes, d) => bytes.length + uptoBulk d + 1
  | (_, d) => uptoBulk d + 1
 end
def uptoSmall : (H : Type) → List (DataW H) → Bool := fun _ ds => decide (uptoBulkAll ds ≤ 1048576)
def OpenSpec.upto (s : _root_.Go.ChangeSpec) : _root_.Go.OpenSpec := { _root_.Go.OpenSpec.ofChange s with cond := some uptoSmall }

/-- 'carafelaw7.KinKept', WHERE WHAT IT READS IS OF BULK AT MOST 1048576: true; the input reads as it did. -/
def kinKeptUptoRow : OpenClaim := { program := "ytpehimfnkmepnaagreat", sum := "6f0432b281651aa1b642ab58ee349e90e4684df7dee0ca5d469db3891e015548", func := "carafe/carafelaw7.KinKept", spec := "kinKept", unfollowed := true, recurses := true, apart := false, narrowed := true }
def KinKeptUptoSaid : Prop := kinKeptUptoRow.holds Tryz.pinned (OpenSpec.upto kinKeptSpec)

/-- 'carafelaw8.TypesCompare', WHERE WHAT IT READS IS OF BULK AT MOST 1048576: true; the input reads as it did. -/
def typesCompareUptoRow : OpenClaim := { program := "ytpehimfnkmepnaagreat", sum := "6f0432b281651aa1b642ab58ee349e90e4684df7dee0ca5d469db3891e015548", func := "carafe/carafelaw8.TypesCompare", spec := "typesCompare", unfollowed := true, recurses := true, apart := false, narrowed := true }
def TypesCompareUptoSaid : Prop := typesCompareUptoRow.holds Tryz.pinned (OpenSpec.upto typesCompareSpec)

/-- 'carafelaw8.TypesOrder', WHERE WHAT IT READS IS OF BULK AT MOST 1048576: true; the input reads as it did. -/
def typesOrderUptoRow : OpenClaim := { program := "ytpehimfnkmepnaagreat", sum := "6f0432b281651aa1b642ab58ee349e90e4684df7dee0ca5d469db3891e015548", func := "carafe/carafelaw8.TypesOrder", spec := "typesOrder", unfollowed := true, recurses := true, apart := false, narrowed := true }
def TypesOrderUptoSaid : Prop := typesOrderUptoRow.holds Tryz.pinned (OpenSpec.upto typesOrderSpec)

/-- 'carafelaw8.TypesJoin', WHERE WHAT IT READS IS OF BULK AT MOST 1048576: true; the input reads as it did. -/
def typesJoinUptoRow : OpenClaim := { program := "ytpehimfnkmepnaagreat", sum := "6f0432b281651aa1b642ab58ee349e90e4684df7dee0ca5d469db3891e015548", func := "carafe/carafelaw8.TypesJoin", spec := "typesJoin", unfollowed := true, recurses := true, apart := false, narrowed := true }
def TypesJoinUptoSaid : Prop := typesJoinUptoRow.holds Tryz.pinned (OpenSpec.upto typesJoinSpec)

/-- 'carafelaw9.FramesWork', WHERE WHAT IT READS IS OF BULK AT MOST 1048576: true; the input reads as it did. -/
def framesWorkUptoRow : OpenClaim := { program := "ytpehimfnkmepnaagreat", sum := "6f0432b281651aa1b642ab58ee349e90e4684df7dee0ca5d469db3891e015548", func := "carafe/carafelaw9.FramesWork", spec := "framesWork", inPlace := ["slices.overlaps[string]"], unfollowed := true, recurses := true, apart := false, narrowed := true }
def FramesWorkUptoSaid : Prop := framesWorkUptoRow.holds Tryz.pinned (OpenSpec.upto framesWorkSpec)

/-- 'carafelaw10.VerifyNumbers', WHERE WHAT IT READS IS OF BULK AT MOST 1048576: true; the input reads as it did. -/
def verifyNumbersUptoRow : OpenClaim := { program := "ytpehimfnkmepnaagreat", sum := "6f0432b281651aa1b642ab58ee349e90e4684df7dee0ca5d469db3891e015548", func := "carafe/carafelaw10.VerifyNumbers", spec := "verifyNumbers", inPlace := ["slices.overlaps[string]"], unfollowed := true, recurses := true, apart := false, narrowed := true }
def VerifyNumbersUptoSaid : Prop := verifyNumbersUptoRow.holds Tryz.pinned (OpenSpec.upto verifyNumbersSpec)

end Rows
end Go.Proofs.YtpehimfnkmepnaaGreat
