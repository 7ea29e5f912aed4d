/-
  No cell of these rows narrows 'for every input' (looked for: loops, veiled, ifaces, maps, wideKeys, modest, calm, conditions, laid).
  DERIVED. THE GIVEN ROWS OF THIS SEAT. 2 by the template 'for every input the law returns true; each argument reads behind the call as it read before'; 0 by the template 'total and deterministic' (their statements: YtbmfkbgncjldjabGreatTotals.lean).
  GIVEN WITH THE SEED: the statements are not yours to turn. If you find one false, say at which input.
  Laid BY PROGRAM, IN A SANDBOX (cutbox-rows.mjs): the forced cells as the released guide's own fill.sh prints them over the translation 16c1663d31165d7e… (all of the seat's roots in one cut). By AI agents, Wed Nov 11 2026. No macro, syntax, notation, axiom, sorry.
-/
import Derived.Test.YtbmfkbgncjldjabGreatChecked
import GoSem.Claim
import GoSem.ClaimJoined
import GoSem.ClaimMapViews
import Derived.JoinedTies
import Derived.KernelRfl
namespace Go.Proofs.YtbmfkbgncjldjabGreat
/- THE CELL 'sum', in the pinned program and in every row, IS THE sha256 OF THE DUMP (.gsa) THAT YtbmfkbgncjldjabGreatProg.lean LOADS. Nothing in Lean hashes anything: it is a label: what it is worth is what the hold of that sum in a sandbox is worth. -/
noncomputable def Tryz.pinned : Pinned := { name := "ytbmfkbgncjldjabgreat", sum := "16c1663d31165d7e94ae643ab3f27138f7f979d667f85083d98f6c7701222bc7", checked := Tryz.checked }
namespace Rows
def none {H : Type} : Left H := { results := [], args := [] }

/-- 'carafelaw7.KinOrder': WHATEVER THE INPUT: true; the input reads as it did. -/
def kinOrderSpec : ChangeSpec := { name := "kinOrder", fn := fun _ => fun
  | [d1, d2] => { results := [.lit (.bool true)], args := [d1, d2] }
  | _ => none }
def kinOrderRow : OpenClaim := { program := "ytbmfkbgncjldjabgreat", sum := "16c1663d31165d7e94ae643ab3f27138f7f979d667f85083d98f6c7701222bc7", func := "carafe/carafelaw7.KinOrder", spec := "kinOrder", unfollowed := true, recurses := true, apart := false }
def KinOrderSaid : Prop := kinOrderRow.holds Tryz.pinned (OpenSpec.ofChange kinOrderSpec)

/-- ITS FALSE NEIGHBOUR: 'it returns false'. Refute it at one input. -/
def kinOrderWrong : ChangeSpec := { name := "kinOrder", fn := fun _ => fun
  | [d1, d2] => { results := [.lit (.bool false)], args := [d1, d2] }
  | _ => none }
def KinOrderWrongFalsely : Prop := kinOrderRow.holds Tryz.pinned (OpenSpec.ofChange kinOrderWrong)

/-- 'carafelaw7.KinKept': WHATEVER THE INPUT: true; the input reads as it did. -/
def kinKeptSpec : ChangeSpec := { name := "kinKept", fn := fun _ => fun
  | [d] => { results := [.lit (.bool true)], args := [d] }
  | _ => none }
def kinKeptRow : OpenClaim := { program := "ytbmfkbgncjldjabgreat", sum := "16c1663d31165d7e94ae643ab3f27138f7f979d667f85083d98f6c7701222bc7", func := "carafe/carafelaw7.KinKept", spec := "kinKept", unfollowed := true, recurses := true, apart := false }
def KinKeptSaid : Prop := kinKeptRow.holds Tryz.pinned (OpenSpec.ofChange kinKeptSpec)

/-- ITS FALSE NEIGHBOUR: 'it returns false'. Refute it at one input. -/
def kinKeptWrong : ChangeSpec := { name := "kinKept", fn := fun _ => fun
  | [d] => { results := [.lit (.bool false)], args := [d] }
  | _ => none }
def KinKeptWrongFalsely : Prop := kinKeptRow.holds Tryz.pinned (OpenSpec.ofChange kinKeptWrong)

/- THE SECOND FORM. 'bulk': how many values and letters a reading holds, each counted each time it is reached (what is shared counts as often as it is met; a slice's spare places count too). A statement '..UptoSaid' is the law's where the arguments, and the package variables that the reading takes, are together of bulk at most 1048576: NARROWER than '..Said'. Prove '..Said' where nothing that the law and all that it calls make is longer than what came in: it says more and counts as full. Else prove '..UptoSaid'. A law counts once. -/
mutual
def uptoBulk {H : Type} : DataW H → Nat
  | .lit (.string bytes) => bytes.length + 1
  | .lit _ => 1
  | .nil => 1
  | .ptr d => uptoBulk d + 1
  | .slice elems spare => uptoBulkAll elems + uptoBulkAll spare + 1
  | .agg parts => uptoBulkAll parts + 1
  | .iface _ d => uptoBulk d + 1
  | .map entries => uptoBulkEntries entries + 1
  | .held _ => 1
def uptoBulkAll {H : Type} : List (DataW H) → Nat
  | [] => 0
  | d :: r => uptoBulk d + uptoBulkAll r
def uptoBulkEntries {H : Type} : List (Lit × DataW H) → Nat
  | [] => 0
  | x :: r => uptoBulkEntry x + uptoBulkEntries r
def uptoBulkEntry {H : Type} : Lit × DataW H → Nat
  | (.string bytes, d) => bytes.length + uptoBulk d + 1
  | (_, d) => uptoBulk d + 1
 end
def uptoSmall : (H : Type) → List (DataW H) → Bool := fun _ ds => decide (uptoBulkAll ds ≤ 1048576)
def OpenSpec.upto (s : _root_.Go.ChangeSpec) : _root_.Go.OpenSpec := { _root_.Go.OpenSpec.ofChange s with cond := some uptoSmall }

/-- 'carafelaw7.KinOrder', WHERE WHAT IT READS IS OF BULK AT MOST 1048576: true; the input reads as it did. -/
def kinOrderUptoRow : OpenClaim := { program := "ytbmfkbgncjldjabgreat", sum := "16c1663d31165d7e94ae643ab3f27138f7f979d667f85083d98f6c7701222bc7", func := "carafe/carafelaw7.KinOrder", spec := "kinOrder", unfollowed := true, recurses := true, apart := false, narrowed := true }
def KinOrderUptoSaid : Prop := kinOrderUptoRow.holds Tryz.pinned (OpenSpec.upto kinOrderSpec)

/-- 'carafelaw7.KinKept', WHERE WHAT IT READS IS OF BULK AT MOST 1048576: true; the input reads as it did. -/
def kinKeptUptoRow : OpenClaim := { program := "ytbmfkbgncjldjabgreat", sum := "16c1663d31165d7e94ae643ab3f27138f7f979d667f85083d98f6c7701222bc7", func := "carafe/carafelaw7.KinKept", spec := "kinKept", unfollowed := true, recurses := true, apart := false, narrowed := true }
def KinKeptUptoSaid : Prop := kinKeptUptoRow.holds Tryz.pinned (OpenSpec.upto kinKeptSpec)

end Rows
end Go.Proofs.YtbmfkbgncjldjabGreat
