/- The classes of KinFinds, by the kernel. -/
import Derived.Test.YtlkhfpbniogllaaKMp
namespace Go.Proofs.Ytlkhfpbniogllaa.K
open Go.RowKit Q Q.D

def nameF (i : Nat) : ByteArray := ⟨#[67]⟩ ++ ⟨#[UInt8.ofNat (97 + i)]⟩
def fieldF (i own : Nat) : FD := ⟨⟨#[102]⟩, ⟨#[73]⟩, decide (i = own)⟩
def methF : MD := ⟨⟨#[109]⟩, ⟨#[40, 41, 86]⟩, false, false, 0, 1, [177], [], []⟩
/-- The i-th class that is made. -/
def fK (at_ own i : Nat) : KD := ⟨nameF i, if i = 0 then objectN else nameF (i - 1), [], if i = at_ ∨ i = own then [fieldF i own] else [], if i = at_ ∨ i = own then [methF] else []⟩
def KF (at_ own a : Nat) : List KD := ((List.range a).map (fK at_ own)).reverse ++ givenK.reverse
theorem kf_succ (at_ own a : Nat) : KF at_ own (a + 1) = fK at_ own a :: KF at_ own a := by simp [KF, List.range_succ]
def isKF : ByteArray × ByteArray := (⟨#[102]⟩, ⟨#[73]⟩)
def wantF (at_ own i : Nat) : Option Nat := if own ≤ i then some own else if at_ ≤ i then some at_ else none
/-- All that the law asks, of one choice. -/
def okF (n at_ own : Nat) : Bool :=
  (List.range n).all (fun i => decide (krefZ (KF at_ own i) (fK at_ own i) = 0)) &&
  (List.range n).all (fun i =>
    match knear (fun k => ixZ k.fs (isF ⟨#[102]⟩ ⟨#[73]⟩)) (klin (KF at_ own n) (nameF i)), wantF at_ own i with
    | none, none => true
    | some k, some j => (k.nm == nameF j) && (match k.fs.find? (isF ⟨#[102]⟩ ⟨#[73]⟩) with | some f => f.st == decide (own ≤ i) | none => false)
    | _, _ => false) &&
  (List.range n).all (fun i =>
    match knear (fun k => ixZ k.ms (isM ⟨#[109]⟩ ⟨#[40, 41, 86]⟩)) (klin (KF at_ own n) (nameF i)), wantF at_ own i with
    | none, none => true
    | some k, some j => k.nm == nameF j
    | _, _ => false)
theorem okF_all : ∀ n : Fin 10, ∀ a : Fin 9, ∀ o : Fin 9, 0 < n.val → a.val < n.val → a.val ≤ o.val → o.val < n.val → okF n.val a.val o.val = true := by decide +kernel
end Go.Proofs.Ytlkhfpbniogllaa.K
