/- LoaderAgrees, LoaderLine: what they would do, step by step. -/
import Derived.Test.YtacmooknfbjpeaaLJa
namespace Go.Proofs.Ytacmooknfbjpeaa.J
open Go.RowKit Go.MapKept Go.ChangeMaps
set_option linter.unusedVariables false

def agId (same : Bool) (i : Nat) : Int := if same then 100 else 100 + i
def agFirst (cut i : Nat) : Bool := decide (i = 1) || (decide (i = cut + 1) && decide (0 < cut))
def agChk (cut : Nat) (same : Bool) (i : Nat) (id e : Int) : Bool :=
  (decide (e = 0) == (same || agFirst cut i)) && (decide (e = 0) || decide (e = 25)) && (!(decide (e = 0) && !same) || decide (id = 99 + i))
def agC (cut : Nat) (same : Bool) : Nat → Nat → Ls → Bool
  | 0, _, _ => true
  | r + 1, i, S => match S.loadR i ⟨#[65]⟩ with
    | none => false
    | some (S', id, _, e) => agChk cut same i id e && agC cut same r (i + 1) S'
def agB (n cut : Nat) (same : Bool) : Nat → Nat → Ls → Bool
  | 0, _, S => agC cut same n 1 S
  | r + 1, i, S => if i = cut then agB n cut same r (i + 1) S else match S.agree i ((i : Int) + 1) ⟨#[65]⟩ with
    | (S', e) => decide (e = 0) && agB n cut same r (i + 1) S'
def agA (n cut : Nat) (same : Bool) : Nat → Nat → Ls → Bool
  | 0, _, S => agB n cut same (n - 1) 1 S
  | r + 1, i, S => match S.child 0 with
    | (S', k, e) => match S'.offer k ⟨#[65]⟩ ⟨#[]⟩ (agId same i) with
      | (S'', e') => decide (e = 0) && decide (k = (i : Int) + 1) && decide (e' = 0) && agA n cut same r (i + 1) S''
def agAll : Bool := (List.range 9).all fun a => (List.range (a + 2)).all fun cut => agA (a + 2) cut true (a + 2) 0 kS0 && agA (a + 2) cut false (a + 2) 0 kS0
set_option maxRecDepth 100000 in
theorem agAll_true : agAll = true := by kernel_rfl

def lnC (at_ ask : Nat) (S : Ls) : Bool := match S.loadR ask ⟨#[65]⟩ with
  | none => false
  | some (S', id, d, e) => if ask < at_ then decide (e = 22) else
    decide (e = 0) && decide (id = 100 + at_) && decide (d = at_) && decide ((S'.ldd at_ ⟨#[66]⟩).map (·.1) = some (200 + (at_ : Int))) && ((S'.ldd ask ⟨#[66]⟩).isSome == decide (ask = at_))
def lnB (deep at_ : Nat) : Nat → Nat → Ls → Bool
  | 0, _, S => (List.range (deep + 1)).all fun ask => lnC at_ ask S
  | r + 1, i, S => match S.offer i ⟨#[65]⟩ ⟨#[66]⟩ (100 + i) with
    | (S', e) => match S'.offer i ⟨#[66]⟩ ⟨#[]⟩ (200 + i) with
      | (S'', e') => decide (e = 0) && decide (e' = 0) && lnB deep at_ r (i + 1) S''
def lnA (deep at_ : Nat) : Nat → Nat → Ls → Bool
  | 0, _, S => lnB deep at_ (deep + 1 - at_) at_ S
  | r + 1, i, S => match S.child i with
    | (S', _, e) => decide (e = 0) && lnA deep at_ r (i + 1) S'
def lnAll : Bool := (List.range 16).all fun deep => (List.range (deep + 1)).all fun at_ => lnA deep at_ deep 0 kS0
set_option maxRecDepth 100000 in
theorem lnAll_true : lnAll = true := by kernel_rfl
end Go.Proofs.Ytacmooknfbjpeaa.J
