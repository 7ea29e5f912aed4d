/- What a Kin answers hangs on its classes alone. -/
import Derived.Test.YtknppdpcgdncdaaKX
import Derived.Test.YtknppdpcgdncdaaKU
namespace Go.Proofs.Ytknppdpcgdncdaa.K
open Go.RowKit Q Q.D

def kfind : List KD → ByteArray → Option KD
  | [], _ => none
  | m :: o, s => if s == m.nm then some m else kfind o s
def klin : List KD → ByteArray → List KD
  | [], _ => []
  | m :: o, s => if s == m.nm then m :: klin o m.sup else klin o s
theorem mfind_k : ∀ (R : List Mem) (s : ByteArray), (mfind R s).map Mem.k = kfind (R.map Mem.k) s
  | [], _ => rfl
  | m :: o, s => by
    simp only [mfind, kfind, List.map_cons]
    split
    · rfl
    · exact mfind_k o s
theorem lin_k : ∀ (R : List Mem) (s : ByteArray), (lin R s).map Mem.k = klin (R.map Mem.k) s
  | [], _ => rfl
  | m :: o, s => by
    simp only [lin, klin, List.map_cons]
    split
    · simp only [List.map_cons, lin_k o]
    · exact lin_k o s
def knear (q : KD → Int) : List KD → Option KD
  | [] => none
  | m :: l => if 0 ≤ q m then some m else knear q l
theorem near_k (q : KD → Int) : ∀ (l : List Mem), (near (fun m => q m.k) l).map Mem.k = knear q (l.map Mem.k)
  | [] => rfl
  | m :: l => by
    simp only [near, knear, List.map_cons]
    split
    · rfl
    · exact near_k q l
def kfoundM (nm ds : ByteArray) (l : List KD) : Option MD := match knear (fun k => ixZ k.ms (isM nm ds)) l with | some m => m.ms.find? (isM nm ds) | none => none
theorem foundM_k (nm ds : ByteArray) (l : List Mem) : foundM nm ds l = kfoundM nm ds (l.map Mem.k) := by
  unfold foundM kfoundM
  have := near_k (fun k => ixZ k.ms (isM nm ds)) l
  rw [← this]
  show (match near (qM nm ds) l with | some m => _ | none => _) = _
  have e : (fun m : Mem => ixZ m.k.ms (isM nm ds)) = qM nm ds := rfl
  rw [e]
  cases near (qM nm ds) l <;> rfl
def kcontraB (l : List KD) (x : MD) : Bool := match kfoundM x.nm x.ds l with | some y => y.st != x.st | none => false
theorem contraB_k (l : List Mem) (x : MD) : contraB l x = kcontraB (l.map Mem.k) x := by
  unfold contraB kcontraB
  rw [foundM_k]
  cases kfoundM x.nm x.ds (l.map Mem.k) <;> rfl
def krefZ (R : List KD) (k : KD) : Int :=
  if rightZ k = 0 then
    (if (kfind R k.nm).isSome then 23 else if 32 ≤ R.length then 4 else if (kfind R k.sup).isNone then 22 else if k.ms.any MD.nat then 12 else if k.ms.any (kcontraB (klin R k.sup)) then 23 else 0)
  else rightZ k
theorem refZ_k (R : List Mem) (k : KD) : refZ R k = krefZ (R.map Mem.k) k := by
  unfold refZ krefZ
  have e1 : (mfind R k.nm).isSome = (kfind (R.map Mem.k) k.nm).isSome := by rw [← mfind_k]; cases mfind R k.nm <;> rfl
  have e2 : (mfind R k.sup).isNone = (kfind (R.map Mem.k) k.sup).isNone := by rw [← mfind_k]; cases mfind R k.sup <;> rfl
  have e3 : contraB (lin R k.sup) = kcontraB (klin (R.map Mem.k) k.sup) := by
    funext x
    rw [contraB_k, lin_k]
  rw [e1, e2, e3, List.length_map]
/-- What Method and Field answer, by classes alone. -/
theorem meth_k {R : List Mem} {cls nm ds : ByteArray} {w w' : World} {e : Ending} (h : MethIs R cls nm ds w w' e) : match knear (fun k => ixZ k.ms (isM nm ds)) (klin (R.map Mem.k) cls) with
    | none => e = .returned (.tuple #[.string ⟨#[]⟩, .agg #[.string ⟨#[]⟩, .string ⟨#[]⟩, .bool false, .bool false, .int .i64 0, .int .i64 0, .slice none 0 0, .slice none 0 0, .slice none 0 0], .bool false])
    | some k => ∃ y row', k.ms.find? (isM nm ds) = some y ∧ e = .returned (.tuple #[.string k.nm, .agg (row' : List Value).toArray, .bool true]) ∧ MethR (seen (newB w.heap.size) w') row' y := by
  unfold MethIs at h
  have := near_k (fun k => ixZ k.ms (isM nm ds)) (lin R cls)
  rw [← lin_k, ← this]
  have e : (fun m : Mem => ixZ m.k.ms (isM nm ds)) = qM nm ds := rfl
  rw [e]
  cases hn : near (qM nm ds) (lin R cls) with
  | none => rw [hn] at h; exact h
  | some m => rw [hn] at h; exact h
theorem field_k {R : List Mem} {cls nm ds : ByteArray} {e : Ending} (h : FieldIs R cls nm ds e) : match knear (fun k => ixZ k.fs (isF nm ds)) (klin (R.map Mem.k) cls) with
    | none => e = .returned (.tuple #[.string ⟨#[]⟩, .agg #[.string ⟨#[]⟩, .string ⟨#[]⟩, .bool false], .bool false])
    | some k => ∃ f, k.fs.find? (isF nm ds) = some f ∧ e = .returned (.tuple #[.string k.nm, .agg #[.string f.nm, .string f.ds, .bool f.st], .bool true]) := by
  unfold FieldIs at h
  have := near_k (fun k => ixZ k.fs (isF nm ds)) (lin R cls)
  rw [← lin_k, ← this]
  have e : (fun m : Mem => ixZ m.k.fs (isF nm ds)) = qF nm ds := rfl
  rw [e]
  cases hn : near (qF nm ds) (lin R cls) with
  | none => rw [hn] at h; exact h
  | some m => rw [hn] at h; exact h
theorem given_small : ∀ k ∈ givenK, KSm k := by
  intro k hk
  refine ⟨?_, ?_, ?_, ?_⟩
  · revert k; decide
  · revert k; decide
  · revert k; decide
  · intro m hm
    refine ⟨?_, ?_, ?_, ?_⟩
    · revert hm; revert m; revert k; decide
    · revert hm; revert m; revert k; decide
    · revert hm; revert m; revert k; decide
    · have : m.rs = [] := by revert hm; revert m; revert k; decide
      rw [this]; simp

def Alpha : ByteArray := ⟨#[65]⟩
theorem k_known1 : krefZ givenK.reverse (plainK Alpha ⟨#[66]⟩) = 22 := by decide +kernel
theorem k_known2 : krefZ givenK.reverse (plainK Alpha ⟨#[84, 104, 114, 101, 97, 100]⟩) = 0 := by decide +kernel
theorem k_known3 : klin (plainK Alpha ⟨#[84, 104, 114, 101, 97, 100]⟩ :: givenK.reverse) ⟨#[73, 110, 100, 101, 120]⟩ = [plainK ⟨#[73, 110, 100, 101, 120]⟩ throwableN, plainK throwableN objectN, objectK] := by rfl
theorem k_known4 : knear (fun k => ixZ k.ms (isM ⟨#[115, 116, 97, 114, 116]⟩ ⟨#[40, 41, 86]⟩)) (klin (plainK Alpha ⟨#[84, 104, 114, 101, 97, 100]⟩ :: givenK.reverse) Alpha) = some threadK := by kernel_rfl
theorem k_known5 : threadK.ms.find? (isM ⟨#[115, 116, 97, 114, 116]⟩ ⟨#[40, 41, 86]⟩) = some (natM ⟨#[115, 116, 97, 114, 116]⟩ ⟨#[40, 41, 86]⟩ false) := by kernel_rfl
end Go.Proofs.Ytknppdpcgdncdaa.K
