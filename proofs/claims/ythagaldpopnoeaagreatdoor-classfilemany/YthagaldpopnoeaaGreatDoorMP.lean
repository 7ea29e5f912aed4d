/- Many, without Go: classes of letters, and what Right says of them. -/
import Derived.Test.YthagaldpopnoeaaGreatDoorYE
namespace Go.Proofs.YthagaldpopnoeaaGreatDoor
open Go.RowKit D
def nmB (a : UInt8) (i : Nat) : ByteArray := ⟨#[a, UInt8.ofNat (97 + i)]⟩
def mF (i : Nat) : FD := ⟨nmB 102 i, ⟨#[73]⟩, false⟩
def mM (i : Nat) : MD := ⟨nmB 109 i, ⟨#[40, 41, 86]⟩, false, false, 0, 0, [], [], []⟩
def kC (fs : List FD) : KD := ⟨⟨#[65]⟩, ⟨#[]⟩, [], fs, []⟩
def kM (ms : List MD) : KD := ⟨⟨#[65]⟩, ⟨#[]⟩, [], [], ms⟩
def fsN (n : Nat) : List FD := (List.range n).map mF
def msN (n : Nat) : List MD := (List.range n).map mM
def fsS (n k : Nat) : List FD := fsN (n - 1) ++ [⟨nmB 102 k, ⟨#[73]⟩, false⟩]
def fsT (n k : Nat) : List FD := fsN (n - 1) ++ [⟨nmB 102 k, ⟨#[91, 73]⟩, false⟩]
def msS (n k : Nat) : List MD := msN (n - 1) ++ [⟨nmB 109 k, ⟨#[40, 41, 86]⟩, false, false, 0, 0, [], [], []⟩]
def msT (n k : Nat) : List MD := msN (n - 1) ++ [⟨nmB 109 k, ⟨#[40, 41, 73]⟩, false, false, 0, 0, [], [], []⟩]

/-! The same by the data alone. -/
def sameF' (f o : FD) : Bool := (o.nm.data.toList == f.nm.data.toList) && (o.ds.data.toList == f.ds.data.toList)
def sameM' (f o : MD) : Bool := (o.nm.data.toList == f.nm.data.toList) && (o.ds.data.toList == f.ds.data.toList)
theorem sameF_eq : sameF = sameF' := by funext f o; simp only [sameF, sameF', Lib.toList_data]
theorem sameM_eq : sameM = sameM' := by funext f o; simp only [sameM, sameM', Lib.toList_data]
def fieldZ' (f : FD) (ahead : List FD) : Int := if (nameB (bsB f.nm) && fieldB (bsB f.ds)) = false then 13 else if ahead.any (sameF' f) = true then 23 else 0
def methZ' (m : MD) (ahead : List MD) : Int :=
  if (nameB (bsB m.nm) && methodB m.ds) = false then 13 else if ahead.any (sameM' m) = true then 23
  else if (inB m.stk 16 && (inB m.loc 16 && decide (m.code.length ≤ 1024))) = false then 3
  else if (m.nat && bodyB m) = true then 12
  else if (decide (m.hs.length ≤ 64) && decide (m.rs.length ≤ 64)) = false then 4 else marksZ m
def fieldsZ' : List FD → List FD → Int
  | _, [] => 0
  | a, f :: l => if fieldZ' f a = 0 then fieldsZ' (a ++ [f]) l else fieldZ' f a
def methsZ' : List MD → List MD → Int
  | _, [] => 0
  | a, f :: l => if methZ' f a = 0 then methsZ' (a ++ [f]) l else methZ' f a
theorem fieldsZ_eq (l : List FD) : ∀ a, fieldsZ a l = fieldsZ' a l := by
  have h : fieldZ = fieldZ' := by funext f a; simp only [fieldZ, fieldZ', sameF_eq]
  induction l with
  | nil => intro a; rfl
  | cons f l ih => intro a; simp only [fieldsZ, fieldsZ', h, ih]
theorem methsZ_eq (l : List MD) : ∀ a, methsZ a l = methsZ' a l := by
  have h : methZ = methZ' := by funext f a; simp only [methZ, methZ', sameM_eq]
  induction l with
  | nil => intro a; rfl
  | cons f l ih => intro a; simp only [methsZ, methsZ', h, ih]
theorem right_C (fs : List FD) (h : fs.length ≤ 16) : rightZ (kC fs) = fieldsZ' [] fs := by
  have hz : ∀ x : Int, (if x = 0 then 0 else x) = x := fun x => by split <;> omega
  have e1 : (nameB (bsB (kC fs).nm) && (emptyB (kC fs).sup || nameB (bsB (kC fs).sup))) = true := (show (nameB (bsB ⟨#[65]⟩) && (emptyB ⟨#[]⟩ || nameB (bsB ⟨#[]⟩))) = true by first | rfl | decide | kernel_rfl)
  have e2 : (decide ((kC fs).pool.length ≤ 256) && (decide ((kC fs).fs.length ≤ 16) && decide ((kC fs).ms.length ≤ 16))) = true := by simp [kC, h]
  have e3 : (kC fs).pool.all rightB = true := rfl
  unfold rightZ
  rw [e1, e2, e3, if_neg (by decide), if_neg (by decide), if_neg (by decide), fieldsZ_eq]
  exact hz _
theorem right_C4 (fs : List FD) (h : 16 < fs.length) : rightZ (kC fs) = 4 := by
  have e1 : (nameB (bsB (kC fs).nm) && (emptyB (kC fs).sup || nameB (bsB (kC fs).sup))) = true := (show (nameB (bsB ⟨#[65]⟩) && (emptyB ⟨#[]⟩ || nameB (bsB ⟨#[]⟩))) = true by first | rfl | decide | kernel_rfl)
  have e2 : (decide ((kC fs).pool.length ≤ 256) && (decide ((kC fs).fs.length ≤ 16) && decide ((kC fs).ms.length ≤ 16))) = false := by show (decide (0 ≤ 256) && (decide (fs.length ≤ 16) && decide (0 ≤ 16))) = false; rw [decide_eq_false (show ¬ fs.length ≤ 16 by omega)]; rfl
  unfold rightZ
  rw [e1, e2, if_neg (by decide), if_pos rfl]
theorem right_M (ms : List MD) (h : ms.length ≤ 16) : rightZ (kM ms) = methsZ' [] ms := by
  have e1 : (nameB (bsB (kM ms).nm) && (emptyB (kM ms).sup || nameB (bsB (kM ms).sup))) = true := (show (nameB (bsB ⟨#[65]⟩) && (emptyB ⟨#[]⟩ || nameB (bsB ⟨#[]⟩))) = true by first | rfl | decide | kernel_rfl)
  have e2 : (decide ((kM ms).pool.length ≤ 256) && (decide ((kM ms).fs.length ≤ 16) && decide ((kM ms).ms.length ≤ 16))) = true := by simp [kM, h]
  have e3 : (kM ms).pool.all rightB = true := rfl
  unfold rightZ
  rw [e1, e2, e3, if_neg (by decide), if_neg (by decide), if_neg (by decide), methsZ_eq]
  rfl
theorem right_M4 (ms : List MD) (h : 16 < ms.length) : rightZ (kM ms) = 4 := by
  have e1 : (nameB (bsB (kM ms).nm) && (emptyB (kM ms).sup || nameB (bsB (kM ms).sup))) = true := (show (nameB (bsB ⟨#[65]⟩) && (emptyB ⟨#[]⟩ || nameB (bsB ⟨#[]⟩))) = true by first | rfl | decide | kernel_rfl)
  have e2 : (decide ((kM ms).pool.length ≤ 256) && (decide ((kM ms).fs.length ≤ 16) && decide ((kM ms).ms.length ≤ 16))) = false := by show (decide (0 ≤ 256) && (decide (0 ≤ 16) && decide (ms.length ≤ 16))) = false; rw [decide_eq_false (show ¬ ms.length ≤ 16 by omega)]; rfl
  unfold rightZ
  rw [e1, e2, if_neg (by decide), if_pos rfl]
theorem fsN_len (n : Nat) : (fsN n).length = n := by simp [fsN]
theorem msN_len (n : Nat) : (msN n).length = n := by simp [msN]

set_option maxRecDepth 100000 in
theorem tabN : ((List.range 17).all fun n => (fieldsZ' [] (fsN n) == 0) && (methsZ' [] (msN n) == 0)) = true := by
  first | decide +kernel | kernel_rfl
set_option maxRecDepth 100000 in
theorem tabS : ((List.range 17).all fun n => (List.range (n - 1)).all fun k => (fieldsZ' [] (fsS n k) == 23) && ((methsZ' [] (msS n k) == 23) && ((fieldsZ' [] (fsT n k) == 0) && (methsZ' [] (msT n k) == 0)))) = true := by
  first | decide +kernel | kernel_rfl
theorem many_N (n : Nat) (h : n ≤ 18) : rightZ (kC (fsN n)) = (if 16 < n then 4 else 0) ∧ rightZ (kM (msN n)) = (if 16 < n then 4 else 0) := by
  by_cases h16 : 16 < n
  · rw [if_pos h16, right_C4 _ (by rw [fsN_len]; exact h16), right_M4 _ (by rw [msN_len]; exact h16)]; exact ⟨rfl, rfl⟩
  · have := List.all_eq_true.1 tabN n (List.mem_range.2 (by omega))
    simp only [Bool.and_eq_true, beq_iff_eq] at this
    rw [if_neg h16, right_C _ (by rw [fsN_len]; omega), right_M _ (by rw [msN_len]; omega)]
    exact this
theorem many_S (n k : Nat) (h : n ≤ 16) (hk : k + 1 < n) : rightZ (kC (fsS n k)) = 23 ∧ rightZ (kM (msS n k)) = 23 ∧ rightZ (kC (fsT n k)) = 0 ∧ rightZ (kM (msT n k)) = 0 := by
  have := List.all_eq_true.1 (List.all_eq_true.1 tabS n (List.mem_range.2 (by omega))) k (List.mem_range.2 (by omega))
  simp only [Bool.and_eq_true, beq_iff_eq] at this
  rw [right_C _ (by simp [fsS, fsN_len]; omega), right_M _ (by simp [msS, msN_len]; omega), right_C _ (by simp [fsT, fsN_len]; omega), right_M _ (by simp [msT, msN_len]; omega)]
  exact this
end Go.Proofs.YthagaldpopnoeaaGreatDoor
