/- Types: what fits where: walked. -/
import Derived.Test.YtknppdpcgdncdaaTD
import Derived.Test.YtknppdpcgdncdaaKZ
import Derived.Test.YtknppdpcgdncdaaKN
namespace Go.Proofs.Ytknppdpcgdncdaa.T
open Go.RowKit Q Q.D K

def eS (s : ByteArray) : ByteArray := str (elemZ (bsB s)).1
def cS (s : ByteArray) : ByteArray := if bsB (eS s) == [] then str (classZ (bsB s)) else str (classZ (bsB (eS s)))
theorem eS_size (s : ByteArray) : (eS s).size ≤ s.size := by
  unfold eS elemZ
  rw [str_size, size_len]
  split
  · simp
  · simp
theorem classZ_len (l : Bs) : (classZ l).length ≤ l.length + 6 := by
  unfold classZ
  repeat' split
  all_goals simp
  omega
theorem cS_size (s : ByteArray) : (cS s).size ≤ s.size + 6 := by
  unfold cS
  split
  · rw [str_size, size_len]; exact classZ_len _
  · rw [str_size]
    have h1 := classZ_len (bsB (eS s))
    have h2 := eS_size s
    rw [size_len (eS s)] at h2
    exact Nat.le_trans h1 (Nat.add_le_add_right h2 6)
/-- Is one below the other, among these classes? -/
def ksub (R : List KD) (a b : ByteArray) : Bool := (klin R a).any fun k => bsB k.nm == bsB b
theorem any_map {α β : Type} (f : α → β) (p : β → Bool) (l : List α) : (l.map f).any p = l.any (fun x => p (f x)) := by rw [List.any_map]; rfl
theorem subB_k' (R : List Mem) (a b : ByteArray) : subB R a b = ksub (R.map Mem.k) a b := by
  unfold subB ksub
  rw [← lin_k, any_map]
  congr 1
  funext m
  rw [Lib.toList_data, Lib.toList_data]
def slotK (s : ByteArray) : Bool := (bsB s == [63]) || ((bsB s == [48]) || fieldB (bsB s))
theorem slot_k (s : ByteArray) : slotB s = slotK s := by unfold slotB slotK; rw [Lib.toList_data]
def isRefK (s : ByteArray) : Bool := (bsB s == [48]) || ((Lib.hasPrefix (bsB s) [76] || Lib.hasPrefix (bsB s) [91]) && slotK s)
def knownK (R : List KD) (s : ByteArray) : Bool := slotK s && ((bsB (cS s) == []) || ksub R (cS s) (cS s))
def bothK (a b : ByteArray) (p : Bs) : Bool := Lib.hasPrefix (bsB a) p && Lib.hasPrefix (bsB b) p
def objL : Bs := [76, 79, 98, 106, 101, 99, 116, 59]
def fitsK (R : List KD) : Nat → ByteArray → ByteArray → Bool
  | 0, _, _ => false
  | n + 1, a, b => if (bsB b == [63]) || (bsB a == bsB b) then true else if bsB a == [48] then isRefK b else if bothK a b [76] then ksub R (cS a) (cS b) else if Lib.hasPrefix (bsB a) [91] && (bsB b == objL) then true else if bothK a b [91, 76] then fitsK R n (eS a) (eS b) else false
def FitsK (R : List KD) (a b : ByteArray) : Bool := knownK R a && (knownK R b && fitsK R 2 a b)
def nearK (R : List KD) (a b : ByteArray) : ByteArray := match (klin R a).find? (fun k => ksub R b k.nm) with | some k => k.nm | none => objectN
def refS (s : ByteArray) : ByteArray := str (76 :: (bsB s ++ [59]))
def joinK (R : List KD) : Nat → ByteArray → ByteArray → ByteArray
  | 0, _, _ => ⟨#[]⟩
  | n + 1, a, b => if (knownK R a && knownK R b) = false then ⟨#[63]⟩ else if fitsK R 2 b a then a else if fitsK R 2 a b then b else if bothK a b [76] then refS (nearK R (cS a) (cS b)) else if bothK a b [91, 76] then ⟨#[91]⟩ ++ joinK R n (eS a) (eS b) else if isRefK a && isRefK b then str objL else ⟨#[63]⟩
def JoinK (R : List KD) (a b : ByteArray) : ByteArray := joinK R 2 a b

set_option maxRecDepth 8000 in
set_option maxHeartbeats 1000000 in
theorem elem_t (s : ByteArray) (w : World) (hs : s.size ≤ 9223372036854775807) : Calls Try.prog 26 #[.string s] w fun e w' => e = .returned (.string (eS s)) ∧ w' = w := by
  have hE := D.hidIt (elem_any s w hs)
  unfold eS
  go_enter Try.func26, Try.ntmps26
  go_wp2_with (go_at_call 42; refine hE.out.mono ?_; rintro e w' ⟨rfl, hww⟩; cases hww)
  go_ret
  exact ⟨rfl, rfl⟩
set_option maxRecDepth 8000 in
set_option maxHeartbeats 1000000 in
theorem class_t (s : ByteArray) (w : World) (hs : s.size ≤ 9223372036854775807) : Calls Try.prog 25 #[.string s] w fun e w' => e = .returned (.string (cS s)) ∧ w' = w := by
  have hE := D.hidIt (elem_t s w hs)
  have hz := eS_size s
  have t1 : ((eS s).toList == []) = (bsB (eS s) == []) := by rw [Lib.toList_data]
  have t2 : ((eS s).toList != []) = !(bsB (eS s) == []) := by rw [← t1]; rfl
  unfold cS
  generalize eS s = E at *
  have hC1 := D.hidIt (class_any s w hs)
  have hC2 := D.hidIt (class_any E w (by omega))
  cases h : bsB E == []
  · rw [h] at t1 t2
    go_enter Try.func25, Try.ntmps25
    go_wp2_with (first | (go_at_call 26; refine hE.out.mono ?_; rintro e w' ⟨rfl, hww⟩; cases hww) | (go_at_call 41; refine hC2.out.mono ?_; rintro e w' ⟨rfl, hww⟩; cases hww))
    go_ret
    exact ⟨rfl, rfl⟩
  · rw [h] at t1 t2
    go_enter Try.func25, Try.ntmps25
    go_wp2_with (first | (go_at_call 26; refine hE.out.mono ?_; rintro e w' ⟨rfl, hww⟩; cases hww) | (go_at_call 41; refine hC1.out.mono ?_; rintro e w' ⟨rfl, hww⟩; cases hww))
    go_ret
    exact ⟨rfl, rfl⟩
set_option maxRecDepth 8000 in
set_option maxHeartbeats 1000000 in
theorem both_t (a b p : ByteArray) (w : World) : Calls Try.prog 22 #[.string a, .string b, .string p] w fun e w' => e = .returned (.bool (bothK a b (bsB p))) ∧ w' = w := by
  have h1 := D.hidIt (Try.strings_HasPrefix a p w)
  have h2 := D.hidIt (Try.strings_HasPrefix b p w)
  unfold bothK bsB
  generalize Lib.hasPrefix a.data.toList p.data.toList = x at *
  generalize Lib.hasPrefix b.data.toList p.data.toList = y at *
  cases x
  · go_enter Try.func22, Try.ntmps22
    go_wp2_with (go_at_call 27; refine h1.out.mono ?_; rintro e w' ⟨rfl, hww⟩; cases hww)
    go_ret
    exact ⟨rfl, rfl⟩
  · go_enter Try.func22, Try.ntmps22
    go_wp2_with fail
    refine h1.out.mono ?_; rintro e w' ⟨rfl, hww⟩; cases hww
    go_wp2_with fail
    refine h2.out.mono ?_; rintro e w' ⟨rfl, hww⟩; cases hww
    go_wp2_with fail
    go_ret
    exact ⟨by simp, rfl⟩
set_option maxRecDepth 8000 in
set_option maxHeartbeats 1000000 in
theorem isRef_t (s : ByteArray) (w : World) (hs : s.size ≤ 9223372036854775807) : Calls Try.prog 9 #[.string s] w fun e w' => e = .returned (.bool (isRefK s)) ∧ w' = w := by
  have h1 := D.hidIt (Try.strings_HasPrefix s ⟨#[76]⟩ w)
  have h2 := D.hidIt (Try.strings_HasPrefix s ⟨#[91]⟩ w)
  have h3 := D.hidIt (slot_any s w hs)
  rw [slot_k] at h3
  have t1 : (s.toList == [48]) = (bsB s == [48]) := by rw [Lib.toList_data]
  unfold isRefK
  change Hid (Calls _ _ _ _ fun e w' => e = .returned (.bool (Lib.hasPrefix (bsB s) [76])) ∧ w' = w) at h1
  change Hid (Calls _ _ _ _ fun e w' => e = .returned (.bool (Lib.hasPrefix (bsB s) [91])) ∧ w' = w) at h2
  generalize Lib.hasPrefix (bsB s) [76] = x at *
  generalize Lib.hasPrefix (bsB s) [91] = y at *
  generalize slotK s = z at *
  cases hq : bsB s == [48]
  · rw [hq] at t1
    cases x
    · cases y
      · go_enter Try.func9, Try.ntmps9
        go_wp2_with fail
        refine h1.out.mono ?_; rintro e w' ⟨rfl, hww⟩; cases hww
        go_wp2_with fail
        refine h2.out.mono ?_; rintro e w' ⟨rfl, hww⟩; cases hww
        go_wp2_with fail
        go_ret
        exact ⟨rfl, rfl⟩
      · go_enter Try.func9, Try.ntmps9
        go_wp2_with fail
        refine h1.out.mono ?_; rintro e w' ⟨rfl, hww⟩; cases hww
        go_wp2_with fail
        refine h2.out.mono ?_; rintro e w' ⟨rfl, hww⟩; cases hww
        go_wp2_with fail
        refine h3.out.mono ?_; rintro e w' ⟨rfl, hww⟩; cases hww
        go_wp2_with fail
        go_ret
        exact ⟨by simp, rfl⟩
    · go_enter Try.func9, Try.ntmps9
      go_wp2_with fail
      refine h1.out.mono ?_; rintro e w' ⟨rfl, hww⟩; cases hww
      go_wp2_with fail
      refine h3.out.mono ?_; rintro e w' ⟨rfl, hww⟩; cases hww
      go_wp2_with fail
      go_ret
      exact ⟨by simp, rfl⟩
  · rw [hq] at t1
    go_enter Try.func9, Try.ntmps9
    go_wp2_with fail
    go_ret
    exact ⟨rfl, rfl⟩
set_option maxRecDepth 8000 in
set_option maxHeartbeats 1000000 in
theorem known_t (w : World) (pk : Nat) (R : List Mem) (mb : Nat) (ao : Option Addr) (c : Nat) (h : KinV w pk R mb ao c) (s : ByteArray) (hs : s.size ≤ 9223372036854775000) :
    Calls Try.prog 10 #[.pointer (some ⟨pk, 0, none⟩), .string s] w fun e w' => e = .returned (.bool (knownK (R.map Mem.k) s)) ∧ Below w.heap.size w w' := by
  have h1 := D.hidIt (class_t s w (by omega))
  have h2 := D.hidIt (slot_any s w (by omega))
  have h3 := D.hidIt (sub_any w pk R mb ao c h (cS s) (cS s))
  rw [slot_k] at h2
  rw [subB_k'] at h3
  unfold knownK
  have t1 : ((cS s).toList == []) = (bsB (cS s) == []) := by rw [Lib.toList_data]
  generalize slotK s = z at *
  generalize cS s = C at *
  generalize ksub (R.map Mem.k) C C = q at *
  cases z
  · go_enter Try.func10, Try.ntmps10
    go_wp2_with fail
    refine h1.out.mono ?_; rintro e w' ⟨rfl, hww⟩; cases hww
    go_wp2_with fail
    refine h2.out.mono ?_; rintro e w' ⟨rfl, hww⟩; cases hww
    go_wp2_with fail
    go_ret
    exact ⟨rfl, Below.refl _ _⟩
  · cases hq : bsB C == []
    · rw [hq] at t1
      go_enter Try.func10, Try.ntmps10
      go_wp2_with fail
      refine h1.out.mono ?_; rintro e w' ⟨rfl, hww⟩; cases hww
      go_wp2_with fail
      refine h2.out.mono ?_; rintro e w' ⟨rfl, hww⟩; cases hww
      go_wp2_with fail
      refine h3.out.mono ?_; rintro e w' ⟨rfl, hb⟩
      go_wp2_with fail
      go_ret
      exact ⟨by simp, hb⟩
    · rw [hq] at t1
      go_enter Try.func10, Try.ntmps10
      go_wp2_with fail
      refine h1.out.mono ?_; rintro e w' ⟨rfl, hww⟩; cases hww
      go_wp2_with fail
      refine h2.out.mono ?_; rintro e w' ⟨rfl, hww⟩; cases hww
      go_wp2_with fail
      go_ret
      exact ⟨rfl, Below.refl _ _⟩
end Go.Proofs.Ytknppdpcgdncdaa.T
