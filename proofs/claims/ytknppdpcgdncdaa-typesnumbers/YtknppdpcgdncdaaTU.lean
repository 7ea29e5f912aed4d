/- Types: fits, Fits, nearest, Join: walked. -/
import Derived.Test.YtknppdpcgdncdaaTT
import Derived.Test.YtknppdpcgdncdaaKK
namespace Go.Proofs.Ytknppdpcgdncdaa.T
open Go.RowKit Q Q.D K

theorem hp_slot {s : ByteArray} (h : slotK s = true) (p : Bs) (hp : Lib.hasPrefix (bsB s) (91 :: p) = true) : fieldB (bsB s) = true := by
  unfold slotK at h
  rcases Bool.or_eq_true_iff.1 h with h | h
  · rw [eq_of_beq h] at hp; simp [Lib.hasPrefix] at hp
  · rcases Bool.or_eq_true_iff.1 h with h | h
    · rw [eq_of_beq h] at hp; simp [Lib.hasPrefix] at hp
    · exact h
theorem hp_head {l : Bs} {c : UInt8} {p : Bs} (hp : Lib.hasPrefix l (c :: p) = true) : ∃ t, l = c :: t ∧ Lib.hasPrefix t p = true := by
  cases l with
  | nil => simp [Lib.hasPrefix] at hp
  | cons d t =>
    simp [Lib.hasPrefix, List.isPrefixOf] at hp
    exact ⟨t, by rw [hp.1], by simpa [Lib.hasPrefix] using hp.2⟩
theorem bs_str (l : Bs) : bsB (str l) = l := rfl
/-- What an array of objects holds begins with L. -/
theorem eS_arr {s : ByteArray} (h : slotK s = true) (hp : Lib.hasPrefix (bsB s) [91, 76] = true) : Lib.hasPrefix (bsB (eS s)) [76] = true ∧ Lib.hasPrefix (bsB (eS s)) [91, 76] = false := by
  have hf := hp_slot h _ hp
  obtain ⟨t, ht, hp2⟩ := hp_head hp
  unfold eS elemZ
  rw [if_pos ⟨hf, by rw [ht]; rfl⟩, bs_str, ht]
  refine ⟨by simpa using hp2, ?_⟩
  obtain ⟨u, hu, _⟩ := hp_head hp2
  rw [hu]
  rfl
/-- Where neither is an array of objects beside another one. -/
def flatK (R : List KD) (a b : ByteArray) : Bool := if (bsB b == [63]) || (bsB a == bsB b) then true else if bsB a == [48] then isRefK b else if bothK a b [76] then ksub R (cS a) (cS b) else if Lib.hasPrefix (bsB a) [91] && (bsB b == objL) then true else false
theorem flat_of {R : List KD} {n : Nat} {a b : ByteArray} (h : bothK a b [91, 76] = false) : fitsK R (n + 1) a b = flatK R a b := by
  unfold fitsK flatK
  rw [h]
  rfl
theorem le2 {n : Nat} {a b : ByteArray} (h : a.size ≤ b.size) (k : b.size ≤ n) : a.size ≤ n := Nat.le_trans h k
set_option maxRecDepth 8000 in
set_option maxHeartbeats 4000000 in
/-- fits, given what it answers of its elements. -/
theorem fits_gen (w : World) (pk : Nat) (R : List Mem) (mb : Nat) (ao : Option Addr) (c : Nat) (h : KinV w pk R mb ao c) (a b : ByteArray) (ha : a.size ≤ 9223372036854775000) (hb : b.size ≤ 9223372036854775000) (z : Bool)
    (hz : bothK a b [91, 76] = true → Calls Try.prog 21 #[.pointer (some ⟨pk, 0, none⟩), .string (eS a), .string (eS b)] w fun e w' => e = .returned (.bool z) ∧ Below w.heap.size w w') (hz0 : bothK a b [91, 76] = false → z = false) :
    Calls Try.prog 21 #[.pointer (some ⟨pk, 0, none⟩), .string a, .string b] w fun e w' => e = .returned (.bool (if (bsB b == [63]) || (bsB a == bsB b) then true else if bsB a == [48] then isRefK b else if bothK a b [76] then ksub (R.map Mem.k) (cS a) (cS b) else if Lib.hasPrefix (bsB a) [91] && (bsB b == objL) then true else z)) ∧ Below w.heap.size w w' := by
  have C1 := D.hidIt (isRef_t b w (by omega))
  have C2 := D.hidIt (both_t a b ⟨#[76]⟩ w)
  have C3 := D.hidIt (both_t a b ⟨#[91, 76]⟩ w)
  have C4 := D.hidIt (class_t a w (by omega))
  have C5 := D.hidIt (class_t b w (by omega))
  have C6 := D.hidIt (sub_any w pk R mb ao c h (cS a) (cS b))
  have C7 := D.hidIt (Try.strings_HasPrefix a ⟨#[91]⟩ w)
  have C8 := D.hidIt (elem_t a w (by omega))
  have C9 := D.hidIt (elem_t b w (by omega))
  rw [subB_k'] at C6
  change Hid (Calls _ _ _ _ fun e w' => e = .returned (.bool (bothK a b [76])) ∧ w' = w) at C2
  change Hid (Calls _ _ _ _ fun e w' => e = .returned (.bool (bothK a b [91, 76])) ∧ w' = w) at C3
  change Hid (Calls _ _ _ _ fun e w' => e = .returned (.bool (Lib.hasPrefix (bsB a) [91])) ∧ w' = w) at C7
  have t1 : (b.toList == [63]) = (bsB b == [63]) := by rw [Lib.toList_data]
  have t2 : (a.toList == b.toList) = (bsB a == bsB b) := by rw [Lib.toList_data, Lib.toList_data]
  have t3 : (a.toList == [48]) = (bsB a == [48]) := by rw [Lib.toList_data]
  have t4 : (b.toList == [76, 79, 98, 106, 101, 99, 116, 59]) = (bsB b == objL) := by rw [Lib.toList_data]; rfl
  have HZ := D.hidIt hz
  have HZ0 := D.hidIt hz0
  clear hz hz0 h ha hb
  generalize (bsB b == [63]) = x1 at *
  generalize (bsB a == bsB b) = x2 at *
  generalize (bsB a == [48]) = x3 at *
  generalize (bsB b == objL) = x4 at *
  generalize isRefK b = x5 at *
  generalize bothK a b [76] = x6 at *
  generalize bothK a b [91, 76] = x7 at *
  generalize ksub (R.map Mem.k) (cS a) (cS b) = x8 at *
  generalize Lib.hasPrefix (bsB a) [91] = x9 at *
  generalize cS a = ca at *
  generalize cS b = cb at *
  generalize eS a = ea at *
  generalize eS b = eb at *
  cases x1
  · cases x2
    · cases x3
      · cases x6
        · cases x9
          · cases x7
            · have e := HZ0.out rfl
              subst e
              go_enter Try.func21, Try.ntmps21
              go_wp2_with fail
              refine C2.out.mono ?_; rintro e w' ⟨rfl, hww⟩; cases hww
              go_wp2_with fail
              refine C7.out.mono ?_; rintro e w' ⟨rfl, hww⟩; cases hww
              go_wp2_with fail
              refine C3.out.mono ?_; rintro e w' ⟨rfl, hww⟩; cases hww
              go_wp2_with fail
              go_ret
              exact ⟨rfl, Below.refl _ _⟩
            · go_enter Try.func21, Try.ntmps21
              go_wp2_with fail
              refine C2.out.mono ?_; rintro e w' ⟨rfl, hww⟩; cases hww
              go_wp2_with fail
              refine C7.out.mono ?_; rintro e w' ⟨rfl, hww⟩; cases hww
              go_wp2_with fail
              refine C3.out.mono ?_; rintro e w' ⟨rfl, hww⟩; cases hww
              go_wp2_with fail
              refine C8.out.mono ?_; rintro e w' ⟨rfl, hww⟩; cases hww
              go_wp2_with fail
              refine C9.out.mono ?_; rintro e w' ⟨rfl, hww⟩; cases hww
              go_wp2_with fail
              refine (HZ.out (by simp)).mono ?_; rintro e w' ⟨rfl, hw⟩
              go_wp2_with fail
              go_ret
              exact ⟨by simp, hw⟩
          · cases x4
            · cases x7
              · have e := HZ0.out rfl
                subst e
                go_enter Try.func21, Try.ntmps21
                go_wp2_with fail
                refine C2.out.mono ?_; rintro e w' ⟨rfl, hww⟩; cases hww
                go_wp2_with fail
                refine C7.out.mono ?_; rintro e w' ⟨rfl, hww⟩; cases hww
                go_wp2_with fail
                refine C3.out.mono ?_; rintro e w' ⟨rfl, hww⟩; cases hww
                go_wp2_with fail
                go_ret
                exact ⟨rfl, Below.refl _ _⟩
              · go_enter Try.func21, Try.ntmps21
                go_wp2_with fail
                refine C2.out.mono ?_; rintro e w' ⟨rfl, hww⟩; cases hww
                go_wp2_with fail
                refine C7.out.mono ?_; rintro e w' ⟨rfl, hww⟩; cases hww
                go_wp2_with fail
                refine C3.out.mono ?_; rintro e w' ⟨rfl, hww⟩; cases hww
                go_wp2_with fail
                refine C8.out.mono ?_; rintro e w' ⟨rfl, hww⟩; cases hww
                go_wp2_with fail
                refine C9.out.mono ?_; rintro e w' ⟨rfl, hww⟩; cases hww
                go_wp2_with fail
                refine (HZ.out (by simp)).mono ?_; rintro e w' ⟨rfl, hw⟩
                go_wp2_with fail
                go_ret
                exact ⟨by simp, hw⟩
            · go_enter Try.func21, Try.ntmps21
              go_wp2_with fail
              refine C2.out.mono ?_; rintro e w' ⟨rfl, hww⟩; cases hww
              go_wp2_with fail
              refine C7.out.mono ?_; rintro e w' ⟨rfl, hww⟩; cases hww
              go_wp2_with fail
              go_ret
              exact ⟨rfl, Below.refl _ _⟩
        · go_enter Try.func21, Try.ntmps21
          go_wp2_with fail
          refine C2.out.mono ?_; rintro e w' ⟨rfl, hww⟩; cases hww
          go_wp2_with fail
          refine C4.out.mono ?_; rintro e w' ⟨rfl, hww⟩; cases hww
          go_wp2_with fail
          refine C5.out.mono ?_; rintro e w' ⟨rfl, hww⟩; cases hww
          go_wp2_with fail
          refine C6.out.mono ?_; rintro e w' ⟨rfl, hw⟩
          go_wp2_with fail
          go_ret
          exact ⟨by simp, hw⟩
      · go_enter Try.func21, Try.ntmps21
        go_wp2_with fail
        refine C1.out.mono ?_; rintro e w' ⟨rfl, hww⟩; cases hww
        go_wp2_with fail
        go_ret
        exact ⟨by simp, Below.refl _ _⟩
    · go_enter Try.func21, Try.ntmps21
      go_wp2_with fail
      go_ret
      exact ⟨rfl, Below.refl _ _⟩
  · go_enter Try.func21, Try.ntmps21
    go_wp2_with fail
    go_ret
    exact ⟨rfl, Below.refl _ _⟩
theorem fits_t (w : World) (pk : Nat) (R : List Mem) (mb : Nat) (ao : Option Addr) (c : Nat) (h : KinV w pk R mb ao c) (a b : ByteArray) (ha : a.size ≤ 9223372036854775000) (hb : b.size ≤ 9223372036854775000) (sa : slotK a = true) :
    Calls Try.prog 21 #[.pointer (some ⟨pk, 0, none⟩), .string a, .string b] w fun e w' => e = .returned (.bool (fitsK (R.map Mem.k) 2 a b)) ∧ Below w.heap.size w w' := by
  cases hk : bothK a b [91, 76]
  · have := fits_gen w pk R mb ao c h a b ha hb false (fun e => by rw [hk] at e; cases e) (fun _ => rfl)
    unfold fitsK
    rw [hk]
    exact this
  · have h2 : bothK (eS a) (eS b) [91, 76] = false := by
      unfold bothK at hk ⊢
      rw [(eS_arr sa (Bool.and_eq_true_iff.1 hk).1).2]
      rfl
    have h1 := fits_gen w pk R mb ao c h (eS a) (eS b) (le2 (eS_size a) ha) (le2 (eS_size b) hb) false (fun e => by rw [h2] at e; cases e) (fun _ => rfl)
    have := fits_gen w pk R mb ao c h a b ha hb (fitsK (R.map Mem.k) 1 (eS a) (eS b)) (fun _ => by rw [flat_of h2]; exact h1) (fun e => by rw [hk] at e; cases e)
    unfold fitsK
    rw [hk]
    exact this
theorem known_slot {R : List KD} {s : ByteArray} (h : knownK R s = true) : slotK s = true := (Bool.and_eq_true_iff.1 h).1
set_option maxRecDepth 8000 in
set_option maxHeartbeats 4000000 in
theorem Fits_t (w : World) (pk : Nat) (R : List Mem) (mb : Nat) (ao : Option Addr) (c : Nat) (h : KinV w pk R mb ao c) (a b : ByteArray) (ha : a.size ≤ 9223372036854775000) (hb : b.size ≤ 9223372036854775000) :
    Calls Try.prog 7 #[.pointer (some ⟨pk, 0, none⟩), .string a, .string b] w fun e w' => e = .returned (.bool (FitsK (R.map Mem.k) a b)) ∧ Below w.heap.size w w' := by
  have C1 := D.hidIt (known_t w pk R mb ao c h a ha)
  unfold FitsK
  cases ka : knownK (R.map Mem.k) a
  · rw [ka] at C1
    go_enter Try.func7, Try.ntmps7
    go_wp2_with fail
    refine C1.out.mono ?_; rintro e w' ⟨rfl, b1⟩
    go_wp2_with fail
    go_ret
    exact ⟨rfl, b1⟩
  · cases kb : knownK (R.map Mem.k) b
    · rw [ka] at C1
      go_enter Try.func7, Try.ntmps7
      go_wp2_with fail
      refine C1.out.mono ?_; rintro e w1 ⟨rfl, b1⟩
      have C2 := D.hidIt (known_t w1 pk R mb ao c (h.below b1) b hb)
      rw [kb] at C2
      go_wp2_with fail
      refine C2.out.mono ?_; rintro e w2 ⟨rfl, b2⟩
      go_wp2_with fail
      go_ret
      exact ⟨rfl, next b1 b2⟩
    · rw [ka] at C1
      have sa := known_slot ka

      clear ka
      go_enter Try.func7, Try.ntmps7
      go_wp2_with fail
      refine C1.out.mono ?_; rintro e w1 ⟨rfl, b1⟩
      have C2 := D.hidIt (known_t w1 pk R mb ao c (h.below b1) b hb)
      rw [kb] at C2
      go_wp2_with fail
      refine C2.out.mono ?_; rintro e w2 ⟨rfl, b2⟩
      have C3 := D.hidIt (fits_t w2 pk R mb ao c ((h.below b1).below b2) a b ha hb sa)
      go_wp2_with fail
      refine C3.out.mono ?_; rintro e w3 ⟨rfl, b3⟩
      go_wp2_with fail
      go_ret
      exact ⟨by simp, next b1 (next b2 b3)⟩
end Go.Proofs.Ytknppdpcgdncdaa.T
