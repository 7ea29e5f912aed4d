/- nameLength, fieldLength, Name, Field, Class, Elem, Ref: walked. -/
import Derived.Test.YtacmooknfbjpeaaQDDM
namespace Go.Proofs.Ytacmooknfbjpeaa.Q.D
open Go.RowKit
theorem at_get (s : ByteArray) (k : Nat) (h : k < s.size) : s.data.toList[k]? = some s[k] := by
  have h' : k < s.data.toList.length := by simpa using h
  rw [List.getElem?_eq_getElem h']; rfl
theorem size_len (s : ByteArray) : s.size = s.data.toList.length := Lib.size_eq s
theorem hidIt {p : Prop} (h : p) : Hid p := h
theorem ret_int {k : IntKind} {a b : Int} (h : a = b) : Ending.returned (.int k a) = .returned (.int k b) := by rw [h]

theorem okc_iff (k : Nat) (c : UInt8) : okc k c = true ↔ (97 ≤ c.toNat ∧ c.toNat ≤ 122 ∨ 65 ≤ c.toNat ∧ c.toNat ≤ 90 ∨ c.toNat = 95 ∨ c.toNat = 36) ∨ ((48 ≤ c.toNat ∧ c.toNat ≤ 57) ∧ 0 < k) := by
  simp [okc, isL, isD]
theorem okc_not (k : Nat) (c : UInt8) : okc k c = false ↔ ¬ ((97 ≤ c.toNat ∧ c.toNat ≤ 122 ∨ 65 ≤ c.toNat ∧ c.toNat ≤ 90 ∨ c.toNat = 95 ∨ c.toNat = 36) ∨ ((48 ≤ c.toNat ∧ c.toNat ≤ 57) ∧ 0 < k)) := by
  rw [← okc_iff]; simp

/-- What the loop over a name has seen. -/
def Seen (s : ByteArray) (k : Nat) : Prop := k ≤ s.size ∧ k ≤ 64 ∧ ∀ j, j < k → ∃ c, s.data.toList[j]? = some c ∧ okc j c = true
theorem Seen.more {s : ByteArray} {k : Nat} (h : Seen s k) (h1 : k < s.size) (h2 : k < 64) (h3 : okc k s[k] = true) : Seen s (k + 1) := by
  refine ⟨by omega, by omega, fun j hj => ?_⟩
  by_cases e : j = k
  · subst e; exact ⟨_, at_get s j h1, h3⟩
  · exact h.2.2 j (by omega)
theorem Seen.stop {s : ByteArray} {k : Nat} (h : Seen s k) (h1 : k < s.size) (h3 : okc k s[k] = false) : nl s.data.toList = k :=
  nl_char h.2.1 h.2.2 (.inr fun c hc => by rw [at_get s k h1] at hc; cases hc; exact h3)
theorem Seen.full {s : ByteArray} {k : Nat} (h : Seen s k) (h1 : ¬ k < s.size ∨ ¬ k < 64) : nl s.data.toList = k := by
  have h2 := h.2.1
  refine nl_char h.2.1 h.2.2 ?_
  rcases h1 with h1 | h1
  · right; intro c hc
    rw [List.getElem?_eq_none (by rw [← size_len]; omega)] at hc; cases hc
  · left; omega

set_option maxHeartbeats 1000000 in
theorem nl_any (s : ByteArray) (w : World) :
    Calls Try.prog 39 #[.string s] w fun e w' => e = .returned (.int .i64 (nl s.data.toList)) ∧ w' = w := by
  go_enter Try.func39, Try.ntmps39
  go_wp2
  go_step3
  go_wp2
  go_step3
  go_wp2
  go_loop [3] (fun n => ∃ (k : Nat), n = .int .i64 (k : Int) ∧ k ≤ 64 ∧ Hid (Seen s k)) (fun i => 64 - (intOf i).toNat)
  case atStart =>
    refine ⟨0, rfl, by omega, ?_⟩
    exact ⟨by omega, by omega, fun j hj => by omega⟩
  case round =>
    obtain ⟨k, rfl, hk6, hsee⟩ := hrel
    by_cases h1 : k < s.size
    · have h1' : (k : Int) < (s.size : Int) := by omega
      by_cases h2 : k < 64
      · have h2' : (k : Int) < 64 := by omega
        go_wp2
        all_goals first
          | (refine ⟨⟨k + 1, by go_num, by omega, hsee.out.more h1 h2 ((okc_iff _ _).2 (by simp_all; omega))⟩, by simp [intOf]; omega⟩)
          | (go_ret; refine ⟨ret_int ?_, rfl⟩; rw [hsee.out.stop h1 ((okc_not _ _).2 (by simp_all; omega))])
      · have h2' : ¬ (k : Int) < 64 := by omega
        go_wp2
        go_ret
        refine ⟨?_, rfl⟩
        rw [hsee.out.full (.inr h2)]; rfl
    · have h1' : ¬ (k : Int) < (s.size : Int) := by omega
      go_wp2
      go_ret
      refine ⟨?_, rfl⟩
      rw [hsee.out.full (.inl h1)]; rfl
end Go.Proofs.Ytacmooknfbjpeaa.Q.D

