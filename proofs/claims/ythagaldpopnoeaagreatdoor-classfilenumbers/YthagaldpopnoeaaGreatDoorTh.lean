/- Runes, their UTF-8 and their modified UTF-8: what is encoded is decoded, and the other way round. -/
import Derived.Test.YthagaldpopnoeaaGreatDoorKnown
import Derived.Lib.MapLaws
namespace Go.Proofs.YthagaldpopnoeaaGreatDoor
open Go.RowKit

/-- A rune that a text may hold. -/
def RuneOk (r : Int) : Prop := (0 ≤ r ∧ r < 55296) ∨ (57344 ≤ r ∧ r ≤ 1114111)

theorem mcode1 {r : Int} (h : 1 ≤ r ∧ r ≤ 127) : mcode r = [r] := by unfold mcode; rw [if_pos h]
theorem mcode2 {r : Int} (h : ¬ (1 ≤ r ∧ r ≤ 127)) (h2 : r ≤ 2047) : mcode r = [192 + r / 64, 128 + r % 64] := by unfold mcode; rw [if_neg h, if_pos h2]
theorem mcode3 {r : Int} (h2 : 2047 < r) (h3 : r < 65536) : mcode r = [224 + r / 4096, 128 + r / 64 % 64, 128 + r % 64] := by unfold mcode; rw [if_neg (by omega), if_neg (by omega), if_pos h3]
theorem mcode6 {r : Int} (h3 : 65536 ≤ r) : mcode r = mcode (55296 + (r - 65536) / 1024) ++ mcode (56320 + (r - 65536) % 1024) ∨ 1114111 < r := by
  by_cases h : r ≤ 1114111
  · left
    rw [mcode3 (r := 55296 + (r - 65536) / 1024) (by omega) (by omega), mcode3 (r := 56320 + (r - 65536) % 1024) (by omega) (by omega)]
    unfold mcode; rw [if_neg (by omega), if_neg (by omega), if_neg (by omega)]; rfl
  · right; omega

theorem fcode_one (a : Int) (t : List Int) (h : 1 ≤ a ∧ a ≤ 127) : fcode (a :: t) = (a, 1) := by
  match t with
  | [] => rw [fcode1, if_pos h]
  | [b] => rw [fcode2, if_pos h]
  | b :: c :: u => rw [fcode3, if_pos h]
theorem fcode_two (a b : Int) (t : List Int) (h : ¬ (1 ≤ a ∧ a ≤ 127)) (h2 : a / 32 = 6 ∧ b / 64 = 2 ∧ (a % 32 * 64 + b % 64 = 0 ∨ 127 < a % 32 * 64 + b % 64)) : fcode (a :: b :: t) = (a % 32 * 64 + b % 64, 2) := by
  match t with
  | [] => rw [fcode2, if_neg h, if_pos h2]
  | c :: u => rw [fcode3, if_neg h, if_pos h2]

/-- A code behind its own bytes. -/
theorem fcode_mcode (c : Int) (t : List Int) (h0 : 0 ≤ c) (h1 : c ≤ 65535) : fcode (mcode c ++ t) = (c, (mcode c).length) := by
  by_cases h : 1 ≤ c ∧ c ≤ 127
  · rw [mcode1 h]; exact fcode_one c t h
  · by_cases h2 : c ≤ 2047
    · rw [mcode2 h h2]
      show fcode ((192 + c / 64) :: (128 + c % 64) :: t) = _
      rw [fcode_two _ _ _ (by omega) ⟨by omega, by omega, by omega⟩]
      refine Prod.ext ?_ rfl
      show (192 + c / 64) % 32 * 64 + (128 + c % 64) % 64 = c
      omega
    · rw [mcode3 (by omega) (by omega)]
      show fcode ((224 + c / 4096) :: (128 + c / 64 % 64) :: (128 + c % 64) :: t) = _
      rw [fcode3, if_neg (by omega), if_neg (by omega), if_pos ⟨by omega, by omega, by omega, by omega⟩]
      refine Prod.ext ?_ rfl
      show (224 + c / 4096) % 16 * 4096 + (128 + c / 64 % 64) % 64 * 64 + (128 + c % 64) % 64 = c
      omega

theorem mcode_len3 {c : Int} (h : 2047 < c) (h1 : c < 65536) : (mcode c).length = 3 := by rw [mcode3 h h1]; rfl

/-- A rune behind its own bytes. -/
theorem frune_mcode (r : Int) (t : List Int) (h : RuneOk r) : frune (mcode r ++ t) = (r, (mcode r).length) := by
  unfold RuneOk at h
  by_cases h6 : 65536 ≤ r
  · rcases mcode6 h6 with e | e
    · have hl1 : (mcode (55296 + (r - 65536) / 1024)).length = 3 := mcode_len3 (by omega) (by omega)
      have hl2 : (mcode (56320 + (r - 65536) % 1024)).length = 3 := mcode_len3 (by omega) (by omega)
      rw [e, List.append_assoc]
      unfold frune
      have hd : (mcode (55296 + (r - 65536) / 1024) ++ (mcode (56320 + (r - 65536) % 1024) ++ t)).drop 3 = mcode (56320 + (r - 65536) % 1024) ++ t := by
        rw [List.drop_append, hl1, List.drop_eq_nil_of_le (by omega)]; rfl
      rw [hd, fcode_mcode _ _ (by omega) (by omega), fcode_mcode _ _ (by omega) (by omega)]
      simp only [List.length_append, hl1, hl2]
      rw [if_neg (by omega), if_neg (by omega), if_neg (by omega)]
      refine Prod.ext ?_ rfl
      show 65536 + (55296 + (r - 65536) / 1024 - 55296) * 1024 + (56320 + (r - 65536) % 1024 - 56320) = r
      omega
    · omega
  · unfold frune
    rw [fcode_mcode _ _ (by omega) (by omega)]
    simp only
    rw [if_pos (by omega)]

/-- What fcode reads is its own bytes. -/
theorem fcode_inv (l : List Int) (hb : AllBytes l) (h : (fcode l).2 ≠ 0) : ∃ t, l = mcode (fcode l).1 ++ t ∧ (fcode l).2 = (mcode (fcode l).1).length ∧ 0 ≤ (fcode l).1 ∧ (fcode l).1 ≤ 65535 := by
  match l with
  | [] => simp [fcode] at h
  | [a] =>
    rw [fcode1] at h ⊢
    by_cases h1 : 1 ≤ a ∧ a ≤ 127
    · rw [if_pos h1]; exact ⟨[], by simp [mcode1 h1], by simp [mcode1 h1], by simp only; omega, by simp only; omega⟩
    · rw [if_neg h1] at h; simp at h
  | [a, b] =>
    obtain ⟨a0, a1⟩ := hb a (by simp)
    obtain ⟨b0, b1⟩ := hb b (by simp)
    rw [fcode2] at h ⊢
    by_cases h1 : 1 ≤ a ∧ a ≤ 127
    · rw [if_pos h1]; exact ⟨[b], by simp [mcode1 h1], by simp [mcode1 h1], by simp only; omega, by simp only; omega⟩
    · rw [if_neg h1] at h ⊢
      by_cases h2 : a / 32 = 6 ∧ b / 64 = 2 ∧ (a % 32 * 64 + b % 64 = 0 ∨ 127 < a % 32 * 64 + b % 64)
      · rw [if_pos h2]
        have e : mcode (a % 32 * 64 + b % 64) = [a, b] := by
          rw [mcode2 (by omega) (by omega), show 192 + (a % 32 * 64 + b % 64) / 64 = a by omega, show 128 + (a % 32 * 64 + b % 64) % 64 = b by omega]
        exact ⟨[], by simp [e], by simp [e], by simp only; omega, by simp only; omega⟩
      · rw [if_neg h2] at h; simp at h
  | a :: b :: c :: u =>
    obtain ⟨a0, a1⟩ := hb a (by simp)
    obtain ⟨b0, b1⟩ := hb b (by simp)
    obtain ⟨c0, c1⟩ := hb c (by simp)
    rw [fcode3] at h ⊢
    by_cases h1 : 1 ≤ a ∧ a ≤ 127
    · rw [if_pos h1]; exact ⟨b :: c :: u, by simp [mcode1 h1], by simp [mcode1 h1], by simp only; omega, by simp only; omega⟩
    · rw [if_neg h1] at h ⊢
      by_cases h2 : a / 32 = 6 ∧ b / 64 = 2 ∧ (a % 32 * 64 + b % 64 = 0 ∨ 127 < a % 32 * 64 + b % 64)
      · rw [if_pos h2]
        have e : mcode (a % 32 * 64 + b % 64) = [a, b] := by
          rw [mcode2 (by omega) (by omega), show 192 + (a % 32 * 64 + b % 64) / 64 = a by omega, show 128 + (a % 32 * 64 + b % 64) % 64 = b by omega]
        exact ⟨c :: u, by simp [e], by simp [e], by simp only; omega, by simp only; omega⟩
      · rw [if_neg h2] at h ⊢
        by_cases h3 : a / 16 = 14 ∧ b / 64 = 2 ∧ c / 64 = 2 ∧ 2047 < a % 16 * 4096 + b % 64 * 64 + c % 64
        · rw [if_pos h3]
          have e : mcode (a % 16 * 4096 + b % 64 * 64 + c % 64) = [a, b, c] := by
            rw [mcode3 (by omega) (by omega), show 224 + (a % 16 * 4096 + b % 64 * 64 + c % 64) / 4096 = a by omega, show 128 + (a % 16 * 4096 + b % 64 * 64 + c % 64) / 64 % 64 = b by omega, show 128 + (a % 16 * 4096 + b % 64 * 64 + c % 64) % 64 = c by omega]
          exact ⟨u, by simp [e], by simp [e], by simp only; omega, by simp only; omega⟩
        · rw [if_neg h3] at h; simp at h

/-- What frune reads is a rune's own bytes. -/
theorem frune_inv (l : List Int) (hb : AllBytes l) (h : (frune l).2 ≠ 0) : RuneOk (frune l).1 ∧ ∃ t, l = mcode (frune l).1 ++ t ∧ (frune l).2 = (mcode (frune l).1).length := by
  unfold frune at h ⊢
  have hr := fcode_range l hb
  by_cases h1 : (fcode l).1 < 55296 ∨ 57344 ≤ (fcode l).1
  · rw [if_pos h1] at h ⊢
    obtain ⟨t, e1, e2, e3, e4⟩ := fcode_inv l hb h
    exact ⟨by unfold RuneOk; omega, t, e1, e2⟩
  · rw [if_neg h1] at h ⊢
    by_cases h2 : 56320 ≤ (fcode l).1
    · rw [if_pos h2] at h; simp at h
    · rw [if_neg h2] at h ⊢
      by_cases h3 : (fcode (l.drop 3)).1 < 56320 ∨ 57344 ≤ (fcode (l.drop 3)).1
      · rw [if_pos h3] at h; simp at h
      · rw [if_neg h3]
        have hb2 : AllBytes (l.drop 3) := fun x hx => hb x (List.mem_of_mem_drop hx)
        have hr2 := fcode_range (l.drop 3) hb2
        obtain ⟨t, e1, e2, e3, e4⟩ := fcode_inv l hb (by have := hr.2.2.2.2.1 (by omega); omega)
        obtain ⟨t2, f1, f2, f3, f4⟩ := fcode_inv (l.drop 3) hb2 (by have := hr2.2.2.2.2.1 (by omega); omega)
        generalize fcode (l.drop 3) = B at *
        generalize hA : fcode l = A at *
        obtain ⟨hi, k⟩ := A
        obtain ⟨lo, k2⟩ := B
        simp only at *
        have hl3 : (mcode hi).length = 3 := mcode_len3 (by omega) (by omega)
        have hl3' : (mcode lo).length = 3 := mcode_len3 (by omega) (by omega)
        have ht : t = mcode lo ++ t2 := by
          rw [← f1, e1, List.drop_append, hl3, List.drop_eq_nil_of_le (by omega)]; rfl
        have em : mcode (65536 + (hi - 55296) * 1024 + (lo - 56320)) = mcode hi ++ mcode lo := by
          rcases mcode6 (r := 65536 + (hi - 55296) * 1024 + (lo - 56320)) (by omega) with e | e
          · rw [e, show 55296 + (65536 + (hi - 55296) * 1024 + (lo - 56320) - 65536) / 1024 = hi by omega, show 56320 + (65536 + (hi - 55296) * 1024 + (lo - 56320) - 65536) % 1024 = lo by omega]
          · omega
        refine ⟨by unfold RuneOk; omega, t2, ?_, ?_⟩
        · rw [em, List.append_assoc, ← ht]; exact e1
        · rw [em, List.length_append, hl3, hl3']

/-- The runes' bytes in modified UTF-8, and in UTF-8. -/
def mAll (rs : List Int) : List Int := rs.flatMap mcode
def uAll (rs : List Int) : List Int := rs.flatMap Lib.encodeRuneZ

theorem mcode_pos (r : Int) : 1 ≤ (mcode r).length := by
  unfold mcode; split; · simp
  split; · simp
  split <;> simp
theorem mAll_cons (r : Int) (rs : List Int) : mAll (r :: rs) = mcode r ++ mAll rs := by simp [mAll]
theorem uAll_cons (r : Int) (rs : List Int) : uAll (r :: rs) = Lib.encodeRuneZ r ++ uAll rs := by simp [uAll]

theorem decFrom_mAll : ∀ (rs : List Int) (f : Nat), (∀ r ∈ rs, RuneOk r) → (mAll rs).length ≤ f → decFrom f (mAll rs) = some (uAll rs)
  | [], f, _, _ => by cases f <;> rfl
  | r :: rs, f, h, hf => by
    have hp := mcode_pos r
    rw [mAll_cons, List.length_append] at hf
    obtain ⟨g, rfl⟩ : ∃ g, f = g + 1 := ⟨f - 1, by omega⟩
    have hfr := frune_mcode r (mAll rs) (h r (by simp))
    rw [mAll_cons, uAll_cons]
    obtain ⟨x, t, hxt⟩ : ∃ x t, mcode r ++ mAll rs = x :: t := by
      cases hm : mcode r with
      | nil => rw [hm] at hp; simp at hp
      | cons x t => exact ⟨x, t ++ mAll rs, rfl⟩
    have hd : (mcode r ++ mAll rs).drop (mcode r).length = mAll rs := by simp
    rw [hxt] at hfr hd ⊢
    unfold decFrom
    rw [hfr]
    simp only
    rw [if_neg (by omega), hd, decFrom_mAll rs g (fun x hx => h x (by simp [hx])) (by omega)]
    rfl
theorem decL_mAll (rs : List Int) (h : ∀ r ∈ rs, RuneOk r) : decL (mAll rs) = some (uAll rs) := decFrom_mAll rs _ h (Nat.le_refl _)

theorem decFrom_inv : ∀ (f : Nat) (l xs : List Int), AllBytes l → decFrom f l = some xs → ∃ rs, (∀ r ∈ rs, RuneOk r) ∧ l = mAll rs ∧ xs = uAll rs
  | f, [], xs, _, h => by
    refine ⟨[], by simp, rfl, ?_⟩
    cases f <;> (simp [decFrom] at h; rw [h]; rfl)
  | 0, _ :: _, _, _, h => by simp [decFrom] at h
  | f + 1, x :: t, xs, hb, h => by
    unfold decFrom at h
    by_cases h0 : (frune (x :: t)).2 = 0
    · rw [if_pos h0] at h; cases h
    · rw [if_neg h0] at h
      obtain ⟨hr, t2, e1, e2⟩ := frune_inv (x :: t) hb h0
      obtain ⟨ys, hy, rfl⟩ := Option.map_eq_some_iff.1 h
      have hd : (x :: t).drop (frune (x :: t)).2 = t2 := by
        rw [e2]
        generalize (frune (x :: t)).1 = r at *
        rw [e1]; simp
      rw [hd] at hy
      have hb2 : AllBytes t2 := fun z hz => hb z (by rw [e1]; simp [hz])
      obtain ⟨rs, h1, h2, h3⟩ := decFrom_inv f t2 ys hb2 hy
      refine ⟨(frune (x :: t)).1 :: rs, ?_, ?_, ?_⟩
      · intro r hr'
        rcases List.mem_cons.1 hr' with rfl | h'
        · exact hr
        · exact h1 r h'
      · rw [mAll_cons, ← h2]; exact e1
      · rw [uAll_cons, h3]
theorem decL_inv (l xs : List Int) (hb : AllBytes l) (h : decL l = some xs) : ∃ rs, (∀ r ∈ rs, RuneOk r) ∧ l = mAll rs ∧ xs = uAll rs := decFrom_inv _ l xs hb h
end Go.Proofs.YthagaldpopnoeaaGreatDoor
