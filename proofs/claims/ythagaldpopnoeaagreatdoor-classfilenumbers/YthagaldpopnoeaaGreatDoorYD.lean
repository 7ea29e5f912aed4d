import Derived.Test.YthagaldpopnoeaaGreatDoorKnown
import Derived.Lib.MapLaws
import Derived.Test.YthagaldpopnoeaaGreatDoorYB
import Derived.Laws.IdiomStrings
import Derived.Laws.Cover4

/- Runes, their UTF-8 and their modified UTF-8: what is encoded is decoded, and the other way round. -/
namespace Go.Proofs.YthagaldpopnoeaaGreatDoor
open Go.RowKit

/-- A rune that a text may hold. -/
def RuneOk (r : Int) : Prop := (0 ≤ r ∧ r < 55296) ∨ (57344 ≤ r ∧ r ≤ 1114111)

theorem mcode1 {r : Int} (h : 1 ≤ r ∧ r ≤ 127) : mcode r = [r] := by unfold mcode; rw [if_pos h]
theorem mcode2 {r : Int} (h : ¬ (1 ≤ r ∧ r ≤ 127)) (h2 : r ≤ 2047) : mcode r = [192 + r / 64, 128 + r % 64] := by unfold mcode; rw [if_neg h, if_pos h2]
theorem mcode3 {r : Int} (h2 : 2047 < r) (h3 : r < 65536) : mcode r = [224 + r / 4096, 128 + r / 64 % 64, 128 + r % 64] := by unfold mcode; rw [if_neg (by omega), if_neg (by omega), if_pos h3]
theorem mcode6 {r : Int} (h3 : 65536 ≤ r) : mcode r = mcode (55296 + (r - 65536) / 1024) ++ mcode (56320 + (r - 65536) % 1024) ∨ 1114111 < r := by
  by_cases h : r ≤ 1114111
  · left
    rw [mcode3 (r := 55296 + (r - 65536) / 1024) (by omega) (by omega), mcode3 (r := 56320 + (r - 65536) % 1024) (by omega) (by omega)]
    unfold mcode; rw [if_neg (by omega), if_neg (by omega), if_neg (by omega)]; rfl
  · right; omega

theorem fcode_one (a : Int) (t : List Int) (h : 1 ≤ a ∧ a ≤ 127) : fcode (a :: t) = (a, 1) := by
  match t with
  | [] => rw [fcode1, if_pos h]
  | [b] => rw [fcode2, if_pos h]
  | b :: c :: u => rw [fcode3, if_pos h]
theorem fcode_two (a b : Int) (t : List Int) (h : ¬ (1 ≤ a ∧ a ≤ 127)) (h2 : a / 32 = 6 ∧ b / 64 = 2 ∧ (a % 32 * 64 + b % 64 = 0 ∨ 127 < a % 32 * 64 + b % 64)) : fcode (a :: b :: t) = (a % 32 * 64 + b % 64, 2) := by
  match t with
  | [] => rw [fcode2, if_neg h, if_pos h2]
  | c :: u => rw [fcode3, if_neg h, if_pos h2]

/-- A code behind its own bytes. -/
theorem fcode_mcode (c : Int) (t : List Int) (h0 : 0 ≤ c) (h1 : c ≤ 65535) : fcode (mcode c ++ t) = (c, (mcode c).length) := by
  by_cases h : 1 ≤ c ∧ c ≤ 127
  · rw [mcode1 h]; exact fcode_one c t h
  · by_cases h2 : c ≤ 2047
    · rw [mcode2 h h2]
      show fcode ((192 + c / 64) :: (128 + c % 64) :: t) = _
      rw [fcode_two _ _ _ (by omega) ⟨by omega, by omega, by omega⟩]
      refine Prod.ext ?_ rfl
      show (192 + c / 64) % 32 * 64 + (128 + c % 64) % 64 = c
      omega
    · rw [mcode3 (by omega) (by omega)]
      show fcode ((224 + c / 4096) :: (128 + c / 64 % 64) :: (128 + c % 64) :: t) = _
      rw [fcode3, if_neg (by omega), if_neg (by omega), if_pos ⟨by omega, by omega, by omega, by omega⟩]
      refine Prod.ext ?_ rfl
      show (224 + c / 4096) % 16 * 4096 + (128 + c / 64 % 64) % 64 * 64 + (128 + c % 64) % 64 = c
      omega

theorem mcode_len3 {c : Int} (h : 2047 < c) (h1 : c < 65536) : (mcode c).length = 3 := by rw [mcode3 h h1]; rfl

/-- A rune behind its own bytes. -/
theorem frune_mcode (r : Int) (t : List Int) (h : RuneOk r) : frune (mcode r ++ t) = (r, (mcode r).length) := by
  unfold RuneOk at h
  by_cases h6 : 65536 ≤ r
  · rcases mcode6 h6 with e | e
    · have hl1 : (mcode (55296 + (r - 65536) / 1024)).length = 3 := mcode_len3 (by omega) (by omega)
      have hl2 : (mcode (56320 + (r - 65536) % 1024)).length = 3 := mcode_len3 (by omega) (by omega)
      rw [e, List.append_assoc]
      unfold frune
      have hd : (mcode (55296 + (r - 65536) / 1024) ++ (mcode (56320 + (r - 65536) % 1024) ++ t)).drop 3 = mcode (56320 + (r - 65536) % 1024) ++ t := by
        rw [List.drop_append, hl1, List.drop_eq_nil_of_le (by omega)]; rfl
      rw [hd, fcode_mcode _ _ (by omega) (by omega), fcode_mcode _ _ (by omega) (by omega)]
      simp only [List.length_append, hl1, hl2]
      rw [if_neg (by omega), if_neg (by omega), if_neg (by omega)]
      refine Prod.ext ?_ rfl
      show 65536 + (55296 + (r - 65536) / 1024 - 55296) * 1024 + (56320 + (r - 65536) % 1024 - 56320) = r
      omega
    · omega
  · unfold frune
    rw [fcode_mcode _ _ (by omega) (by omega)]
    simp only
    rw [if_pos (by omega)]

/-- What fcode reads is its own bytes. -/
theorem fcode_inv (l : List Int) (hb : AllBytes l) (h : (fcode l).2 ≠ 0) : ∃ t, l = mcode (fcode l).1 ++ t ∧ (fcode l).2 = (mcode (fcode l).1).length ∧ 0 ≤ (fcode l).1 ∧ (fcode l).1 ≤ 65535 := by
  match l with
  | [] => simp [fcode] at h
  | [a] =>
    rw [fcode1] at h ⊢
    by_cases h1 : 1 ≤ a ∧ a ≤ 127
    · rw [if_pos h1]; exact ⟨[], by simp [mcode1 h1], by simp [mcode1 h1], by simp only; omega, by simp only; omega⟩
    · rw [if_neg h1] at h; simp at h
  | [a, b] =>
    obtain ⟨a0, a1⟩ := hb a (by simp)
    obtain ⟨b0, b1⟩ := hb b (by simp)
    rw [fcode2] at h ⊢
    by_cases h1 : 1 ≤ a ∧ a ≤ 127
    · rw [if_pos h1]; exact ⟨[b], by simp [mcode1 h1], by simp [mcode1 h1], by simp only; omega, by simp only; omega⟩
    · rw [if_neg h1] at h ⊢
      by_cases h2 : a / 32 = 6 ∧ b / 64 = 2 ∧ (a % 32 * 64 + b % 64 = 0 ∨ 127 < a % 32 * 64 + b % 64)
      · rw [if_pos h2]
        have e : mcode (a % 32 * 64 + b % 64) = [a, b] := by
          rw [mcode2 (by omega) (by omega), show 192 + (a % 32 * 64 + b % 64) / 64 = a by omega, show 128 + (a % 32 * 64 + b % 64) % 64 = b by omega]
        exact ⟨[], by simp [e], by simp [e], by simp only; omega, by simp only; omega⟩
      · rw [if_neg h2] at h; simp at h
  | a :: b :: c :: u =>
    obtain ⟨a0, a1⟩ := hb a (by simp)
    obtain ⟨b0, b1⟩ := hb b (by simp)
    obtain ⟨c0, c1⟩ := hb c (by simp)
    rw [fcode3] at h ⊢
    by_cases h1 : 1 ≤ a ∧ a ≤ 127
    · rw [if_pos h1]; exact ⟨b :: c :: u, by simp [mcode1 h1], by simp [mcode1 h1], by simp only; omega, by simp only; omega⟩
    · rw [if_neg h1] at h ⊢
      by_cases h2 : a / 32 = 6 ∧ b / 64 = 2 ∧ (a % 32 * 64 + b % 64 = 0 ∨ 127 < a % 32 * 64 + b % 64)
      · rw [if_pos h2]
        have e : mcode (a % 32 * 64 + b % 64) = [a, b] := by
          rw [mcode2 (by omega) (by omega), show 192 + (a % 32 * 64 + b % 64) / 64 = a by omega, show 128 + (a % 32 * 64 + b % 64) % 64 = b by omega]
        exact ⟨c :: u, by simp [e], by simp [e], by simp only; omega, by simp only; omega⟩
      · rw [if_neg h2] at h ⊢
        by_cases h3 : a / 16 = 14 ∧ b / 64 = 2 ∧ c / 64 = 2 ∧ 2047 < a % 16 * 4096 + b % 64 * 64 + c % 64
        · rw [if_pos h3]
          have e : mcode (a % 16 * 4096 + b % 64 * 64 + c % 64) = [a, b, c] := by
            rw [mcode3 (by omega) (by omega), show 224 + (a % 16 * 4096 + b % 64 * 64 + c % 64) / 4096 = a by omega, show 128 + (a % 16 * 4096 + b % 64 * 64 + c % 64) / 64 % 64 = b by omega, show 128 + (a % 16 * 4096 + b % 64 * 64 + c % 64) % 64 = c by omega]
          exact ⟨u, by simp [e], by simp [e], by simp only; omega, by simp only; omega⟩
        · rw [if_neg h3] at h; simp at h

/-- What frune reads is a rune's own bytes. -/
theorem frune_inv (l : List Int) (hb : AllBytes l) (h : (frune l).2 ≠ 0) : RuneOk (frune l).1 ∧ ∃ t, l = mcode (frune l).1 ++ t ∧ (frune l).2 = (mcode (frune l).1).length := by
  unfold frune at h ⊢
  have hr := fcode_range l hb
  by_cases h1 : (fcode l).1 < 55296 ∨ 57344 ≤ (fcode l).1
  · rw [if_pos h1] at h ⊢
    obtain ⟨t, e1, e2, e3, e4⟩ := fcode_inv l hb h
    exact ⟨by unfold RuneOk; omega, t, e1, e2⟩
  · rw [if_neg h1] at h ⊢
    by_cases h2 : 56320 ≤ (fcode l).1
    · rw [if_pos h2] at h; simp at h
    · rw [if_neg h2] at h ⊢
      by_cases h3 : (fcode (l.drop 3)).1 < 56320 ∨ 57344 ≤ (fcode (l.drop 3)).1
      · rw [if_pos h3] at h; simp at h
      · rw [if_neg h3]
        have hb2 : AllBytes (l.drop 3) := fun x hx => hb x (List.mem_of_mem_drop hx)
        have hr2 := fcode_range (l.drop 3) hb2
        obtain ⟨t, e1, e2, e3, e4⟩ := fcode_inv l hb (by have := hr.2.2.2.2.1 (by omega); omega)
        obtain ⟨t2, f1, f2, f3, f4⟩ := fcode_inv (l.drop 3) hb2 (by have := hr2.2.2.2.2.1 (by omega); omega)
        generalize fcode (l.drop 3) = B at *
        generalize hA : fcode l = A at *
        obtain ⟨hi, k⟩ := A
        obtain ⟨lo, k2⟩ := B
        simp only at *
        have hl3 : (mcode hi).length = 3 := mcode_len3 (by omega) (by omega)
        have hl3' : (mcode lo).length = 3 := mcode_len3 (by omega) (by omega)
        have ht : t = mcode lo ++ t2 := by
          rw [← f1, e1, List.drop_append, hl3, List.drop_eq_nil_of_le (by omega)]; rfl
        have em : mcode (65536 + (hi - 55296) * 1024 + (lo - 56320)) = mcode hi ++ mcode lo := by
          rcases mcode6 (r := 65536 + (hi - 55296) * 1024 + (lo - 56320)) (by omega) with e | e
          · rw [e, show 55296 + (65536 + (hi - 55296) * 1024 + (lo - 56320) - 65536) / 1024 = hi by omega, show 56320 + (65536 + (hi - 55296) * 1024 + (lo - 56320) - 65536) % 1024 = lo by omega]
          · omega
        refine ⟨by unfold RuneOk; omega, t2, ?_, ?_⟩
        · rw [em, List.append_assoc, ← ht]; exact e1
        · rw [em, List.length_append, hl3, hl3']

/-- The runes' bytes in modified UTF-8, and in UTF-8. -/
def mAll (rs : List Int) : List Int := rs.flatMap mcode
def uAll (rs : List Int) : List Int := rs.flatMap Lib.encodeRuneZ

theorem mcode_pos (r : Int) : 1 ≤ (mcode r).length := by
  unfold mcode; split; · simp
  split; · simp
  split <;> simp
theorem mAll_cons (r : Int) (rs : List Int) : mAll (r :: rs) = mcode r ++ mAll rs := by simp [mAll]
theorem uAll_cons (r : Int) (rs : List Int) : uAll (r :: rs) = Lib.encodeRuneZ r ++ uAll rs := by simp [uAll]

theorem decFrom_mAll : ∀ (rs : List Int) (f : Nat), (∀ r ∈ rs, RuneOk r) → (mAll rs).length ≤ f → decFrom f (mAll rs) = some (uAll rs)
  | [], f, _, _ => by cases f <;> rfl
  | r :: rs, f, h, hf => by
    have hp := mcode_pos r
    rw [mAll_cons, List.length_append] at hf
    obtain ⟨g, rfl⟩ : ∃ g, f = g + 1 := ⟨f - 1, by omega⟩
    have hfr := frune_mcode r (mAll rs) (h r (by simp))
    rw [mAll_cons, uAll_cons]
    obtain ⟨x, t, hxt⟩ : ∃ x t, mcode r ++ mAll rs = x :: t := by
      cases hm : mcode r with
      | nil => rw [hm] at hp; simp at hp
      | cons x t => exact ⟨x, t ++ mAll rs, rfl⟩
    have hd : (mcode r ++ mAll rs).drop (mcode r).length = mAll rs := by simp
    rw [hxt] at hfr hd ⊢
    unfold decFrom
    rw [hfr]
    simp only
    rw [if_neg (by omega), hd, decFrom_mAll rs g (fun x hx => h x (by simp [hx])) (by omega)]
    rfl
theorem decL_mAll (rs : List Int) (h : ∀ r ∈ rs, RuneOk r) : decL (mAll rs) = some (uAll rs) := decFrom_mAll rs _ h (Nat.le_refl _)

theorem decFrom_inv : ∀ (f : Nat) (l xs : List Int), AllBytes l → decFrom f l = some xs → ∃ rs, (∀ r ∈ rs, RuneOk r) ∧ l = mAll rs ∧ xs = uAll rs
  | f, [], xs, _, h => by
    refine ⟨[], by simp, rfl, ?_⟩
    cases f <;> (simp [decFrom] at h; rw [h]; rfl)
  | 0, _ :: _, _, _, h => by simp [decFrom] at h
  | f + 1, x :: t, xs, hb, h => by
    unfold decFrom at h
    by_cases h0 : (frune (x :: t)).2 = 0
    · rw [if_pos h0] at h; cases h
    · rw [if_neg h0] at h
      obtain ⟨hr, t2, e1, e2⟩ := frune_inv (x :: t) hb h0
      obtain ⟨ys, hy, rfl⟩ := Option.map_eq_some_iff.1 h
      have hd : (x :: t).drop (frune (x :: t)).2 = t2 := by
        rw [e2]
        generalize (frune (x :: t)).1 = r at *
        rw [e1]; simp
      rw [hd] at hy
      have hb2 : AllBytes t2 := fun z hz => hb z (by rw [e1]; simp [hz])
      obtain ⟨rs, h1, h2, h3⟩ := decFrom_inv f t2 ys hb2 hy
      refine ⟨(frune (x :: t)).1 :: rs, ?_, ?_, ?_⟩
      · intro r hr'
        rcases List.mem_cons.1 hr' with rfl | h'
        · exact hr
        · exact h1 r h'
      · rw [mAll_cons, ← h2]; exact e1
      · rw [uAll_cons, h3]
theorem decL_inv (l xs : List Int) (hb : AllBytes l) (h : decL l = some xs) : ∃ rs, (∀ r ∈ rs, RuneOk r) ∧ l = mAll rs ∧ xs = uAll rs := decFrom_inv _ l xs hb h
end Go.Proofs.YthagaldpopnoeaaGreatDoor

/- The UTF-8 side: what a text's runes are, and that a text made of runes holds them. -/
namespace Go.Proofs.YthagaldpopnoeaaGreatDoor
open Go.RowKit

theorem nums_size (l : List Int) : (strOfNums l).size = l.length := by simp [strOfNums, ByteArray.size]
theorem nums_get (l : List Int) (hb : AllBytes l) (i : Nat) : ((strOfNums l).get! i).toNat = (l.getD i 0).toNat := by
  unfold strOfNums
  simp only [ByteArray.get!]
  by_cases hi : i < l.length
  · have hx := hb l[i] (by simp)
    simp [hi, List.getD]
    omega
  · simp [hi, List.getD]
    rfl

theorem enc_bytes (r : Int) : AllBytes (Lib.encodeRuneZ r) := fun x hx => by have := Lib.encodeRuneZ_byte r x hx; omega
theorem uAll_bytes (rs : List Int) : AllBytes (uAll rs) := by
  intro x hx
  obtain ⟨r, _, h⟩ := List.mem_flatMap.1 hx
  exact enc_bytes r x h

/-- The decoder at a rune's own bytes. -/
theorem decode_enc (pre t : List Int) (r : Int) (hp : AllBytes pre) (ht : AllBytes t) (h : RuneOk r) :
    Utf8.decode (strOfNums (pre ++ (Lib.encodeRuneZ r ++ t))) pre.length = (r.toNat, (Lib.encodeRuneZ r).length) := by
  have hb : AllBytes (pre ++ (Lib.encodeRuneZ r ++ t)) := hp.append ((enc_bytes r).append ht)
  rw [Lib.decode_at, nums_get _ hb, nums_get _ hb, nums_get _ hb, nums_get _ hb, nums_size]
  have g : ∀ k, (pre ++ (Lib.encodeRuneZ r ++ t)).getD (pre.length + k) 0 = (Lib.encodeRuneZ r ++ t).getD k 0 := by
    intro k; simp only [List.getD]; rw [List.getElem?_append_right (by omega), Nat.add_sub_cancel_left]
  have g0 := g 0
  rw [Nat.add_zero] at g0
  rw [g0, g 1, g 2, g 3]
  have hl : (pre ++ (Lib.encodeRuneZ r ++ t)).length - pre.length = (Lib.encodeRuneZ r).length + t.length := by simp
  rw [hl]
  clear g g0 hl hb hp
  unfold RuneOk at h
  by_cases h1 : r ≤ 127
  · rw [Lib.encodeRuneZ_one (by omega) h1]
    simp only [List.cons_append, List.nil_append, List.getD_cons_zero, Lib.decodeN]
    rw [if_pos (by omega)]; rfl
  · by_cases h2 : r ≤ 2047
    · rw [Lib.encodeRuneZ_two (by omega) h2]
      simp only [List.cons_append, List.nil_append, List.getD_cons_zero, List.getD_cons_succ, List.length_cons, List.length_nil, Lib.decodeN]
      rw [if_neg (by omega), if_pos (by omega), if_pos (by omega)]
      refine Prod.ext ?_ rfl
      simp only; omega
    · by_cases h3 : r ≤ 65535
      · rw [Lib.encodeRuneZ_three (by omega)]
        simp only [List.cons_append, List.nil_append, List.getD_cons_zero, List.getD_cons_succ, List.length_cons, List.length_nil, Lib.decodeN]
        rw [if_neg (by omega), if_neg (by omega), if_pos (by omega), if_pos (by omega)]
        refine Prod.ext ?_ rfl
        simp only; omega
      · rw [Lib.encodeRuneZ_four (by omega) (by omega)]
        simp only [List.cons_append, List.nil_append, List.getD_cons_zero, List.getD_cons_succ, List.length_cons, List.length_nil, Lib.decodeN]
        rw [if_neg (by omega), if_neg (by omega), if_neg (by omega), if_pos (by omega), if_pos (by omega)]
        refine Prod.ext ?_ rfl
        simp only; omega

theorem encFrom_uAll : ∀ (rs : List Int) (pre : List Int) (f : Nat), (∀ r ∈ rs, RuneOk r) → AllBytes pre → (uAll rs).length ≤ f → encFrom (strOfNums (pre ++ uAll rs)) f pre.length = mAll rs
  | [], pre, f, _, _, _ => by rw [encFrom_end _ _ _ (by rw [nums_size]; simp [uAll])]; rfl
  | r :: rs, pre, f, h, hp, hf => by
    have hl := Lib.encodeRuneZ_length r
    rw [uAll_cons, List.length_append] at hf
    obtain ⟨g, rfl⟩ : ∃ g, f = g + 1 := ⟨f - 1, by omega⟩
    have hr := h r (by simp)
    have hd := decode_enc pre (uAll rs) r hp (uAll_bytes rs) hr
    rw [uAll_cons, mAll_cons]
    unfold encFrom
    rw [if_pos (by rw [nums_size]; simp; omega), hd]
    have e : ((r.toNat : Nat) : Int) = r := by unfold RuneOk at hr; omega
    simp only [e]
    have := encFrom_uAll rs (pre ++ Lib.encodeRuneZ r) g (fun x hx => h x (by simp [hx])) (hp.append (enc_bytes r)) (by omega)
    rw [List.length_append, List.append_assoc] at this
    rw [this]
theorem encZ_uAll (rs : List Int) (h : ∀ r ∈ rs, RuneOk r) : encZ (strOfNums (uAll rs)) = mAll rs := by
  have := encFrom_uAll rs [] (uAll rs).length h AllBytes.nil (Nat.le_refl _)
  unfold encZ
  rw [nums_size]
  simpa using this

/-- The runes of a text from a place on. -/
def runesFrom (s : ByteArray) : Nat → Nat → List Int
  | 0, _ => []
  | f + 1, pos => if pos < s.size then ((Utf8.decode s pos).1 : Int) :: runesFrom s f (pos + (Utf8.decode s pos).2) else []
def runesZ (s : ByteArray) : List Int := runesFrom s s.size 0

theorem decode_ok (s : ByteArray) (pos : Nat) : RuneOk ((Utf8.decode s pos).1 : Int) := by
  rw [Lib.decode_at]
  unfold Lib.decodeN RuneOk
  repeat' split
  all_goals (simp only []; omega)
theorem runesFrom_ok (s : ByteArray) : ∀ f pos, ∀ r ∈ runesFrom s f pos, RuneOk r
  | 0, _, r, h => by simp [runesFrom] at h
  | f + 1, pos, r, h => by
    unfold runesFrom at h
    split at h
    · rcases List.mem_cons.1 h with rfl | h'
      · exact decode_ok s pos
      · exact runesFrom_ok s f _ r h'
    · simp at h
theorem runesZ_ok (s : ByteArray) : ∀ r ∈ runesZ s, RuneOk r := runesFrom_ok s _ _
theorem runesFrom_end (s : ByteArray) (fuel pos : Nat) (h : ¬ pos < s.size) : runesFrom s fuel pos = [] := by cases fuel <;> simp [runesFrom, h]

theorem runesFrom_uAll : ∀ (rs : List Int) (pre : List Int) (f : Nat), (∀ r ∈ rs, RuneOk r) → AllBytes pre → (uAll rs).length ≤ f → runesFrom (strOfNums (pre ++ uAll rs)) f pre.length = rs
  | [], pre, f, _, _, _ => by rw [runesFrom_end _ _ _ (by rw [nums_size]; simp [uAll])]
  | r :: rs, pre, f, h, hp, hf => by
    have hl := Lib.encodeRuneZ_length r
    rw [uAll_cons, List.length_append] at hf
    obtain ⟨g, rfl⟩ : ∃ g, f = g + 1 := ⟨f - 1, by omega⟩
    have hr := h r (by simp)
    have hd := decode_enc pre (uAll rs) r hp (uAll_bytes rs) hr
    rw [uAll_cons]
    unfold runesFrom
    rw [if_pos (by rw [nums_size]; simp; omega), hd]
    have e : ((r.toNat : Nat) : Int) = r := by unfold RuneOk at hr; omega
    simp only [e]
    have := runesFrom_uAll rs (pre ++ Lib.encodeRuneZ r) g (fun x hx => h x (by simp [hx])) (hp.append (enc_bytes r)) (by omega)
    rw [List.length_append, List.append_assoc] at this
    rw [this]
theorem runesZ_uAll (rs : List Int) (h : ∀ r ∈ rs, RuneOk r) : runesZ (strOfNums (uAll rs)) = rs := by
  have := runesFrom_uAll rs [] (uAll rs).length h AllBytes.nil (Nat.le_refl _)
  unfold runesZ
  rw [nums_size]
  simpa using this

theorem encFrom_runes (s : ByteArray) : ∀ f pos, encFrom s f pos = mAll (runesFrom s f pos)
  | 0, _ => rfl
  | f + 1, pos => by
    unfold encFrom runesFrom
    split
    · rw [mAll_cons, encFrom_runes s f]
    · rfl
theorem encZ_runes (s : ByteArray) : encZ s = mAll (runesZ s) := encFrom_runes s _ _

/-- A text made of runes is valid. -/
theorem valid_uAll : ∀ (rs : List Int), (∀ r ∈ rs, RuneOk r) → Lib.validD (strOfNums (uAll rs)).data.toList = true
  | [], _ => by rfl
  | r :: rs, h => by
    have hr := h r (by simp)
    have hd := decode_enc [] (uAll rs) r AllBytes.nil (uAll_bytes rs) hr
    have hl := Lib.encodeRuneZ_length r
    rw [uAll_cons]
    have hne : (strOfNums (Lib.encodeRuneZ r ++ uAll rs)).data.toList ≠ [] := by
      intro e
      have := congrArg List.length e
      simp [strOfNums] at this
      rw [this.1] at hl; simp at hl
    rw [Lib.validD_step _ hne]
    have hdl : Lib.decodeL (strOfNums (Lib.encodeRuneZ r ++ uAll rs)).data.toList = (r.toNat, (Lib.encodeRuneZ r).length) := by
      have e : (⟨(strOfNums (Lib.encodeRuneZ r ++ uAll rs)).data.toList.toArray⟩ : ByteArray) = strOfNums (Lib.encodeRuneZ r ++ uAll rs) := by simp
      unfold Lib.decodeL
      rw [e]
      simpa using hd
    rw [hdl]
    simp only
    rw [if_neg ?_]
    · have e2 : (strOfNums (Lib.encodeRuneZ r ++ uAll rs)).data.toList.drop (Lib.encodeRuneZ r).length = (strOfNums (uAll rs)).data.toList := by
        simp [strOfNums]
      rw [e2]
      exact valid_uAll rs (fun x hx => h x (by simp [hx]))
    · rintro ⟨h1, h2⟩
      have : r = 65533 := by unfold RuneOk at hr; omega
      subst this
      revert h2; decide
end Go.Proofs.YthagaldpopnoeaaGreatDoor

/- string([]rune(s)): the text of s's runes; it is s itself just if s is valid. -/
namespace Go.Proofs.YthagaldpopnoeaaGreatDoor
open Go.RowKit

theorem conv_runes (s : ByteArray) : ∀ (b i : Nat) (acc : Array Value), Conv.runesFrom s b i acc = acc ++ ((runesFrom s b i).map (Value.int .i32)).toArray
  | 0, _, acc => by simp [Conv.runesFrom, runesFrom]
  | b + 1, i, acc => by
    unfold Conv.runesFrom runesFrom
    by_cases h : i < s.size
    · rw [if_pos h, if_pos h]
      simp only
      rw [conv_runes s b]
      simp
    · rw [if_neg h, if_neg h]; simp

theorem encode_nums (r : Int) (h : RuneOk r) : Utf8.encode r = strOfNums (Lib.encodeRuneZ r) := by
  have hv : Utf8.valid r = true := by unfold RuneOk at h; simp only [Utf8.valid, Bool.or_eq_true, Bool.and_eq_true, decide_eq_true_eq]; omega
  unfold RuneOk at h
  unfold Utf8.encode
  simp only [hv, if_true]
  by_cases h1 : r ≤ 127
  · rw [Lib.encodeRuneZ_one (by omega) h1, if_pos (by omega)]; rfl
  · by_cases h2 : r ≤ 2047
    · rw [Lib.encodeRuneZ_two (by omega) h2, if_neg (by omega), if_pos (by omega)]
      simp only [strOfNums, List.map_cons, List.map_nil]
      rw [show (192 + r / 64).toNat = 192 + r.toNat / 64 by omega, show (128 + r % 64).toNat = 128 + r.toNat % 64 by omega]
    · by_cases h3 : r ≤ 65535
      · rw [Lib.encodeRuneZ_three (by omega), if_neg (by omega), if_neg (by omega), if_pos (by omega)]
        simp only [strOfNums, List.map_cons, List.map_nil]
        rw [show (224 + r / 4096).toNat = 224 + r.toNat / 4096 by omega, show (128 + r / 64 % 64).toNat = 128 + r.toNat / 64 % 64 by omega, show (128 + r % 64).toNat = 128 + r.toNat % 64 by omega]
      · rw [Lib.encodeRuneZ_four (by omega) (by omega), if_neg (by omega), if_neg (by omega), if_neg (by omega)]
        simp only [strOfNums, List.map_cons, List.map_nil]
        rw [show (240 + r / 262144).toNat = 240 + r.toNat / 262144 by omega, show (128 + r / 4096 % 64).toNat = 128 + r.toNat / 4096 % 64 by omega, show (128 + r / 64 % 64).toNat = 128 + r.toNat / 64 % 64 by omega, show (128 + r % 64).toNat = 128 + r.toNat % 64 by omega]

theorem nums_append (a b : List Int) : strOfNums (a ++ b) = strOfNums a ++ strOfNums b := by
  apply ByteArray.ext
  simp [strOfNums]

theorem runesBytes_fold : ∀ (rs : List Int) (pre : List Int), (∀ r ∈ rs, RuneOk r) → rs.foldl (fun r n => r ++ Utf8.encode n) (strOfNums pre) = strOfNums (pre ++ uAll rs)
  | [], pre, _ => by simp [uAll]
  | r :: rs, pre, h => by
    rw [List.foldl_cons, encode_nums r (h r (by simp)), ← nums_append, runesBytes_fold rs _ (fun x hx => h x (by simp [hx])), uAll_cons, List.append_assoc]
theorem runesBytes_uAll (rs : List Int) (h : ∀ r ∈ rs, RuneOk r) : runesBytes rs = strOfNums (uAll rs) := by
  have := runesBytes_fold rs [] h
  rw [show strOfNums [] = ByteArray.empty from rfl] at this
  simpa [runesBytes] using this

theorem runesFrom_len (s : ByteArray) : ∀ f pos, (runesFrom s f pos).length ≤ f
  | 0, _ => by simp [runesFrom]
  | f + 1, pos => by
    unfold runesFrom; split
    · have := runesFrom_len s f (pos + (Utf8.decode s pos).2); simp; omega
    · simp

/-- The text of s's runes. -/
def reStr (s : ByteArray) : ByteArray := strOfNums (uAll (runesZ s))

theorem run_reStr (w : World) (s : ByteArray) (hs : s.size ≤ 70368744177664) : ∃ v1 w1, (convert 9 189 (.string s)).run Tryz.prog w = .ok v1 w1 ∧ (convert 189 9 v1).run Tryz.prog w1 = .ok (.string (reStr s)) w1 ∧ Below w.heap.size w w1 := by
  have hr : Conv.runesFrom s s.size 0 #[] = ((runesZ s).map (Value.int .i32)).toArray := by rw [conv_runes]; simp [runesZ]
  have hl := runesFrom_len s s.size 0
  have hz : (Conv.runesFrom s s.size 0 #[]).size = (runesZ s).length := by rw [hr]; simp
  have h1 := run_runes_of_string (P := Tryz.prog) w 9 189 21 s Tryz.underlying9 Tryz.underlying189 Tryz.underlying21 (by rw [hz]; exact Nat.le_trans hl hs)
  refine ⟨_, _, h1, ?_, (Below.refl _ _).drew.alloc (Nat.le_refl _) _⟩
  rw [run_convert_runes_string _ 189 9 21 _ _ _ Tryz.underlying189 Tryz.underlying21 Tryz.underlying9]
  rw [hz]
  rw [run_runesToString (P := Tryz.prog) _ _ _ _ (runesZ s) ?_, runesBytes_uAll _ (runesZ_ok s)]
  · rfl
  · have hh := run_loadCells_list (P := Tryz.prog) (w.drew.alloc (.cells (Conv.runesFrom s s.size 0 #[] ++ Array.replicate (grownCap w (runesZ s).length 0 21 - (runesZ s).length) (.int .i32 0)) 21)) ⟨w.heap.size, 0, none⟩ ((runesZ s).map (Value.int .i32)) (fun j v hj => by
      have e : (⟨w.heap.size, 0, none⟩ : Addr).add j = ⟨w.heap.size, j, none⟩ := by unfold Addr.add; split <;> simp_all
      have hj' : j < (runesZ s).length := by have := (List.getElem?_eq_some_iff.1 hj).1; simpa using this
      have hc := cell_of_row (w.drew.alloc (.cells (Conv.runesFrom s s.size 0 #[] ++ Array.replicate (grownCap w (runesZ s).length 0 21 - (runesZ s).length) (.int .i32 0)) 21)) w.heap.size j _ 21 (0, 0) (heap_alloc_new w.drew _)
      rw [e, hc, hr, Array.getElem?_append_left (by simpa using hj')]
      simpa using hj)
    simpa using hh

theorem reStr_valid (s : ByteArray) : Lib.validD (reStr s).data.toList = true := valid_uAll _ (runesZ_ok s)
theorem encZ_reStr (s : ByteArray) : encZ (reStr s) = mAll (runesZ s) := encZ_uAll _ (runesZ_ok s)
theorem decL_reStr (s : ByteArray) : decL (mAll (runesZ s)) = some (uAll (runesZ s)) := decL_mAll _ (runesZ_ok s)

theorem uAll_len : ∀ rs : List Int, (uAll rs).length ≤ 4 * rs.length
  | [] => by simp [uAll]
  | r :: rs => by
    have := uAll_len rs
    have := Lib.encodeRuneZ_length r
    rw [uAll_cons, List.length_append, List.length_cons]; omega
theorem mAll_len : ∀ rs : List Int, (mAll rs).length ≤ 6 * rs.length
  | [] => by simp [mAll]
  | r :: rs => by
    have := mAll_len rs
    have := mcode_len r
    rw [mAll_cons, List.length_append, List.length_cons]; omega
theorem reStr_size (s : ByteArray) : (reStr s).size ≤ 4 * s.size := by
  have h1 := uAll_len (runesZ s)
  have h2 : (runesZ s).length ≤ s.size := runesFrom_len s _ _
  unfold reStr; rw [nums_size]; omega
theorem mAll_bytes (rs : List Int) (h : ∀ r ∈ rs, RuneOk r) : AllBytes (mAll rs) := by
  intro x hx
  obtain ⟨r, hr, hx⟩ := List.mem_flatMap.1 hx
  have := h r hr
  exact mcode_bytes r (by unfold RuneOk at this; omega) (by unfold RuneOk at this; omega) x hx
theorem mcode_ne0 (r : Int) (h0 : 0 ≤ r) : ∀ x ∈ mcode r, x ≠ 0 := by
  intro x hx
  unfold mcode at hx
  split at hx
  · simp at hx; omega
  · split at hx
    · simp at hx; omega
    · split at hx
      · simp at hx; omega
      · simp at hx; omega
theorem mAll_ne0 (rs : List Int) (h : ∀ r ∈ rs, RuneOk r) : ∀ x ∈ mAll rs, x ≠ 0 := by
  intro x hx
  obtain ⟨r, hr, hx⟩ := List.mem_flatMap.1 hx
  have := h r hr
  exact mcode_ne0 r (by unfold RuneOk at this; omega) x hx
end Go.Proofs.YthagaldpopnoeaaGreatDoor
