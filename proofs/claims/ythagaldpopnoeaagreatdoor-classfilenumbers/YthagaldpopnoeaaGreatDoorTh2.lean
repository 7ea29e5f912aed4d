/- The UTF-8 side: what a text's runes are, and that a text made of runes holds them. -/
import Derived.Test.YthagaldpopnoeaaGreatDoorTh
import Derived.Test.YthagaldpopnoeaaGreatDoorWrB
namespace Go.Proofs.YthagaldpopnoeaaGreatDoor
open Go.RowKit

theorem nums_size (l : List Int) : (strOfNums l).size = l.length := by simp [strOfNums, ByteArray.size]
theorem nums_get (l : List Int) (hb : AllBytes l) (i : Nat) : ((strOfNums l).get! i).toNat = (l.getD i 0).toNat := by
  unfold strOfNums
  simp only [ByteArray.get!]
  by_cases hi : i < l.length
  · have hx := hb l[i] (by simp)
    simp [hi, List.getD]
    omega
  · simp [hi, List.getD]
    rfl

theorem enc_bytes (r : Int) : AllBytes (Lib.encodeRuneZ r) := fun x hx => by have := Lib.encodeRuneZ_byte r x hx; omega
theorem uAll_bytes (rs : List Int) : AllBytes (uAll rs) := by
  intro x hx
  obtain ⟨r, _, h⟩ := List.mem_flatMap.1 hx
  exact enc_bytes r x h

/-- The decoder at a rune's own bytes. -/
theorem decode_enc (pre t : List Int) (r : Int) (hp : AllBytes pre) (ht : AllBytes t) (h : RuneOk r) :
    Utf8.decode (strOfNums (pre ++ (Lib.encodeRuneZ r ++ t))) pre.length = (r.toNat, (Lib.encodeRuneZ r).length) := by
  have hb : AllBytes (pre ++ (Lib.encodeRuneZ r ++ t)) := hp.append ((enc_bytes r).append ht)
  rw [Lib.decode_at, nums_get _ hb, nums_get _ hb, nums_get _ hb, nums_get _ hb, nums_size]
  have g : ∀ k, (pre ++ (Lib.encodeRuneZ r ++ t)).getD (pre.length + k) 0 = (Lib.encodeRuneZ r ++ t).getD k 0 := by
    intro k; simp only [List.getD]; rw [List.getElem?_append_right (by omega), Nat.add_sub_cancel_left]
  have g0 := g 0
  rw [Nat.add_zero] at g0
  rw [g0, g 1, g 2, g 3]
  have hl : (pre ++ (Lib.encodeRuneZ r ++ t)).length - pre.length = (Lib.encodeRuneZ r).length + t.length := by simp
  rw [hl]
  clear g g0 hl hb hp
  unfold RuneOk at h
  by_cases h1 : r ≤ 127
  · rw [Lib.encodeRuneZ_one (by omega) h1]
    simp only [List.cons_append, List.nil_append, List.getD_cons_zero, Lib.decodeN]
    rw [if_pos (by omega)]; rfl
  · by_cases h2 : r ≤ 2047
    · rw [Lib.encodeRuneZ_two (by omega) h2]
      simp only [List.cons_append, List.nil_append, List.getD_cons_zero, List.getD_cons_succ, List.length_cons, List.length_nil, Lib.decodeN]
      rw [if_neg (by omega), if_pos (by omega), if_pos (by omega)]
      refine Prod.ext ?_ rfl
      simp only; omega
    · by_cases h3 : r ≤ 65535
      · rw [Lib.encodeRuneZ_three (by omega)]
        simp only [List.cons_append, List.nil_append, List.getD_cons_zero, List.getD_cons_succ, List.length_cons, List.length_nil, Lib.decodeN]
        rw [if_neg (by omega), if_neg (by omega), if_pos (by omega), if_pos (by omega)]
        refine Prod.ext ?_ rfl
        simp only; omega
      · rw [Lib.encodeRuneZ_four (by omega) (by omega)]
        simp only [List.cons_append, List.nil_append, List.getD_cons_zero, List.getD_cons_succ, List.length_cons, List.length_nil, Lib.decodeN]
        rw [if_neg (by omega), if_neg (by omega), if_neg (by omega), if_pos (by omega), if_pos (by omega)]
        refine Prod.ext ?_ rfl
        simp only; omega

theorem encFrom_uAll : ∀ (rs : List Int) (pre : List Int) (f : Nat), (∀ r ∈ rs, RuneOk r) → AllBytes pre → (uAll rs).length ≤ f → encFrom (strOfNums (pre ++ uAll rs)) f pre.length = mAll rs
  | [], pre, f, _, _, _ => by rw [encFrom_end _ _ _ (by rw [nums_size]; simp [uAll])]; rfl
  | r :: rs, pre, f, h, hp, hf => by
    have hl := Lib.encodeRuneZ_length r
    rw [uAll_cons, List.length_append] at hf
    obtain ⟨g, rfl⟩ : ∃ g, f = g + 1 := ⟨f - 1, by omega⟩
    have hr := h r (by simp)
    have hd := decode_enc pre (uAll rs) r hp (uAll_bytes rs) hr
    rw [uAll_cons, mAll_cons]
    unfold encFrom
    rw [if_pos (by rw [nums_size]; simp; omega), hd]
    have e : ((r.toNat : Nat) : Int) = r := by unfold RuneOk at hr; omega
    simp only [e]
    have := encFrom_uAll rs (pre ++ Lib.encodeRuneZ r) g (fun x hx => h x (by simp [hx])) (hp.append (enc_bytes r)) (by omega)
    rw [List.length_append, List.append_assoc] at this
    rw [this]
theorem encZ_uAll (rs : List Int) (h : ∀ r ∈ rs, RuneOk r) : encZ (strOfNums (uAll rs)) = mAll rs := by
  have := encFrom_uAll rs [] (uAll rs).length h AllBytes.nil (Nat.le_refl _)
  unfold encZ
  rw [nums_size]
  simpa using this

/-- The runes of a text from a place on. -/
def runesFrom (s : ByteArray) : Nat → Nat → List Int
  | 0, _ => []
  | f + 1, pos => if pos < s.size then ((Utf8.decode s pos).1 : Int) :: runesFrom s f (pos + (Utf8.decode s pos).2) else []
def runesZ (s : ByteArray) : List Int := runesFrom s s.size 0

theorem decode_ok (s : ByteArray) (pos : Nat) : RuneOk ((Utf8.decode s pos).1 : Int) := by
  rw [Lib.decode_at]
  unfold Lib.decodeN RuneOk
  repeat' split
  all_goals (simp only []; omega)
theorem runesFrom_ok (s : ByteArray) : ∀ f pos, ∀ r ∈ runesFrom s f pos, RuneOk r
  | 0, _, r, h => by simp [runesFrom] at h
  | f + 1, pos, r, h => by
    unfold runesFrom at h
    split at h
    · rcases List.mem_cons.1 h with rfl | h'
      · exact decode_ok s pos
      · exact runesFrom_ok s f _ r h'
    · simp at h
theorem runesZ_ok (s : ByteArray) : ∀ r ∈ runesZ s, RuneOk r := runesFrom_ok s _ _
theorem runesFrom_end (s : ByteArray) (fuel pos : Nat) (h : ¬ pos < s.size) : runesFrom s fuel pos = [] := by cases fuel <;> simp [runesFrom, h]

theorem runesFrom_uAll : ∀ (rs : List Int) (pre : List Int) (f : Nat), (∀ r ∈ rs, RuneOk r) → AllBytes pre → (uAll rs).length ≤ f → runesFrom (strOfNums (pre ++ uAll rs)) f pre.length = rs
  | [], pre, f, _, _, _ => by rw [runesFrom_end _ _ _ (by rw [nums_size]; simp [uAll])]
  | r :: rs, pre, f, h, hp, hf => by
    have hl := Lib.encodeRuneZ_length r
    rw [uAll_cons, List.length_append] at hf
    obtain ⟨g, rfl⟩ : ∃ g, f = g + 1 := ⟨f - 1, by omega⟩
    have hr := h r (by simp)
    have hd := decode_enc pre (uAll rs) r hp (uAll_bytes rs) hr
    rw [uAll_cons]
    unfold runesFrom
    rw [if_pos (by rw [nums_size]; simp; omega), hd]
    have e : ((r.toNat : Nat) : Int) = r := by unfold RuneOk at hr; omega
    simp only [e]
    have := runesFrom_uAll rs (pre ++ Lib.encodeRuneZ r) g (fun x hx => h x (by simp [hx])) (hp.append (enc_bytes r)) (by omega)
    rw [List.length_append, List.append_assoc] at this
    rw [this]
theorem runesZ_uAll (rs : List Int) (h : ∀ r ∈ rs, RuneOk r) : runesZ (strOfNums (uAll rs)) = rs := by
  have := runesFrom_uAll rs [] (uAll rs).length h AllBytes.nil (Nat.le_refl _)
  unfold runesZ
  rw [nums_size]
  simpa using this

theorem encFrom_runes (s : ByteArray) : ∀ f pos, encFrom s f pos = mAll (runesFrom s f pos)
  | 0, _ => rfl
  | f + 1, pos => by
    unfold encFrom runesFrom
    split
    · rw [mAll_cons, encFrom_runes s f]
    · rfl
theorem encZ_runes (s : ByteArray) : encZ s = mAll (runesZ s) := encFrom_runes s _ _

/-- A text made of runes is valid. -/
theorem valid_uAll : ∀ (rs : List Int), (∀ r ∈ rs, RuneOk r) → Lib.validD (strOfNums (uAll rs)).data.toList = true
  | [], _ => by rfl
  | r :: rs, h => by
    have hr := h r (by simp)
    have hd := decode_enc [] (uAll rs) r AllBytes.nil (uAll_bytes rs) hr
    have hl := Lib.encodeRuneZ_length r
    rw [uAll_cons]
    have hne : (strOfNums (Lib.encodeRuneZ r ++ uAll rs)).data.toList ≠ [] := by
      intro e
      have := congrArg List.length e
      simp [strOfNums] at this
      rw [this.1] at hl; simp at hl
    rw [Lib.validD_step _ hne]
    have hdl : Lib.decodeL (strOfNums (Lib.encodeRuneZ r ++ uAll rs)).data.toList = (r.toNat, (Lib.encodeRuneZ r).length) := by
      have e : (⟨(strOfNums (Lib.encodeRuneZ r ++ uAll rs)).data.toList.toArray⟩ : ByteArray) = strOfNums (Lib.encodeRuneZ r ++ uAll rs) := by simp
      unfold Lib.decodeL
      rw [e]
      simpa using hd
    rw [hdl]
    simp only
    rw [if_neg ?_]
    · have e2 : (strOfNums (Lib.encodeRuneZ r ++ uAll rs)).data.toList.drop (Lib.encodeRuneZ r).length = (strOfNums (uAll rs)).data.toList := by
        simp [strOfNums]
      rw [e2]
      exact valid_uAll rs (fun x hx => h x (by simp [hx]))
    · rintro ⟨h1, h2⟩
      have : r = 65533 := by unfold RuneOk at hr; omega
      subst this
      revert h2; decide
end Go.Proofs.YthagaldpopnoeaaGreatDoor
