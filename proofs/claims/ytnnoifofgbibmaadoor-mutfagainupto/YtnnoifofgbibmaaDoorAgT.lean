/- What was written is read: the plain part. -/
import Derived.Test.YtnnoifofgbibmaaDoorTh3
import Derived.Test.YtnnoifofgbibmaaDoorRdN
import Derived.Test.YtnnoifofgbibmaaDoorOpP
namespace Go.Proofs.YtnnoifofgbibmaaDoor
open Go.RowKit

theorem beVal_cons (c : Int) (bs : List Int) : beVal (c :: bs) = c * 256 ^ bs.length + beVal bs := by
  have key : ∀ (bs : List Int) (m : Int), bs.foldl (fun n c => n * 256 + c) m = m * 256 ^ bs.length + bs.foldl (fun n c => n * 256 + c) 0 := by
    intro bs
    induction bs with
    | nil => intro m; simp
    | cons b bs ih =>
      intro m
      simp only [List.foldl_cons, List.length_cons]
      rw [ih (m * 256 + b), ih (0 * 256 + b)]
      rw [Int.pow_succ, Int.add_mul, Int.zero_mul, Int.zero_add, Int.mul_assoc, Int.mul_comm 256, Int.add_assoc]
  unfold beVal
  rw [List.foldl_cons, key bs (0 * 256 + c)]
  simp
theorem beVal_be (n : Int) : ∀ k, beVal (be n k) = n % 256 ^ k
  | 0 => by simp [be, beVal, Int.emod_one]
  | k + 1 => by
    have ih := beVal_be n k
    show beVal ((n / 2 ^ (8 * k) % 256) :: be n k) = _
    rw [beVal_cons, be_len, ih]
    have e : (2 : Int) ^ (8 * k) = 256 ^ k := by rw [Int.pow_mul]; rfl
    rw [e, Int.pow_succ]
    have hp : (0 : Int) < 256 ^ k := Int.pow_pos (by decide)
    generalize (256 : Int) ^ k = P at *
    have h1 := Int.emod_add_mul_ediv n P
    have h2 := Int.emod_add_mul_ediv (n / P) 256
    have h3 : n = (n / P % 256 * P + n % P) + (P * 256) * (n / P / 256) := by
      have : P * (n / P) = P * (n / P % 256) + P * (256 * (n / P / 256)) := by rw [← Int.mul_add, h2]
      rw [Int.mul_assoc]
      have e2 : n / P % 256 * P = P * (n / P % 256) := Int.mul_comm _ _
      omega
    have hlo : 0 ≤ n % P := Int.emod_nonneg _ (by omega)
    have hhi : n % P < P := Int.emod_lt_of_pos _ hp
    have q0 : 0 ≤ n / P % 256 := Int.emod_nonneg _ (by decide)
    have q1 : n / P % 256 ≤ 255 := by omega
    have r0 : 0 ≤ n / P % 256 * P := Int.mul_nonneg q0 (by omega)
    have r1 : n / P % 256 * P ≤ 255 * P := Int.mul_le_mul_of_nonneg_right q1 (by omega)
    have h4 : (n / P % 256 * P + n % P) % (P * 256) = n / P % 256 * P + n % P := Int.emod_eq_of_lt (by omega) (by omega)
    have h5 : n % (P * 256) = ((n / P % 256 * P + n % P) + (P * 256) * (n / P / 256)) % (P * 256) := congrArg (· % (P * 256)) h3
    rw [h5, Int.add_mul_emod_self_left, h4]

theorem wrap_be8 (n : Int) (h0 : -9223372036854775808 ≤ n) (h1 : n ≤ 9223372036854775807) : IntKind.i64.wrap (beVal (be n 8)) = n := by
  rw [beVal_be, show (256 : Int) ^ 8 = 18446744073709551616 by decide, IntKind.wrap_i64]; omega

/-- What is taken where it was written. -/
theorem tk_at (A X Y : List Int) : tk (A ++ (X ++ Y)) A.length 0 (X.length : Nat) = (X, A.length + X.length, 0) := by
  unfold tk
  by_cases h0 : X.length = 0
  · have : X = [] := List.length_eq_zero_iff.1 h0
    subst this
    rw [if_pos (by simp)]; simp
  · rw [if_neg (by rintro (h | h); · exact h rfl
                   · omega), if_neg (by simp only [List.length_append]; omega)]
    rw [List.drop_left, Int.toNat_natCast, List.take_left]

/-- The text that is written. -/
def fewZ (s : ByteArray) : ByteArray := if 60 < s.size then ⟨#[108, 111, 110, 103]⟩ else s
def fewRunes (s : ByteArray) : List Int := if 60 < (reStr s).size then [108, 111, 110, 103] else runesZ s
theorem fewRunes_ok (s : ByteArray) : ∀ r ∈ fewRunes s, RuneOk r := by
  unfold fewRunes; split
  · intro r hr; simp at hr; unfold RuneOk; omega
  · exact runesZ_ok s
theorem few_eq (s : ByteArray) : fewZ (reStr s) = strOfNums (uAll (fewRunes s)) := by
  unfold fewZ fewRunes; split
  · rfl
  · rfl
theorem few_size (s : ByteArray) : (fewZ (reStr s)).size ≤ 60 := by
  unfold fewZ; split
  · decide
  · omega
theorem mu_len : ∀ rs : List Int, (∀ r ∈ rs, RuneOk r) → (mAll rs).length ≤ 2 * (uAll rs).length
  | [], _ => by simp [mAll]
  | r :: rs, h => by
    have ih := mu_len rs (fun x hx => h x (by simp [hx]))
    have hr := h r (by simp)
    have hlen : (mcode r).length ≤ 2 * (Lib.encodeRuneZ r).length := by
      have he := Lib.encodeRuneZ_length r
      unfold RuneOk at hr
      by_cases c1 : 1 ≤ r ∧ r ≤ 127
      · rw [mcode1 c1]; simp; omega
      · by_cases c2 : r ≤ 2047
        · rw [mcode2 c1 c2]; simp; omega
        · by_cases c3 : r < 65536
          · rw [mcode3 (by omega) c3, Lib.encodeRuneZ_three (by omega)]; simp
          · rw [Lib.encodeRuneZ_four (by omega) (by omega)]
            have := mcode_len r
            simp; omega
    rw [mAll_cons, uAll_cons, List.length_append, List.length_append]; omega

/-- What one Part is written as. -/
def recZ (p : PartD) : List Int := be p.n 8 ++ (wtextZ (fewZ (reStr p.s)) ++ (be (p.lr.length : Nat) 4 ++ p.lr))
theorem wtext_few (s : ByteArray) : wtextZ (fewZ (reStr s)) = be ((mAll (fewRunes s)).length : Nat) 2 ++ mAll (fewRunes s) ∧ (mAll (fewRunes s)).length ≤ 120 := by
  have hk := fewRunes_ok s
  have hl := mu_len _ hk
  have hs := few_size s
  rw [few_eq, nums_size] at hs
  have he := encZ_uAll _ hk
  refine ⟨?_, by omega⟩
  unfold wtextZ
  rw [few_eq, he, if_pos ⟨valid_uAll _ hk, by omega⟩]

/-- The text is read where it was written. -/
theorem rtext_at (A Y : List Int) (s : ByteArray) : rtext (A ++ (wtextZ (fewZ (reStr s)) ++ Y)) A.length 0 = (fewZ (reStr s), A.length + (wtextZ (fewZ (reStr s))).length, 0) := by
  obtain ⟨e, hl⟩ := wtext_few s
  rw [e]
  generalize hM : mAll (fewRunes s) = M at *
  have hd : decL M = some (uAll (fewRunes s)) := by rw [← hM]; exact decL_mAll _ (fewRunes_ok s)
  have h1 : tk (A ++ ((be (M.length : Nat) 2 ++ M) ++ Y)) A.length 0 2 = (be (M.length : Nat) 2, A.length + 2, 0) := by
    have := tk_at A (be (M.length : Nat) 2) (M ++ Y)
    rw [be_len, ← List.append_assoc (be _ 2)] at this
    exact this
  have hv : beVal (be (M.length : Nat) 2) = (M.length : Nat) := by
    rw [beVal_be, show (256 : Int) ^ 2 = 65536 by decide]; omega
  have h2 : tk (A ++ ((be (M.length : Nat) 2 ++ M) ++ Y)) (A.length + 2) (if 256 < beVal (be (M.length : Nat) 2) then fl 0 3 else 0) (beVal (be (M.length : Nat) 2)) = (M, A.length + 2 + M.length, 0) := by
    rw [hv, if_neg (by omega)]
    have := tk_at (A ++ be (M.length : Nat) 2) M Y
    rw [List.length_append, be_len] at this
    rw [show A ++ ((be (M.length : Nat) 2 ++ M) ++ Y) = (A ++ be (M.length : Nat) 2) ++ (M ++ Y) by simp]
    exact this
  rw [rtext_some h1 h2 hd, few_eq, List.length_append, be_len]
  rw [show A.length + 2 + M.length = A.length + (2 + M.length) by omega]
  rfl

/-- What all Parts are written as. -/
def recs (ps : List PartD) : List Int := ps.flatMap recZ
theorem recs_snoc (ps : List PartD) (p : PartD) : recs (ps ++ [p]) = recs ps ++ recZ p := by simp [recs]
end Go.Proofs.YtnnoifofgbibmaaDoor
