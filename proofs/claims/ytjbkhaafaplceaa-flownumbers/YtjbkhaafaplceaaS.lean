/- Instructions as bytes, without Go: what chapter 5 says, and that it goes both ways. -/
import Derived.WalkKit
namespace Go.Proofs.Ytjbkhaafaplceaa

def AllBytes (l : List Int) : Prop := ∀ x ∈ l, 0 ≤ x ∧ x ≤ 255
structure IN where
  pl : Int
  op : Int
  a : Int
  b : Int

/-- What kind of operand: 0 none such, 1 no operand, 2 a byte, 3 a byte with its sign, 4 two bytes, 5 two with their sign, 6 a branch, 7 Inc. -/
def kd (op : Int) : Nat :=
  if op = 132 then 7 else if (153 ≤ op ∧ op ≤ 167) ∨ op = 198 ∨ op = 199 then 6 else if op = 17 then 5
  else if (178 ≤ op ∧ op ≤ 182) ∨ op = 184 ∨ op = 187 ∨ op = 189 ∨ op = 192 ∨ op = 193 then 4
  else if op = 16 then 3 else if op = 18 ∨ op = 21 ∨ op = 25 ∨ op = 54 ∨ op = 58 ∨ op = 188 then 2
  else if (0 ≤ op ∧ op ≤ 8) ∨ op = 46 ∨ op = 50 ∨ op = 79 ∨ op = 83 ∨ op = 87 ∨ op = 89 ∨ op = 95 ∨ op = 96 ∨ op = 100 ∨ op = 104 ∨ op = 108 ∨ op = 112 ∨ op = 116 ∨ op = 120 ∨ op = 122 ∨ op = 124 ∨ op = 126 ∨ op = 128 ∨ op = 130 ∨ op = 172 ∨ op = 176 ∨ op = 177 ∨ op = 190 ∨ op = 191 ∨ op = 194 ∨ op = 195 then 1 else 0
def szK : Nat → Nat
  | 0 => 0 | 1 => 1 | 2 => 2 | 3 => 2 | _ => 3
def sz (op : Int) : Nat := szK (kd op)
theorem kd_le (op : Int) : kd op ≤ 7 := by
  unfold kd
  repeat' split
  all_goals omega
theorem kd_byte {op : Int} (h : kd op ≠ 0) : 0 ≤ op ∧ op ≤ 255 := by
  unfold kd at h
  repeat' split at h
  all_goals omega
theorem kd_six (op : Int) : kd op = 6 ↔ (153 ≤ op ∧ op ≤ 167) ∨ op = 198 ∨ op = 199 := by
  unfold kd
  constructor
  · intro h
    repeat' split at h
    all_goals first | assumption | omega
  · intro h
    rw [if_neg (by omega), if_pos h]
theorem sz_le (op : Int) : sz op ≤ 3 := by
  unfold sz szK
  split <;> omega
theorem sz_zero (op : Int) : sz op = 0 ↔ kd op = 0 := by
  unfold sz szK
  split <;> simp_all
/-- Does what it asks for fit? -/
def fits (i : IN) : Prop :=
  match kd i.op with
  | 7 => (0 ≤ i.a ∧ i.a ≤ 255) ∧ -128 ≤ i.b ∧ i.b ≤ 127
  | 6 => i.b = 0 ∧ -32768 ≤ i.a - i.pl ∧ i.a - i.pl ≤ 32767
  | 5 => i.b = 0 ∧ -32768 ≤ i.a ∧ i.a ≤ 32767
  | 4 => i.b = 0 ∧ 0 ≤ i.a ∧ i.a ≤ 65535
  | 3 => i.b = 0 ∧ -128 ≤ i.a ∧ i.a ≤ 127
  | 2 => i.b = 0 ∧ 0 ≤ i.a ∧ i.a ≤ 255
  | _ => i.a = 0 ∧ i.b = 0
/-- Its bytes. -/
def oneB (i : IN) : List Int :=
  match kd i.op with
  | 7 => [i.op, i.a % 256, i.b % 256]
  | 6 => [i.op, (i.a - i.pl) / 256 % 256, (i.a - i.pl) % 256]
  | 5 => [i.op, i.a / 256 % 256, i.a % 256]
  | 4 => [i.op, i.a / 256 % 256, i.a % 256]
  | 3 => [i.op, i.a % 256]
  | 2 => [i.op, i.a % 256]
  | _ => [i.op]
def s8 (x : Int) : Int := if 128 ≤ x then x - 256 else x
def s16 (x : Int) : Int := if 32768 ≤ x then x - 65536 else x
/-- What stands at a place: an operation, and what is behind it. -/
def inst (p : Int) (op : Int) (t : List Int) : IN :=
  match kd op with
  | 7 => ⟨p, op, t.getD 0 0, s8 (t.getD 1 0)⟩
  | 6 => ⟨p, op, s16 (t.getD 0 0 * 256 + t.getD 1 0) + p, 0⟩
  | 5 => ⟨p, op, s16 (t.getD 0 0 * 256 + t.getD 1 0), 0⟩
  | 4 => ⟨p, op, t.getD 0 0 * 256 + t.getD 1 0, 0⟩
  | 3 => ⟨p, op, s8 (t.getD 0 0), 0⟩
  | 2 => ⟨p, op, t.getD 0 0, 0⟩
  | _ => ⟨p, op, 0, 0⟩
theorem kd_cases (op : Int) : kd op = 0 ∨ kd op = 1 ∨ kd op = 2 ∨ kd op = 3 ∨ kd op = 4 ∨ kd op = 5 ∨ kd op = 6 ∨ kd op = 7 := by have := kd_le op; omega
theorem one_len (i : IN) (h : kd i.op ≠ 0) : (oneB i).length = sz i.op := by
  unfold oneB sz
  rcases kd_cases i.op with e | e | e | e | e | e | e | e
  · exact absurd e h
  all_goals rw [e]; rfl
/-- What was written is read. -/
theorem inst_one (i : IN) (h : kd i.op ≠ 0) (hf : fits i) (R : List Int) : ∃ t, oneB i = i.op :: t ∧ t.length + 1 = sz i.op ∧ inst i.pl i.op (t ++ R) = i := by
  obtain ⟨p, op, a, b⟩ := i
  unfold fits at hf
  unfold oneB inst sz
  simp only at *
  rcases kd_cases op with e | e | e | e | e | e | e | e
  · exact absurd e h
  · rw [e] at hf ⊢
    simp only at hf ⊢
    exact ⟨[], rfl, rfl, by simp [hf.1, hf.2]⟩
  · rw [e] at hf ⊢
    simp only at hf ⊢
    refine ⟨[a % 256], rfl, rfl, ?_⟩
    simp only [List.cons_append, List.nil_append, List.getD_cons_zero]
    rw [show a % 256 = a by omega, hf.1]
  · rw [e] at hf ⊢
    simp only at hf ⊢
    refine ⟨[a % 256], rfl, rfl, ?_⟩
    simp only [List.cons_append, List.nil_append, List.getD_cons_zero]
    rw [show s8 (a % 256) = a by unfold s8; split <;> omega, hf.1]
  · rw [e] at hf ⊢
    simp only at hf ⊢
    refine ⟨[a / 256 % 256, a % 256], rfl, rfl, ?_⟩
    simp only [List.cons_append, List.nil_append, List.getD_cons_zero, List.getD_cons_succ]
    rw [show a / 256 % 256 * 256 + a % 256 = a by omega, hf.1]
  · rw [e] at hf ⊢
    simp only at hf ⊢
    refine ⟨[a / 256 % 256, a % 256], rfl, rfl, ?_⟩
    simp only [List.cons_append, List.nil_append, List.getD_cons_zero, List.getD_cons_succ]
    rw [show s16 (a / 256 % 256 * 256 + a % 256) = a by unfold s16; split <;> omega, hf.1]
  · rw [e] at hf ⊢
    simp only at hf ⊢
    refine ⟨[(a - p) / 256 % 256, (a - p) % 256], rfl, rfl, ?_⟩
    simp only [List.cons_append, List.nil_append, List.getD_cons_zero, List.getD_cons_succ]
    rw [show s16 ((a - p) / 256 % 256 * 256 + (a - p) % 256) + p = a by unfold s16; split <;> omega, hf.1]
  · rw [e] at hf ⊢
    simp only at hf ⊢
    refine ⟨[a % 256, b % 256], rfl, rfl, ?_⟩
    simp only [List.cons_append, List.nil_append, List.getD_cons_zero, List.getD_cons_succ]
    rw [show a % 256 = a by omega, show s8 (b % 256) = b by unfold s8; split <;> omega]
/-- What is read fits, and is written as its bytes. -/
theorem one_inst (p : Int) (op : Int) (t : List Int) (h : kd op ≠ 0) (hb : AllBytes t) (hl : t.length + 1 = sz op) (R : List Int) : fits (inst p op (t ++ R)) ∧ oneB (inst p op (t ++ R)) = op :: t ∧ (inst p op (t ++ R)).op = op ∧ (inst p op (t ++ R)).pl = p := by
  unfold sz at hl
  rcases kd_cases op with e | e | e | e | e | e | e | e
  · exact absurd e h
  · rw [e] at hl
    have ht : t = [] := by simpa [szK] using hl
    subst ht
    refine ⟨?_, ?_, ?_, ?_⟩ <;> simp [inst, fits, oneB, e]
  · rw [e] at hl
    obtain ⟨x, rfl⟩ := List.length_eq_one_iff.1 (by simp [szK] at hl; omega : t.length = 1)
    have hx := hb x (by simp)
    refine ⟨?_, ?_, ?_, ?_⟩ <;> simp [inst, fits, oneB, e] <;> omega
  · rw [e] at hl
    obtain ⟨x, rfl⟩ := List.length_eq_one_iff.1 (by simp [szK] at hl; omega : t.length = 1)
    have hx := hb x (by simp)
    refine ⟨?_, ?_, ?_, ?_⟩ <;> simp [inst, fits, oneB, e, s8] <;> (try split) <;> omega
  all_goals
    rw [e] at hl
    match t, (by simp [szK] at hl; omega : t.length = 2) with
    | [x, z], _ =>
      have hx := hb x (by simp)
      have hz := hb z (by simp)
      refine ⟨?_, ?_, ?_, ?_⟩ <;> simp [inst, fits, oneB, e, s8, s16] <;> (try split) <;> omega

/-! Lists. -/
def fitsB (i : IN) : Bool :=
  match kd i.op with
  | 7 => decide ((0 ≤ i.a ∧ i.a ≤ 255) ∧ -128 ≤ i.b ∧ i.b ≤ 127)
  | 6 => decide (i.b = 0 ∧ -32768 ≤ i.a - i.pl ∧ i.a - i.pl ≤ 32767)
  | 5 => decide (i.b = 0 ∧ -32768 ≤ i.a ∧ i.a ≤ 32767)
  | 4 => decide (i.b = 0 ∧ 0 ≤ i.a ∧ i.a ≤ 65535)
  | 3 => decide (i.b = 0 ∧ -128 ≤ i.a ∧ i.a ≤ 127)
  | 2 => decide (i.b = 0 ∧ 0 ≤ i.a ∧ i.a ≤ 255)
  | _ => decide (i.a = 0 ∧ i.b = 0)
theorem fitsB_iff (i : IN) : fitsB i = true ↔ fits i := by
  unfold fitsB fits
  split <;> exact decide_eq_true_iff
/-- What Encode says, behind what was written already. -/
def encL : List IN → List Int → List Int × Int
  | [], out => if 1024 < out.length then ([], 3) else (out, 0)
  | i :: l, out => if kd i.op = 0 then ([], 15) else if i.pl ≠ (out.length : Int) then ([], 16) else if fitsB i = false then ([], 1) else encL l (out ++ oneB i)
/-- What Decode says of the bytes b from a place on. -/
def decL5 (b : List Int) : Nat → Nat → List IN → List IN × Int × Int
  | 0, _, acc => (acc, 0, 0)
  | f + 1, p, acc =>
    match b.drop p with
    | [] => (acc, 0, 0)
    | op :: t => if kd op = 0 then ([], 15, p) else if b.length < p + sz op then ([], 10, p) else decL5 b f (p + sz op) (acc ++ [inst p op t])
def decZ5 (b : List Int) : List IN × Int × Int := if 1024 < b.length then ([], 3, 0) else decL5 b b.length 0 []
theorem sz_pos {op : Int} (h : kd op ≠ 0) : 1 ≤ sz op := by
  have := sz_zero op
  omega
/-- What is read is written: the list stands for the bytes up to where one stands. -/
theorem enc_dec (b : List Int) (hb : AllBytes b) (hb' : b.length ≤ 1024) : ∀ (f p : Nat) (acc m : List IN), decL5 b f p acc = (m, 0, 0) → p ≤ b.length → b.length ≤ p + f → ∃ l, m = acc ++ l ∧ encL l (b.take p) = (b, 0)
  | 0, p, acc, m, h, hp, hf => by
    simp only [decL5, Prod.mk.injEq, and_true] at h
    subst h
    have : p = b.length := by omega
    subst this
    exact ⟨[], by simp, by simp only [encL, List.take_length]; rw [if_neg (by omega)]⟩
  | f + 1, p, acc, m, h, hp, hf => by
    unfold decL5 at h
    split at h
    · rename_i hd
      simp only [Prod.mk.injEq, and_true] at h
      subst h
      have hp2 : p = b.length := by
        have := congrArg List.length hd
        rw [List.length_drop] at this
        simp at this
        omega
      subst hp2
      exact ⟨[], by simp, by simp only [encL, List.take_length]; rw [if_neg (by omega)]⟩
    · rename_i op t hd
      split at h
      · simp at h
      · rename_i hk
        split at h
        · simp at h
        · rename_i hl
          have hs := sz_pos hk
          obtain ⟨l, rfl, he⟩ := enc_dec b hb hb' f _ _ _ h (by omega) (by omega)
          have hlt : t.length = b.length - p - 1 := by
            have := congrArg List.length hd
            rw [List.length_drop, List.length_cons] at this
            omega
          have hbt : AllBytes (t.take (sz op - 1)) := fun x hx => hb x (by
            have h1 : x ∈ b.drop p := by rw [hd]; exact List.mem_cons_of_mem _ (List.mem_of_mem_take hx)
            exact List.mem_of_mem_drop h1)
          obtain ⟨h1, h2, h3, h4⟩ := one_inst p op (t.take (sz op - 1)) hk hbt (by rw [List.length_take]; omega) (t.drop (sz op - 1))
          rw [List.take_append_drop] at h1 h2 h3 h4
          refine ⟨inst p op t :: l, by simp, ?_⟩
          have hlen : ((b.take p).length : Int) = p := by rw [List.length_take, Nat.min_eq_left hp]
          unfold encL
          rw [h3, if_neg hk, h4, hlen, if_neg (by simp), if_neg (by rw [(fitsB_iff _).2 h1]; decide), h2]
          have ht : b.take (p + sz op) = b.take p ++ op :: t.take (sz op - 1) := by
            rw [List.take_add, hd]
            congr 1
            obtain ⟨s, hs2⟩ : ∃ s, sz op = s + 1 := ⟨sz op - 1, by omega⟩
            rw [hs2]; simp
          rw [← ht]
          exact he
/-- What is written is read. -/
theorem dec_enc : ∀ (l : List IN) (out b : List Int), encL l out = (b, 0) → b.length ≤ 1024 ∧ ∃ R, b = out ++ R ∧ ∀ (f : Nat) (acc : List IN), b.length ≤ out.length + f → decL5 b f out.length acc = (acc ++ l, 0, 0)
  | [], out, b, h => by
    unfold encL at h
    split at h
    · simp at h
    · simp only [Prod.mk.injEq, and_true] at h
      subst h
      refine ⟨by omega, [], by simp, fun f acc _ => ?_⟩
      cases f with
      | zero => simp [decL5]
      | succ f => simp [decL5]
  | i :: l, out, b, h => by
    unfold encL at h
    split at h
    · simp at h
    · rename_i hk
      split at h
      · simp at h
      · rename_i hp
        split at h
        · simp at h
        · rename_i hf
          have hf' : fits i := (fitsB_iff i).1 (by simpa using hf)
          obtain ⟨hb, R, hR, hd⟩ := dec_enc l _ b h
          obtain ⟨t, ht, hl, hi⟩ := inst_one i hk hf' R
          have hpl : i.pl = (out.length : Int) := Classical.not_not.1 hp
          refine ⟨hb, oneB i ++ R, by rw [hR]; simp, fun f acc hfu => ?_⟩
          have hlen : b.length = out.length + sz i.op + R.length := by
            rw [hR]; simp only [List.length_append]; rw [one_len i hk]
          have hs := sz_pos hk
          obtain ⟨f', rfl⟩ : ∃ f', f = f' + 1 := ⟨f - 1, by omega⟩
          have hdrop : b.drop out.length = i.op :: (t ++ R) := by
            rw [hR, List.append_assoc, List.drop_left, ht]; rfl
          unfold decL5
          rw [hdrop]
          simp only
          rw [if_neg hk, if_neg (by omega), ← hpl, hi]
          have := hd f' (acc ++ [i]) (by rw [List.length_append, one_len i hk]; omega)
          rw [List.length_append, one_len i hk] at this
          rw [this]
          simp
theorem back1 (b : List Int) (hb : AllBytes b) (m : List IN) (h : decZ5 b = (m, 0, 0)) : encL m [] = (b, 0) := by
  unfold decZ5 at h
  split at h
  · simp at h
  · obtain ⟨l, rfl, he⟩ := enc_dec b hb (by omega) b.length 0 [] m h (Nat.zero_le _) (by omega)
    simpa using he
theorem back2 (l : List IN) (b : List Int) (h : encL l [] = (b, 0)) : decZ5 b = (l, 0, 0) := by
  obtain ⟨hb, R, hR, hd⟩ := dec_enc l [] b h
  unfold decZ5
  rw [if_neg (by omega)]
  have := hd b.length [] (by simp)
  simpa using this

/-- What an instruction's bytes say is the instruction just if it fits. -/
theorem inst_iff (i : IN) (h : kd i.op ≠ 0) {t : List Int} (ht : oneB i = i.op :: t) : inst i.pl i.op t = i ↔ fits i := by
  constructor
  · intro e
    have hb : AllBytes t := by
      have hx : ∀ x ∈ oneB i, x = i.op ∨ (0 ≤ x ∧ x ≤ 255) := by
        intro x hx
        unfold oneB at hx
        split at hx <;> simp at hx <;> omega
      have hop := kd_byte h
      intro x hx'
      rcases hx x (by rw [ht]; exact List.mem_cons_of_mem _ hx') with e | e
      · rw [e]; exact hop
      · exact e
    have hl : t.length + 1 = sz i.op := by have := one_len i h; rw [ht] at this; simpa using this
    have := (one_inst i.pl i.op t h hb hl []).1
    rw [List.append_nil, e] at this
    exact this
  · intro hf
    obtain ⟨t', ht', _, hi⟩ := inst_one i h hf []
    rw [ht] at ht'
    cases ht'
    rwa [List.append_nil] at hi
theorem one_bytes (i : IN) (h : kd i.op ≠ 0) : AllBytes (oneB i) := by
  have hop := kd_byte h
  intro x hx
  unfold oneB at hx
  split at hx <;> simp at hx <;> omega
theorem one_form (i : IN) : ∃ t, oneB i = i.op :: t := by
  unfold oneB
  split <;> exact ⟨_, rfl⟩
end Go.Proofs.Ytjbkhaafaplceaa
