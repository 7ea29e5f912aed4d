/- What Right lets by can be written; Encode: walked. -/
import Derived.Test.YthagaldpopnoeaaGreatDoorCE
namespace Go.Proofs.YthagaldpopnoeaaGreatDoor
open Go.RowKit D

theorem fields_each : ∀ (l a : List FD), fieldsZ a l = 0 → ∀ x ∈ l, nameB (bsB x.nm) = true ∧ fieldB (bsB x.ds) = true
  | [], _, _, _, hx => by simp at hx
  | f :: l, a, h, x, hx => by
    unfold fieldsZ at h
    by_cases hz : fieldZ f a = 0
    · rw [if_pos hz] at h
      rcases List.mem_cons.1 hx with rfl | hx
      · unfold fieldZ at hz
        by_cases hb : (nameB (bsB x.nm) && fieldB (bsB x.ds)) = false
        · rw [if_pos hb] at hz; omega
        · simpa using hb
      · exact fields_each l _ h x hx
    · rw [if_neg hz] at h; exact absurd h hz
/-- What Right asks of a method, all of it. -/
structure MOk (m : MD) : Prop where
  nm : nameB (bsB m.nm) = true
  ds : methodB m.ds = true
  stk : inB m.stk 16 = true
  loc : inB m.loc 16 = true
  code : m.code.length ≤ 1024
  hl : m.hs.length ≤ 64
  rl : m.rs.length ≤ 64
  hs : ∀ h ∈ m.hs, handB h = true
  pl : ∀ f ∈ m.rs, placeB f = true
  sz : ∀ f ∈ m.rs, sizeB f = true
  ty : ∀ f ∈ m.rs, slotsB f = true
theorem meth_ok {m : MD} {a : List MD} (h : methZ m a = 0) : MOk m := by
  unfold methZ at h
  by_cases h1 : (nameB (bsB m.nm) && methodB m.ds) = false
  · rw [if_pos h1] at h; omega
  rw [if_neg h1] at h
  by_cases h2 : a.any (sameM m) = true
  · rw [if_pos h2] at h; omega
  rw [if_neg h2] at h
  by_cases h3 : (inB m.stk 16 && (inB m.loc 16 && decide (m.code.length ≤ 1024))) = false
  · rw [if_pos h3] at h; omega
  rw [if_neg h3] at h
  by_cases h4 : (m.nat && bodyB m) = true
  · rw [if_pos h4] at h; omega
  rw [if_neg h4] at h
  by_cases h5 : (decide (m.hs.length ≤ 64) && decide (m.rs.length ≤ 64)) = false
  · rw [if_pos h5] at h; omega
  rw [if_neg h5] at h
  unfold marksZ at h
  by_cases h6 : (m.hs.all handB && m.rs.all placeB) = false
  · rw [if_pos h6] at h; omega
  rw [if_neg h6] at h
  by_cases h7 : m.rs.all sizeB = false
  · rw [if_pos h7] at h; omega
  rw [if_neg h7] at h
  by_cases h8 : m.rs.all slotsB = false
  · rw [if_pos h8] at h; omega
  simp only [Bool.not_eq_false, Bool.and_eq_true, decide_eq_true_eq, List.all_eq_true] at h1 h3 h5 h6 h7 h8
  exact ⟨h1.1, h1.2, h3.1, h3.2.1, h3.2.2, h5.1, h5.2, h6.1, h6.2, h7, h8⟩
theorem meths_each : ∀ (l a : List MD), methsZ a l = 0 → ∀ x ∈ l, MOk x
  | [], _, _, _, hx => by simp at hx
  | f :: l, a, h, x, hx => by
    unfold methsZ at h
    by_cases hz : methZ f a = 0
    · rw [if_pos hz] at h
      rcases List.mem_cons.1 hx with rfl | hx
      · exact meth_ok hz
      · exact meths_each l _ h x hx
    · rw [if_neg hz] at h; exact absurd h hz
/-- What Right asks of a class. -/
structure KOk (k : KD) : Prop where
  nm : nameB (bsB k.nm) = true
  sup : emptyB k.sup = true ∨ nameB (bsB k.sup) = true
  pl : k.pool.length ≤ 256
  fl : k.fs.length ≤ 16
  ml : k.ms.length ≤ 16
  pool : k.pool.all rightB = true
  fs : ∀ x ∈ k.fs, nameB (bsB x.nm) = true ∧ fieldB (bsB x.ds) = true
  ms : ∀ x ∈ k.ms, MOk x
theorem class_ok {k : KD} (h : rightZ k = 0) : KOk k := by
  unfold rightZ at h
  by_cases h1 : (nameB (bsB k.nm) && (emptyB k.sup || nameB (bsB k.sup))) = false
  · rw [if_pos h1] at h; omega
  rw [if_neg h1] at h
  by_cases h2 : (decide (k.pool.length ≤ 256) && (decide (k.fs.length ≤ 16) && decide (k.ms.length ≤ 16))) = false
  · rw [if_pos h2] at h; omega
  rw [if_neg h2] at h
  by_cases h3 : k.pool.all rightB = false
  · rw [if_pos h3] at h; omega
  rw [if_neg h3] at h
  by_cases h4 : fieldsZ [] k.fs = 0
  · rw [if_pos h4] at h
    simp only [Bool.not_eq_false, Bool.and_eq_true, Bool.or_eq_true, decide_eq_true_eq] at h1 h2 h3
    exact ⟨h1.1, h1.2, h2.1, h2.2.1, h2.2.2, h3, fields_each _ _ h4, meths_each _ _ h⟩
  · rw [if_neg h4] at h; exact absurd h h4
theorem slot_size {s : ByteArray} (h : slotB s = true) : s.size ≤ 67 := by
  unfold slotB at h
  simp only [Bool.or_eq_true, beq_iff_eq] at h
  have hl : s.size = s.toList.length := by rw [Lib.toList_data, ← D.size_len]
  rcases h with h | h | h
  · rw [hl, h]; decide
  · rw [hl, h]; decide
  · exact field_size h
theorem method_size {s : ByteArray} (h : methodB s = true) : s.size ≤ 256 := by
  unfold methodB at h
  simp only [Bool.and_eq_true, decide_eq_true_eq] at h
  exact h.2
theorem MOk.small {m : MD} (h : MOk m) : m.Small := by
  refine ⟨by have := name_size h.nm; omega, by have := method_size h.ds; omega, fun x hx => ?_, fun x hx => ⟨fun s hs => ?_, fun s hs => ?_⟩⟩
  · have := h.hs x hx
    unfold handB at this
    simp only [Bool.and_eq_true] at this
    have := name_size this.2.2.2
    omega
  · have := h.ty x hx
    unfold slotsB at this
    simp only [Bool.and_eq_true, List.all_eq_true] at this
    have := slot_size (this.1 s hs)
    omega
  · have := h.ty x hx
    unfold slotsB at this
    simp only [Bool.and_eq_true, List.all_eq_true] at this
    have := slot_size (this.2 s hs)
    omega
theorem KOk.small {k : KD} (h : KOk k) : k.Small := by
  refine ⟨by have := name_size h.nm; omega, ?_, fun x hx => ?_, fun x hx => (h.ms x hx).small⟩
  · rcases h.sup with h | h
    · have := empty_size h; omega
    · have := name_size h; omega
  · have := h.fs x hx
    exact ⟨by have := name_size this.1; omega, by have := field_size this.2; omega⟩
theorem flat_len {α : Type} (f : α → List Int) (n : Nat) : ∀ (l : List α), (∀ x ∈ l, (f x).length ≤ n) → (l.flatMap f).length ≤ l.length * n
  | [], _ => by simp
  | x :: l, h => by
    rw [List.flatMap_cons, List.length_append, List.length_cons, Nat.add_mul]
    have h1 := h x (by simp)
    have h2 := flat_len f n l (fun y hy => h y (by simp [hy]))
    omega
theorem flat_bytes {α : Type} (f : α → List Int) (l : List α) (h : ∀ x ∈ l, AllBytes (f x)) : AllBytes (l.flatMap f) := by
  intro y hy
  obtain ⟨x, hx, hy⟩ := List.mem_flatMap.1 hy
  exact h x hx y hy
theorem texts_len (l : List ByteArray) (h : l.length ≤ 16) : (textsO l).length ≤ 4129 := by
  unfold textsO
  have := flat_len wtextZ 258 l (fun x _ => wtextZ_len x)
  rw [List.length_append, be_len]; omega
theorem frame_len {f : RD} (h : sizeB f = true) : (frameO f).length ≤ 8260 := by
  unfold sizeB at h
  simp only [Bool.and_eq_true, decide_eq_true_eq] at h
  have h1 := texts_len f.loc h.1
  have h2 := texts_len f.stk h.2
  unfold frameO
  rw [List.length_append, List.length_append, be_len]; omega
theorem hand_len (h : HD) : (handO h).length ≤ 264 := by
  unfold handO
  have := wtextZ_len h.ty
  simp only [List.length_append, be_len]; omega
theorem meth_len {m : MD} (h : MOk m) : (methO m).length ≤ 600000 := by
  have h1 := wtextZ_len m.nm
  have h2 := wtextZ_len m.ds
  have h3 := flat_len handO 264 m.hs (fun x _ => hand_len x)
  have h4 := flat_len frameO 8260 m.rs (fun x hx => frame_len (h.sz x hx))
  have h5 := h.code; have h6 := h.hl; have h7 := h.rl
  have h8 : m.hs.length * 264 ≤ 64 * 264 := Nat.mul_le_mul_right _ h6
  have h9 : m.rs.length * 8260 ≤ 64 * 8260 := Nat.mul_le_mul_right _ h7
  unfold methO handsO framesO
  simp only [List.length_append, be_len]; omega
theorem class_len {k : KD} (h : KOk k) : (classO k).length ≤ 100000000 := by
  have h1 := wtextZ_len k.nm
  have h2 := wtextZ_len k.sup
  have h3 := flat_len fieldO 517 k.fs (fun x _ => by unfold fieldO; have := wtextZ_len x.nm; have := wtextZ_len x.ds; simp only [List.length_append, be_len]; omega)
  have h4 := flat_len methO 600000 k.ms (fun x hx => meth_len (h.ms x hx))
  have h5 := ents_len k.pool
  have h6 := h.pl; have h7 := h.fl; have h8 := h.ml
  unfold classO fieldsO methsO poolZ
  simp only [List.length_append, be_len, List.length_cons, List.length_nil]; omega
/-- The code of methods is bytes. -/
def KD.Bytes (k : KD) : Prop := ∀ m ∈ k.ms, AllBytes m.code
theorem texts_bytes (l : List ByteArray) : AllBytes (textsO l) := AllBytes.append (be_bytes _ _) (flat_bytes _ _ fun x _ => wtextZ_bytes x)
theorem frame_bytes (f : RD) : AllBytes (frameO f) := AllBytes.append (AllBytes.append (be_bytes _ _) (texts_bytes _)) (texts_bytes _)
theorem hand_bytes (h : HD) : AllBytes (handO h) := AllBytes.append (AllBytes.append (AllBytes.append (be_bytes _ _) (be_bytes _ _)) (be_bytes _ _)) (wtextZ_bytes _)
theorem meth_bytes (m : MD) (h : AllBytes m.code) : AllBytes (methO m) := by
  unfold methO handsO framesO
  repeat' apply AllBytes.append
  all_goals first
    | exact wtextZ_bytes _
    | exact be_bytes _ _
    | exact h
    | exact flat_bytes _ _ fun x _ => hand_bytes x
    | exact flat_bytes _ _ fun x _ => frame_bytes x
theorem class_bytes (k : KD) (h : k.Bytes) : AllBytes (classO k) := by
  unfold classO fieldsO methsO poolZ
  repeat' apply AllBytes.append
  all_goals first
    | exact wtextZ_bytes _
    | exact be_bytes _ _
    | exact ents_bytes _
    | exact flat_bytes _ _ fun x hx => meth_bytes x (h x hx)
    | exact flat_bytes _ _ fun x _ => AllBytes.append (AllBytes.append (wtextZ_bytes _) (wtextZ_bytes _)) (be_bytes _ _)
    | (intro x hx; simp at hx; omega)
theorem ClassV.bytes {w : World} {v : Value} {k : KD} (h : ClassV w v k) : k.Bytes := by
  obtain ⟨_, _, _, _, _, _, _, _, _, _, _, h3⟩ := h
  obtain ⟨_, _, rows, _, h4⟩ := h3
  intro m hm
  obtain ⟨i, hi⟩ := List.getElem?_of_mem hm
  obtain ⟨_, _, _, _, _, _, _, _, _, hv, _, _⟩ := h4 i m hi
  obtain ⟨_, _, _, _, _, hb, _⟩ := hv
  exact hb
theorem KOk.pool0 {k : KD} (h : KOk k) : wcode k.pool = 0 := by
  unfold wcode
  rw [if_neg (by have := h.pl; omega), if_pos h.pool]

/-- How Encode answers, by what Right says and what there is to write. -/
def EncA (Z : Int) (O : List Int) (B : Nat) (e : Ending) (w' : World) : Prop :=
  (Z ≠ 0 ∧ e = .returned (.tuple #[.slice none 0 0, .int .i64 Z])) ∨
  (Z = 0 ∧ 32768 < O.length ∧ e = .returned (.tuple #[.slice none 0 0, .int .i64 3])) ∨
  (Z = 0 ∧ O.length ≤ 32768 ∧ ∃ v, e = .returned (.tuple #[v, .int .i64 0]) ∧ w'.ownsRow B 5 1 v O.length (bcells O))
theorem wr_new (w0 w : World) (hb : Below w0.heap.size w0 w) (hT : Tabs w0) (h2 : 2 ≤ w0.heap.size) : WR w0 w.heap.size (w.alloc (.cells #[.slice none 0 0] 137)) [] :=
  ⟨⟨_, newW_is w _⟩, hb.size, hb.trans ((balloc w _).mono hb.size), hT, h2⟩
end Go.Proofs.YthagaldpopnoeaaGreatDoor
