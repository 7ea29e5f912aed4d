/- string([]rune(s)): the text of s's runes; it is s itself just if s is valid. -/
import Derived.Test.YthagaldpopnoeaaGreatDoorTh2
import Derived.Laws.IdiomStrings
import Derived.Laws.Cover4
namespace Go.Proofs.YthagaldpopnoeaaGreatDoor
open Go.RowKit

theorem conv_runes (s : ByteArray) : ∀ (b i : Nat) (acc : Array Value), Conv.runesFrom s b i acc = acc ++ ((runesFrom s b i).map (Value.int .i32)).toArray
  | 0, _, acc => by simp [Conv.runesFrom, runesFrom]
  | b + 1, i, acc => by
    unfold Conv.runesFrom runesFrom
    by_cases h : i < s.size
    · rw [if_pos h, if_pos h]
      simp only
      rw [conv_runes s b]
      simp
    · rw [if_neg h, if_neg h]; simp

theorem encode_nums (r : Int) (h : RuneOk r) : Utf8.encode r = strOfNums (Lib.encodeRuneZ r) := by
  have hv : Utf8.valid r = true := by unfold RuneOk at h; simp only [Utf8.valid, Bool.or_eq_true, Bool.and_eq_true, decide_eq_true_eq]; omega
  unfold RuneOk at h
  unfold Utf8.encode
  simp only [hv, if_true]
  by_cases h1 : r ≤ 127
  · rw [Lib.encodeRuneZ_one (by omega) h1, if_pos (by omega)]; rfl
  · by_cases h2 : r ≤ 2047
    · rw [Lib.encodeRuneZ_two (by omega) h2, if_neg (by omega), if_pos (by omega)]
      simp only [strOfNums, List.map_cons, List.map_nil]
      rw [show (192 + r / 64).toNat = 192 + r.toNat / 64 by omega, show (128 + r % 64).toNat = 128 + r.toNat % 64 by omega]
    · by_cases h3 : r ≤ 65535
      · rw [Lib.encodeRuneZ_three (by omega), if_neg (by omega), if_neg (by omega), if_pos (by omega)]
        simp only [strOfNums, List.map_cons, List.map_nil]
        rw [show (224 + r / 4096).toNat = 224 + r.toNat / 4096 by omega, show (128 + r / 64 % 64).toNat = 128 + r.toNat / 64 % 64 by omega, show (128 + r % 64).toNat = 128 + r.toNat % 64 by omega]
      · rw [Lib.encodeRuneZ_four (by omega) (by omega), if_neg (by omega), if_neg (by omega), if_neg (by omega)]
        simp only [strOfNums, List.map_cons, List.map_nil]
        rw [show (240 + r / 262144).toNat = 240 + r.toNat / 262144 by omega, show (128 + r / 4096 % 64).toNat = 128 + r.toNat / 4096 % 64 by omega, show (128 + r / 64 % 64).toNat = 128 + r.toNat / 64 % 64 by omega, show (128 + r % 64).toNat = 128 + r.toNat % 64 by omega]

theorem nums_append (a b : List Int) : strOfNums (a ++ b) = strOfNums a ++ strOfNums b := by
  apply ByteArray.ext
  simp [strOfNums]

theorem runesBytes_fold : ∀ (rs : List Int) (pre : List Int), (∀ r ∈ rs, RuneOk r) → rs.foldl (fun r n => r ++ Utf8.encode n) (strOfNums pre) = strOfNums (pre ++ uAll rs)
  | [], pre, _ => by simp [uAll]
  | r :: rs, pre, h => by
    rw [List.foldl_cons, encode_nums r (h r (by simp)), ← nums_append, runesBytes_fold rs _ (fun x hx => h x (by simp [hx])), uAll_cons, List.append_assoc]
theorem runesBytes_uAll (rs : List Int) (h : ∀ r ∈ rs, RuneOk r) : runesBytes rs = strOfNums (uAll rs) := by
  have := runesBytes_fold rs [] h
  rw [show strOfNums [] = ByteArray.empty from rfl] at this
  simpa [runesBytes] using this

theorem runesFrom_len (s : ByteArray) : ∀ f pos, (runesFrom s f pos).length ≤ f
  | 0, _ => by simp [runesFrom]
  | f + 1, pos => by
    unfold runesFrom; split
    · have := runesFrom_len s f (pos + (Utf8.decode s pos).2); simp; omega
    · simp

/-- The text of s's runes. -/
def reStr (s : ByteArray) : ByteArray := strOfNums (uAll (runesZ s))

theorem run_reStr (w : World) (s : ByteArray) (hs : s.size ≤ 70368744177664) : ∃ v1 w1, (convert 9 189 (.string s)).run Tryz.prog w = .ok v1 w1 ∧ (convert 189 9 v1).run Tryz.prog w1 = .ok (.string (reStr s)) w1 ∧ Below w.heap.size w w1 := by
  have hr : Conv.runesFrom s s.size 0 #[] = ((runesZ s).map (Value.int .i32)).toArray := by rw [conv_runes]; simp [runesZ]
  have hl := runesFrom_len s s.size 0
  have hz : (Conv.runesFrom s s.size 0 #[]).size = (runesZ s).length := by rw [hr]; simp
  have h1 := run_runes_of_string (P := Tryz.prog) w 9 189 21 s Tryz.underlying9 Tryz.underlying189 Tryz.underlying21 (by rw [hz]; exact Nat.le_trans hl hs)
  refine ⟨_, _, h1, ?_, (Below.refl _ _).drew.alloc (Nat.le_refl _) _⟩
  rw [run_convert_runes_string _ 189 9 21 _ _ _ Tryz.underlying189 Tryz.underlying21 Tryz.underlying9]
  rw [hz]
  rw [run_runesToString (P := Tryz.prog) _ _ _ _ (runesZ s) ?_, runesBytes_uAll _ (runesZ_ok s)]
  · rfl
  · have hh := run_loadCells_list (P := Tryz.prog) (w.drew.alloc (.cells (Conv.runesFrom s s.size 0 #[] ++ Array.replicate (grownCap w (runesZ s).length 0 21 - (runesZ s).length) (.int .i32 0)) 21)) ⟨w.heap.size, 0, none⟩ ((runesZ s).map (Value.int .i32)) (fun j v hj => by
      have e : (⟨w.heap.size, 0, none⟩ : Addr).add j = ⟨w.heap.size, j, none⟩ := by unfold Addr.add; split <;> simp_all
      have hj' : j < (runesZ s).length := by have := (List.getElem?_eq_some_iff.1 hj).1; simpa using this
      have hc := cell_of_row (w.drew.alloc (.cells (Conv.runesFrom s s.size 0 #[] ++ Array.replicate (grownCap w (runesZ s).length 0 21 - (runesZ s).length) (.int .i32 0)) 21)) w.heap.size j _ 21 (0, 0) (heap_alloc_new w.drew _)
      rw [e, hc, hr, Array.getElem?_append_left (by simpa using hj')]
      simpa using hj)
    simpa using hh

theorem reStr_valid (s : ByteArray) : Lib.validD (reStr s).data.toList = true := valid_uAll _ (runesZ_ok s)
theorem encZ_reStr (s : ByteArray) : encZ (reStr s) = mAll (runesZ s) := encZ_uAll _ (runesZ_ok s)
theorem decL_reStr (s : ByteArray) : decL (mAll (runesZ s)) = some (uAll (runesZ s)) := decL_mAll _ (runesZ_ok s)

theorem uAll_len : ∀ rs : List Int, (uAll rs).length ≤ 4 * rs.length
  | [] => by simp [uAll]
  | r :: rs => by
    have := uAll_len rs
    have := Lib.encodeRuneZ_length r
    rw [uAll_cons, List.length_append, List.length_cons]; omega
theorem mAll_len : ∀ rs : List Int, (mAll rs).length ≤ 6 * rs.length
  | [] => by simp [mAll]
  | r :: rs => by
    have := mAll_len rs
    have := mcode_len r
    rw [mAll_cons, List.length_append, List.length_cons]; omega
theorem reStr_size (s : ByteArray) : (reStr s).size ≤ 4 * s.size := by
  have h1 := uAll_len (runesZ s)
  have h2 : (runesZ s).length ≤ s.size := runesFrom_len s _ _
  unfold reStr; rw [nums_size]; omega
theorem mAll_bytes (rs : List Int) (h : ∀ r ∈ rs, RuneOk r) : AllBytes (mAll rs) := by
  intro x hx
  obtain ⟨r, hr, hx⟩ := List.mem_flatMap.1 hx
  have := h r hr
  exact mcode_bytes r (by unfold RuneOk at this; omega) (by unfold RuneOk at this; omega) x hx
theorem mcode_ne0 (r : Int) (h0 : 0 ≤ r) : ∀ x ∈ mcode r, x ≠ 0 := by
  intro x hx
  unfold mcode at hx
  split at hx
  · simp at hx; omega
  · split at hx
    · simp at hx; omega
    · split at hx
      · simp at hx; omega
      · simp at hx; omega
theorem mAll_ne0 (rs : List Int) (h : ∀ r ∈ rs, RuneOk r) : ∀ x ∈ mAll rs, x ≠ 0 := by
  intro x hx
  obtain ⟨r, hr, hx⟩ := List.mem_flatMap.1 hx
  have := h r hr
  exact mcode_ne0 r (by unfold RuneOk at this; omega) x hx
end Go.Proofs.YthagaldpopnoeaaGreatDoor
