/- Within, and DescrMany, walked. -/
import Derived.Test.YtnbakgffgdiafaaRM
namespace Go.Proofs.Ytnbakgffgdiafaa
open Go.RowKit

theorem tmod_eq (n m : Int) : n.tmod m = if 0 ≤ n then n % m else -((-n) % m) := by
  split
  · rename_i h; exact Int.tmod_eq_emod_of_nonneg h
  · rename_i h
    have := Int.tmod_eq_emod_of_nonneg (a := -n) (b := m) (by omega)
    rw [Int.neg_tmod] at this
    omega
theorem tmod_facts (n m : Int) (h : m = 13 ∨ m = 4 ∨ m = 3) : -m < n.tmod m ∧ n.tmod m < m ∧ n % m = (if n.tmod m < 0 then n.tmod m + m else n.tmod m) := by
  rw [tmod_eq]
  rcases h with rfl | rfl | rfl <;> (split <;> (split <;> omega))

set_option maxHeartbeats 1000000 in
theorem within_any (n : Int) (hi : Int) (h : hi = 12 ∨ hi = 3 ∨ hi = 2) (w : World) :
    Calls Try.prog 23 #[.int .i64 n, .int .i64 0, .int .i64 hi] w fun e w' => e = .returned (.int .i64 (n % (hi + 1))) ∧ w' = w := by
  have hf := tmod_facts n (hi + 1) (by omega)
  obtain ⟨h1, h2, h3⟩ := hf
  have H3 := hidIt h3
  clear h3
  rcases h with rfl | rfl | rfl
  · simp only [Int.reduceAdd] at h1 h2 H3 ⊢
    by_cases hc : n.tmod 13 < 0
    · rw [if_pos hc] at H3
      go_enter Try.func23, Try.ntmps23
      go_wp2
      go_ret
      refine ⟨ret_int ?_, rfl⟩
      rw [H3.out]; omega
    · rw [if_neg hc] at H3
      go_enter Try.func23, Try.ntmps23
      go_wp2
      go_ret
      exact ⟨ret_int (by rw [H3.out]), rfl⟩
  · simp only [Int.reduceAdd] at h1 h2 H3 ⊢
    by_cases hc : n.tmod 4 < 0
    · rw [if_pos hc] at H3
      go_enter Try.func23, Try.ntmps23
      go_wp2
      go_ret
      refine ⟨ret_int ?_, rfl⟩
      rw [H3.out]; omega
    · rw [if_neg hc] at H3
      go_enter Try.func23, Try.ntmps23
      go_wp2
      go_ret
      exact ⟨ret_int (by rw [H3.out]), rfl⟩
  · simp only [Int.reduceAdd] at h1 h2 H3 ⊢
    by_cases hc : n.tmod 3 < 0
    · rw [if_pos hc] at H3
      go_enter Try.func23, Try.ntmps23
      go_wp2
      go_ret
      refine ⟨ret_int ?_, rfl⟩
      rw [H3.out]; omega
    · rw [if_neg hc] at H3
      go_enter Try.func23, Try.ntmps23
      go_wp2
      go_ret
      exact ⟨ret_int (by rw [H3.out]), rfl⟩

/-- The i-th field that the law writes. -/
def piece (N : Bs) (i : Nat) : Bs := if i % 3 = 0 then [73] else if i % 3 = 1 then 76 :: (N ++ [59]) else [91, 73]
def pieces (N : Bs) (n : Nat) : List Bs := (List.range n).map (piece N)
theorem piece_fld {N : Bs} (h : isName N) (i : Nat) : Fld (piece N i) := by
  unfold piece
  split
  · exact .inl (.inl rfl)
  · split
    · exact .inl (.inr ⟨N, h, rfl⟩)
    · exact .inr ⟨[73], .inl rfl, rfl⟩
theorem pieces_fld {N : Bs} (h : isName N) (n : Nat) : ∀ p ∈ pieces N n, Fld p := by
  intro p hp
  simp only [pieces, List.mem_map] at hp
  obtain ⟨i, _, rfl⟩ := hp
  exact piece_fld h i
theorem pieces_len (N : Bs) (n : Nat) : (pieces N n).length = n := by simp [pieces]
theorem pieces_succ (N : Bs) (n : Nat) : (pieces N (n + 1)).flatten = (pieces N n).flatten ++ piece N n := by
  simp [pieces, List.range_succ]
theorem meth_pieces {N : Bs} (h : isName N) (n : Nat) : meth (40 :: ((pieces N n).flatten ++ [41, 86])) = if n ≤ 8 then some (pieces N n, [86]) else none := by
  split
  · rename_i h8
    exact meth_of ⟨rfl, pieces_fld h n, by rw [pieces_len]; exact h8, .inl rfl⟩
  · rename_i h8
    exact meth_no rfl (pieces_fld h n) (flen_close _) (fun r _ h _ => h8 (by rw [pieces_len] at h; exact h))
theorem f_yes {N : Bs} (h : isName N) : fieldB (91 :: 76 :: (N ++ [59])) = true := (fieldB_iff _).2 (.inr ⟨_, .inr ⟨N, h, rfl⟩, rfl⟩)
theorem f_tail {N : Bs} (h : isName N) : fieldB (76 :: (N ++ [59])) = true := (fieldB_iff _).2 (.inl (.inr ⟨N, h, rfl⟩))
theorem f_more {N : Bs} (h : isName N) : fieldB (91 :: 76 :: (N ++ [59]) ++ [73]) = false := by
  have e := flen_of (f := 91 :: 76 :: (N ++ [59])) (.inr ⟨_, .inr ⟨N, h, rfl⟩, rfl⟩) [73]
  unfold fieldB
  rw [e]
  simp
theorem f_less {N : Bs} (h : isName N) : fieldB (91 :: 76 :: N) = false := by
  have e : base (76 :: N) = 0 := by
    unfold base
    simp only
    rw [if_neg (by decide), if_pos trivial, nl_whole h, List.getElem?_eq_none (Nat.le_refl _), if_neg (by simp)]
  unfold fieldB flen
  simp only
  rw [if_pos trivial, e, if_pos rfl]
  simp
theorem f_twice (l : Bs) : fieldB (91 :: 91 :: l) = false := by
  unfold fieldB flen
  simp only
  rw [if_pos trivial, base_sign, if_pos rfl]
  simp

theorem cat_size (a b : ByteArray) : (a ++ b).size = a.size + b.size := by rw [size_len, cat_data, List.length_append, ← size_len, ← size_len]
theorem field_known (s : ByteArray) {l : Bs} {b : Bool} (h : s.data.toList = l) (hs : s.size ≤ 9223372036854775807) (hb : fieldB l = b) (w : World) :
    Calls Try.prog 10 #[.string s] w fun e w' => e = .returned (.bool b) ∧ w' = w := by
  have := field_any s w hs
  rwa [h, hb] at this
theorem ans_some {l : Bs} {B : Nat} {e : Ending} {w' : World} {ps : List Bs} {r : Bs} (h : MethAns l B e w') (hm : meth l = some (ps, r)) :
    ∃ v, e = .returned (.tuple #[v, .string (str r), .bool true]) ∧ w'.ownsRow B 9 1 v ps.length (scells ps) := by
  rcases h with ⟨ps', r', v, h1, h2, h3⟩ | ⟨h1, _⟩
  · rw [hm] at h1
    simp only [Option.some.injEq, Prod.mk.injEq] at h1
    obtain ⟨rfl, rfl⟩ := h1
    exact ⟨v, h2, h3⟩
  · rw [hm] at h1; cases h1
theorem ans_none {l : Bs} {B : Nat} {e : Ending} {w' : World} (h : MethAns l B e w') (hm : meth l = none) :
    e = .returned (.tuple #[.slice none 0 0, .string ⟨#[]⟩, .bool false]) := by
  rcases h with ⟨ps', r', v, h1, h2, h3⟩ | ⟨_, h2⟩
  · rw [hm] at h1; cases h1
  · exact h2

set_option maxHeartbeats 8000000 in
theorem many_any (n : Int) (s : ByteArray) (w : World) (hs : s.size ≤ 9223372036854775807) :
    Calls Try.prog 7 #[.int .i64 n, .string s] w fun e w' => e = .returned (.bool true) ∧ Below w.heap.size w w' := by
  have hW := hidIt (within_any n 12 (.inl rfl) w)
  rw [show (12 : Int) + 1 = 13 from rfl] at hW
  obtain ⟨m, hm⟩ : ∃ m : Nat, n % 13 = (m : Int) := ⟨(n % 13).toNat, by omega⟩
  have hm12 : m ≤ 12 := by omega
  rw [hm] at hW
  clear hm
  have hR := hidIt (rname_any s w hs)
  by_cases hB : nameB s.data.toList = true
  · rw [hB] at hR
    have hN := hidIt ((nameB_iff _).1 hB)
    have hNs : s.size ≤ 64 := by rw [size_len]; exact hN.out.2.1
    clear hB hs
    generalize s = NN at *
    go_enter Try.func7, Try.ntmps7
    go_wp2_with fail
    refine hW.out.mono ?_
    rintro e w' ⟨rfl, hww⟩; cases hww
    go_wp2_with fail
    refine hR.out.mono ?_
    rintro e w' ⟨rfl, hww⟩; cases hww
    go_wp2_with fail
    go_loopw [5, 6] (fun sv iv wr => ∃ k : Nat, k ≤ m ∧ iv = .int .i64 (k : Int) ∧ sv = .string (str (pieces NN.data.toList k).flatten) ∧ Below w.heap.size w wr) (fun _ iv _ => m - (intOf iv).toNat)
    case atStart => exact ⟨0, by omega, rfl, rfl, Below.refl _ _⟩
    case round =>
      obtain ⟨k, hk, rfl, rfl, hbw⟩ := hrel
      have hsz := hbw.size
      have hSs : (str (pieces NN.data.toList k).flatten).size ≤ 67 * 12 := by
        have := flat_len (pieces_fld hN.out k)
        rw [pieces_len] at this
        rw [str_size]; omega
      by_cases hlt : k < m
      · have hlt' : (k : Int) < (m : Int) := by omega
        have hk3 : k % 3 = 0 ∨ k % 3 = 1 ∨ k % 3 = 2 := by omega
        have hSd : (str (pieces NN.data.toList k).flatten).data.toList = (pieces NN.data.toList k).flatten := rfl
        generalize str (pieces NN.data.toList k).flatten = S at *
        rcases hk3 with hk3 | hk3 | hk3
        · have t3 : (k : Int).tmod 3 = 0 := by rw [tmod_eq, if_pos (by omega)]; omega
          have HP : Hid (S ++ { data := #[73] } = str (pieces NN.data.toList (k + 1)).flatten) := by
            refine str_of ?_
            rw [pieces_succ, cat_data, ← hSd]
            congr 1
            unfold piece
            rw [if_pos hk3]
            skip
          go_wp2
          exact ⟨⟨k + 1, by omega, by go_num, congrArg Value.string HP.out, hbw.alloc hsz _⟩, by simp [intOf]; omega⟩
        · have t3 : (k : Int).tmod 3 = 1 := by rw [tmod_eq, if_pos (by omega)]; omega
          have HP : Hid (S ++ ({ data := #[76] } ++ NN ++ { data := #[59] }) = str (pieces NN.data.toList (k + 1)).flatten) := by
            refine str_of ?_
            rw [pieces_succ, cat_data, ← hSd]
            congr 1
            unfold piece
            rw [if_neg (by omega), if_pos hk3]
            rw [cat_data, cat_data]; simp
          go_wp2
          exact ⟨⟨k + 1, by omega, by go_num, congrArg Value.string HP.out, hbw.alloc hsz _⟩, by simp [intOf]; omega⟩
        · have t3 : (k : Int).tmod 3 = 2 := by rw [tmod_eq, if_pos (by omega)]; omega
          have HP : Hid (S ++ { data := #[91, 73] } = str (pieces NN.data.toList (k + 1)).flatten) := by
            refine str_of ?_
            rw [pieces_succ, cat_data, ← hSd]
            congr 1
            unfold piece
            rw [if_neg (by omega), if_neg (by omega)]
            skip
          go_wp2
          exact ⟨⟨k + 1, by omega, by go_num, congrArg Value.string HP.out, hbw.alloc hsz _⟩, by simp [intOf]; omega⟩
      · have hlt' : ¬ (k : Int) < (m : Int) := by omega
        obtain rfl : k = m := by omega
        have HE : Hid ({ data := #[40] } ++ str (pieces NN.data.toList k).flatten ++ { data := #[41, 86] } = str (40 :: ((pieces NN.data.toList k).flatten ++ [41, 86]))) := by
          refine str_of ?_
          rw [cat_data, cat_data, data_str]; simp
        have HM := hidIt (meth_pieces hN.out k)
        have HL := hidIt (pieces_len NN.data.toList k)
        generalize (pieces NN.data.toList k).flatten = F at *
        generalize pieces NN.data.toList k = ps at *
        have hX : (str (40 :: (F ++ [41, 86]))).size ≤ 9223372036854775807 := by rw [str_size] at hSs ⊢; simp; omega
        have HE1 : Hid ({ data := #[91, 76] } ++ NN ++ { data := #[59] } = str (91 :: 76 :: (NN.data.toList ++ [59]))) := by
          refine str_of ?_
          rw [cat_data, cat_data]; simp
        have hf1 := hidIt (f_yes hN.out)
        have hf2 := hidIt (f_more hN.out)
        have hf3 := hidIt (f_less hN.out)
        have hf4 := hidIt (f_tail hN.out)
        generalize str F = X at *
        by_cases h8 : k ≤ 8
        · have h8' : (k : Int) ≤ 8 := by omega
          rw [if_pos h8] at HM
          go_wp2_with fail
          rw [HE.out]
          refine (method_any _ wr hX).mono ?_
          rintro e w1 ⟨b1, h1⟩
          obtain ⟨v1, rfl, hown⟩ := ans_some h1 (by rw [data_str]; exact HM.out)
          rw [HL.out] at hown
          clear h1
          have B1 : Below w.heap.size w w1 := hbw.trans (b1.mono hsz)
          obtain ⟨ao, cap, rfl⟩ := own_slice hown
          clear hown b1
          rw [show str [86] = ⟨#[86]⟩ from rfl]
          go_wp2_with fail
          rw [HE1.out]
          have hz : (str (91 :: 76 :: (NN.data.toList ++ [59]))).size = NN.size + 3 := by rw [str_size, size_len]; simp
          have hd : (str (91 :: 76 :: (NN.data.toList ++ [59]))).data.toList = 91 :: 76 :: (NN.data.toList ++ [59]) := rfl
          generalize str (91 :: 76 :: (NN.data.toList ++ [59])) = f at *
          have F1 := hidIt (field_known f hd (by omega) hf1.out)
          have F2 := hidIt (field_known (f ++ { data := #[73] }) (l := 91 :: 76 :: (NN.data.toList ++ [59]) ++ [73]) (by rw [cat_data, hd]) (by rw [cat_size]; have : (ByteArray.mk #[73]).size = 1 := rfl; omega) hf2.out)
          have F3 := hidIt (field_known (f.extract 0 (f.size - 1)) (l := 91 :: 76 :: NN.data.toList) (by rw [Lib.extract_data, hd, hz, size_len]; simp) (by rw [size_len, Lib.extract_data, List.length_take]; omega) hf3.out)
          have F4 := hidIt (field_known ({ data := #[91] } ++ f) (l := 91 :: 91 :: (76 :: (NN.data.toList ++ [59]))) (by rw [cat_data, hd]; rfl) (by rw [cat_size]; have : (ByteArray.mk #[91]).size = 1 := rfl; omega) (f_twice _))
          have F5 := hidIt (field_known (f.extract 1 f.size) (l := 76 :: (NN.data.toList ++ [59])) (by rw [ext_data, hd]; rfl) (by rw [size_len, ext_data, List.length_drop, ← size_len]; omega) hf4.out)
          have hz1 : 3 ≤ f.size := by omega
          have hz2 : f.size ≤ 67 := by omega
          clear hz hd HE1 hf1 hf2 hf3 hf4
          refine (F1.out _).mono ?_
          rintro e w' ⟨rfl, hww⟩; cases hww
          go_wp2_with fail
          refine (F2.out _).mono ?_
          rintro e w' ⟨rfl, hww⟩; cases hww
          go_wp2_with fail
          refine (F3.out _).mono ?_
          rintro e w' ⟨rfl, hww⟩; cases hww
          go_wp2_with fail
          refine (F4.out _).mono ?_
          rintro e w' ⟨rfl, hww⟩; cases hww
          go_wp2_with fail
          refine (F5.out _).mono ?_
          rintro e w' ⟨rfl, hww⟩; cases hww
          go_wp2_with fail
          refine (known_any w1).mono ?_
          rintro e w2 ⟨rfl, b2⟩
          go_wp2
          go_ret
          exact ⟨rfl, B1.trans (b2.mono B1.size)⟩
        · have h8' : ¬ (k : Int) ≤ 8 := by omega
          rw [if_neg h8] at HM
          go_wp2_with fail
          rw [HE.out]
          refine (method_any _ wr hX).mono ?_
          rintro e w1 ⟨b1, h1⟩
          obtain rfl := ans_none h1 (by rw [data_str]; exact HM.out)
          clear h1
          have B1 : Below w.heap.size w w1 := hbw.trans (b1.mono hsz)
          clear b1
          go_wp2_with fail
          rw [HE1.out]
          have hz : (str (91 :: 76 :: (NN.data.toList ++ [59]))).size = NN.size + 3 := by rw [str_size, size_len]; simp
          have hd : (str (91 :: 76 :: (NN.data.toList ++ [59]))).data.toList = 91 :: 76 :: (NN.data.toList ++ [59]) := rfl
          generalize str (91 :: 76 :: (NN.data.toList ++ [59])) = f at *
          have F1 := hidIt (field_known f hd (by omega) hf1.out)
          have F2 := hidIt (field_known (f ++ { data := #[73] }) (l := 91 :: 76 :: (NN.data.toList ++ [59]) ++ [73]) (by rw [cat_data, hd]) (by rw [cat_size]; have : (ByteArray.mk #[73]).size = 1 := rfl; omega) hf2.out)
          have F3 := hidIt (field_known (f.extract 0 (f.size - 1)) (l := 91 :: 76 :: NN.data.toList) (by rw [Lib.extract_data, hd, hz, size_len]; simp) (by rw [size_len, Lib.extract_data, List.length_take]; omega) hf3.out)
          have F4 := hidIt (field_known ({ data := #[91] } ++ f) (l := 91 :: 91 :: (76 :: (NN.data.toList ++ [59]))) (by rw [cat_data, hd]; rfl) (by rw [cat_size]; have : (ByteArray.mk #[91]).size = 1 := rfl; omega) (f_twice _))
          have F5 := hidIt (field_known (f.extract 1 f.size) (l := 76 :: (NN.data.toList ++ [59])) (by rw [ext_data, hd]; rfl) (by rw [size_len, ext_data, List.length_drop, ← size_len]; omega) hf4.out)
          have hz1 : 3 ≤ f.size := by omega
          have hz2 : f.size ≤ 67 := by omega
          clear hz hd HE1 hf1 hf2 hf3 hf4
          refine (F1.out _).mono ?_
          rintro e w' ⟨rfl, hww⟩; cases hww
          go_wp2_with fail
          refine (F2.out _).mono ?_
          rintro e w' ⟨rfl, hww⟩; cases hww
          go_wp2_with fail
          refine (F3.out _).mono ?_
          rintro e w' ⟨rfl, hww⟩; cases hww
          go_wp2_with fail
          refine (F4.out _).mono ?_
          rintro e w' ⟨rfl, hww⟩; cases hww
          go_wp2_with fail
          refine (F5.out _).mono ?_
          rintro e w' ⟨rfl, hww⟩; cases hww
          go_wp2_with fail
          refine (known_any w1).mono ?_
          rintro e w2 ⟨rfl, b2⟩
          go_wp2
          go_ret
          exact ⟨rfl, B1.trans (b2.mono B1.size)⟩
  · simp only [Bool.not_eq_true] at hB
    rw [hB] at hR
    clear hB hs
    go_enter Try.func7, Try.ntmps7
    go_wp2_with fail
    refine hW.out.mono ?_
    rintro e w' ⟨rfl, hww⟩; cases hww
    go_wp2_with fail
    refine hR.out.mono ?_
    rintro e w' ⟨rfl, hww⟩; cases hww
    go_wp2_with fail
    obtain ⟨NN, hNN⟩ : ∃ NN : ByteArray, ByteArray.mk #[113] = NN := ⟨_, rfl⟩
    have hNs : NN.size ≤ 64 := by rw [← hNN]; decide
    have hN : Hid (isName NN.data.toList) := by rw [← hNN]; exact (nameB_iff _).1 (by decide +kernel)
    rw [hNN]
    clear hNN
    go_loopw [5, 6] (fun sv iv wr => ∃ k : Nat, k ≤ m ∧ iv = .int .i64 (k : Int) ∧ sv = .string (str (pieces NN.data.toList k).flatten) ∧ Below w.heap.size w wr) (fun _ iv _ => m - (intOf iv).toNat)
    case atStart => exact ⟨0, by omega, rfl, rfl, Below.refl _ _⟩
    case round =>
      obtain ⟨k, hk, rfl, rfl, hbw⟩ := hrel
      have hsz := hbw.size
      have hSs : (str (pieces NN.data.toList k).flatten).size ≤ 67 * 12 := by
        have := flat_len (pieces_fld hN.out k)
        rw [pieces_len] at this
        rw [str_size]; omega
      by_cases hlt : k < m
      · have hlt' : (k : Int) < (m : Int) := by omega
        have hk3 : k % 3 = 0 ∨ k % 3 = 1 ∨ k % 3 = 2 := by omega
        have hSd : (str (pieces NN.data.toList k).flatten).data.toList = (pieces NN.data.toList k).flatten := rfl
        generalize str (pieces NN.data.toList k).flatten = S at *
        rcases hk3 with hk3 | hk3 | hk3
        · have t3 : (k : Int).tmod 3 = 0 := by rw [tmod_eq, if_pos (by omega)]; omega
          have HP : Hid (S ++ { data := #[73] } = str (pieces NN.data.toList (k + 1)).flatten) := by
            refine str_of ?_
            rw [pieces_succ, cat_data, ← hSd]
            congr 1
            unfold piece
            rw [if_pos hk3]
            skip
          go_wp2
          exact ⟨⟨k + 1, by omega, by go_num, congrArg Value.string HP.out, hbw.alloc hsz _⟩, by simp [intOf]; omega⟩
        · have t3 : (k : Int).tmod 3 = 1 := by rw [tmod_eq, if_pos (by omega)]; omega
          have HP : Hid (S ++ ({ data := #[76] } ++ NN ++ { data := #[59] }) = str (pieces NN.data.toList (k + 1)).flatten) := by
            refine str_of ?_
            rw [pieces_succ, cat_data, ← hSd]
            congr 1
            unfold piece
            rw [if_neg (by omega), if_pos hk3]
            rw [cat_data, cat_data]; simp
          go_wp2
          exact ⟨⟨k + 1, by omega, by go_num, congrArg Value.string HP.out, hbw.alloc hsz _⟩, by simp [intOf]; omega⟩
        · have t3 : (k : Int).tmod 3 = 2 := by rw [tmod_eq, if_pos (by omega)]; omega
          have HP : Hid (S ++ { data := #[91, 73] } = str (pieces NN.data.toList (k + 1)).flatten) := by
            refine str_of ?_
            rw [pieces_succ, cat_data, ← hSd]
            congr 1
            unfold piece
            rw [if_neg (by omega), if_neg (by omega)]
            skip
          go_wp2
          exact ⟨⟨k + 1, by omega, by go_num, congrArg Value.string HP.out, hbw.alloc hsz _⟩, by simp [intOf]; omega⟩
      · have hlt' : ¬ (k : Int) < (m : Int) := by omega
        obtain rfl : k = m := by omega
        have HE : Hid ({ data := #[40] } ++ str (pieces NN.data.toList k).flatten ++ { data := #[41, 86] } = str (40 :: ((pieces NN.data.toList k).flatten ++ [41, 86]))) := by
          refine str_of ?_
          rw [cat_data, cat_data, data_str]; simp
        have HM := hidIt (meth_pieces hN.out k)
        have HL := hidIt (pieces_len NN.data.toList k)
        generalize (pieces NN.data.toList k).flatten = F at *
        generalize pieces NN.data.toList k = ps at *
        have hX : (str (40 :: (F ++ [41, 86]))).size ≤ 9223372036854775807 := by rw [str_size] at hSs ⊢; simp; omega
        have HE1 : Hid ({ data := #[91, 76] } ++ NN ++ { data := #[59] } = str (91 :: 76 :: (NN.data.toList ++ [59]))) := by
          refine str_of ?_
          rw [cat_data, cat_data]; simp
        have hf1 := hidIt (f_yes hN.out)
        have hf2 := hidIt (f_more hN.out)
        have hf3 := hidIt (f_less hN.out)
        have hf4 := hidIt (f_tail hN.out)
        generalize str F = X at *
        by_cases h8 : k ≤ 8
        · have h8' : (k : Int) ≤ 8 := by omega
          rw [if_pos h8] at HM
          go_wp2_with fail
          rw [HE.out]
          refine (method_any _ wr hX).mono ?_
          rintro e w1 ⟨b1, h1⟩
          obtain ⟨v1, rfl, hown⟩ := ans_some h1 (by rw [data_str]; exact HM.out)
          rw [HL.out] at hown
          clear h1
          have B1 : Below w.heap.size w w1 := hbw.trans (b1.mono hsz)
          obtain ⟨ao, cap, rfl⟩ := own_slice hown
          clear hown b1
          rw [show str [86] = ⟨#[86]⟩ from rfl]
          go_wp2_with fail
          rw [HE1.out]
          have hz : (str (91 :: 76 :: (NN.data.toList ++ [59]))).size = NN.size + 3 := by rw [str_size, size_len]; simp
          have hd : (str (91 :: 76 :: (NN.data.toList ++ [59]))).data.toList = 91 :: 76 :: (NN.data.toList ++ [59]) := rfl
          generalize str (91 :: 76 :: (NN.data.toList ++ [59])) = f at *
          have F1 := hidIt (field_known f hd (by omega) hf1.out)
          have F2 := hidIt (field_known (f ++ { data := #[73] }) (l := 91 :: 76 :: (NN.data.toList ++ [59]) ++ [73]) (by rw [cat_data, hd]) (by rw [cat_size]; have : (ByteArray.mk #[73]).size = 1 := rfl; omega) hf2.out)
          have F3 := hidIt (field_known (f.extract 0 (f.size - 1)) (l := 91 :: 76 :: NN.data.toList) (by rw [Lib.extract_data, hd, hz, size_len]; simp) (by rw [size_len, Lib.extract_data, List.length_take]; omega) hf3.out)
          have F4 := hidIt (field_known ({ data := #[91] } ++ f) (l := 91 :: 91 :: (76 :: (NN.data.toList ++ [59]))) (by rw [cat_data, hd]; rfl) (by rw [cat_size]; have : (ByteArray.mk #[91]).size = 1 := rfl; omega) (f_twice _))
          have F5 := hidIt (field_known (f.extract 1 f.size) (l := 76 :: (NN.data.toList ++ [59])) (by rw [ext_data, hd]; rfl) (by rw [size_len, ext_data, List.length_drop, ← size_len]; omega) hf4.out)
          have hz1 : 3 ≤ f.size := by omega
          have hz2 : f.size ≤ 67 := by omega
          clear hz hd HE1 hf1 hf2 hf3 hf4
          refine (F1.out _).mono ?_
          rintro e w' ⟨rfl, hww⟩; cases hww
          go_wp2_with fail
          refine (F2.out _).mono ?_
          rintro e w' ⟨rfl, hww⟩; cases hww
          go_wp2_with fail
          refine (F3.out _).mono ?_
          rintro e w' ⟨rfl, hww⟩; cases hww
          go_wp2_with fail
          refine (F4.out _).mono ?_
          rintro e w' ⟨rfl, hww⟩; cases hww
          go_wp2_with fail
          refine (F5.out _).mono ?_
          rintro e w' ⟨rfl, hww⟩; cases hww
          go_wp2_with fail
          refine (known_any w1).mono ?_
          rintro e w2 ⟨rfl, b2⟩
          go_wp2
          go_ret
          exact ⟨rfl, B1.trans (b2.mono B1.size)⟩
        · have h8' : ¬ (k : Int) ≤ 8 := by omega
          rw [if_neg h8] at HM
          go_wp2_with fail
          rw [HE.out]
          refine (method_any _ wr hX).mono ?_
          rintro e w1 ⟨b1, h1⟩
          obtain rfl := ans_none h1 (by rw [data_str]; exact HM.out)
          clear h1
          have B1 : Below w.heap.size w w1 := hbw.trans (b1.mono hsz)
          clear b1
          go_wp2_with fail
          rw [HE1.out]
          have hz : (str (91 :: 76 :: (NN.data.toList ++ [59]))).size = NN.size + 3 := by rw [str_size, size_len]; simp
          have hd : (str (91 :: 76 :: (NN.data.toList ++ [59]))).data.toList = 91 :: 76 :: (NN.data.toList ++ [59]) := rfl
          generalize str (91 :: 76 :: (NN.data.toList ++ [59])) = f at *
          have F1 := hidIt (field_known f hd (by omega) hf1.out)
          have F2 := hidIt (field_known (f ++ { data := #[73] }) (l := 91 :: 76 :: (NN.data.toList ++ [59]) ++ [73]) (by rw [cat_data, hd]) (by rw [cat_size]; have : (ByteArray.mk #[73]).size = 1 := rfl; omega) hf2.out)
          have F3 := hidIt (field_known (f.extract 0 (f.size - 1)) (l := 91 :: 76 :: NN.data.toList) (by rw [Lib.extract_data, hd, hz, size_len]; simp) (by rw [size_len, Lib.extract_data, List.length_take]; omega) hf3.out)
          have F4 := hidIt (field_known ({ data := #[91] } ++ f) (l := 91 :: 91 :: (76 :: (NN.data.toList ++ [59]))) (by rw [cat_data, hd]; rfl) (by rw [cat_size]; have : (ByteArray.mk #[91]).size = 1 := rfl; omega) (f_twice _))
          have F5 := hidIt (field_known (f.extract 1 f.size) (l := 76 :: (NN.data.toList ++ [59])) (by rw [ext_data, hd]; rfl) (by rw [size_len, ext_data, List.length_drop, ← size_len]; omega) hf4.out)
          have hz1 : 3 ≤ f.size := by omega
          have hz2 : f.size ≤ 67 := by omega
          clear hz hd HE1 hf1 hf2 hf3 hf4
          refine (F1.out _).mono ?_
          rintro e w' ⟨rfl, hww⟩; cases hww
          go_wp2_with fail
          refine (F2.out _).mono ?_
          rintro e w' ⟨rfl, hww⟩; cases hww
          go_wp2_with fail
          refine (F3.out _).mono ?_
          rintro e w' ⟨rfl, hww⟩; cases hww
          go_wp2_with fail
          refine (F4.out _).mono ?_
          rintro e w' ⟨rfl, hww⟩; cases hww
          go_wp2_with fail
          refine (F5.out _).mono ?_
          rintro e w' ⟨rfl, hww⟩; cases hww
          go_wp2_with fail
          refine (known_any w1).mono ?_
          rintro e w2 ⟨rfl, b2⟩
          go_wp2
          go_ret
          exact ⟨rfl, B1.trans (b2.mono B1.size)⟩
end Go.Proofs.Ytnbakgffgdiafaa
