import Derived.Test.YthagaldpopnoeaaGreatDoorYM
import Derived.Test.YthagaldpopnoeaaGreatDoorAT

/- What is read was written: without Go. -/
namespace Go.Proofs.YthagaldpopnoeaaGreatDoor
open Go.RowKit D

theorem be_beVal : ∀ (bs : List Int), AllBytes bs → be (beVal bs) bs.length = bs
  | [], _ => rfl
  | c :: bs, h => by
    have hc := h c (by simp)
    have hb : AllBytes bs := fun x hx => h x (by simp [hx])
    have ih := be_beVal bs hb
    have hv : 0 ≤ beVal bs ∧ beVal bs < 256 ^ bs.length := by
      have := beVal_be (beVal bs) bs.length
      rw [ih] at this
      have hp : (0 : Int) < 256 ^ bs.length := Int.pow_pos (by decide)
      rw [this]
      exact ⟨Int.emod_nonneg _ (by omega), Int.emod_lt_of_pos _ hp⟩
    have hp : (0 : Int) < 256 ^ bs.length := Int.pow_pos (by decide)
    have e8 : (2 : Int) ^ (8 * bs.length) = 256 ^ bs.length := by rw [Int.pow_mul]; rfl
    rw [List.length_cons, be, beVal_cons, e8]
    congr 1
    · rw [Int.add_comm, Int.add_mul_ediv_right _ _ (by omega), Int.ediv_eq_zero_of_lt hv.1 hv.2]
      omega
    · have key : ∀ (m k : Nat) (x : Int), k ≤ m → be (c * 256 ^ m + x) k = be x k := by
        intro m k x hk
        induction k with
        | zero => rfl
        | succ k ih2 =>
          rw [be, be, ih2 (by omega)]
          congr 1
          have ek : (2 : Int) ^ (8 * k) = 256 ^ k := by rw [Int.pow_mul]; rfl
          have hk0 : (0 : Int) < 256 ^ k := Int.pow_pos (by decide)
          have em : (256 : Int) ^ m = 256 ^ (m - k - 1) * 256 * 256 ^ k := by
            rw [← Int.pow_succ, ← Int.pow_add]; congr 1; omega
          rw [ek, em, show c * (256 ^ (m - k - 1) * 256 * 256 ^ k) + x = x + (c * 256 ^ (m - k - 1) * 256) * 256 ^ k by
            rw [Int.add_comm, Int.mul_assoc c, Int.mul_assoc c]; , Int.add_mul_ediv_right _ _ (by omega)]
          omega
      rw [key _ _ _ (Nat.le_refl _)]
      exact ih

theorem rev_tk {l : List Int} {a : Nat} {y n : Int} {bs : List Int} {a' : Nat} (h : tk l a y n = (bs, a', 0)) : y = 0 ∧ l.drop a = bs ++ l.drop a' ∧ (bs.length : Int) = max n 0 := by
  unfold tk at h
  split at h
  · rename_i hc
    simp only [Prod.mk.injEq] at h
    obtain ⟨rfl, rfl, rfl⟩ := h
    rcases hc with hc | hc
    · exact absurd rfl hc
    · exact ⟨rfl, rfl, by simp; omega⟩
  · rename_i h1
    split at h
    · simp at h
    · rename_i h2
      simp only [Prod.mk.injEq] at h
      obtain ⟨rfl, rfl, _⟩ := h
      have hy : y = 0 := by
        rcases Int.lt_trichotomy y 0 with h | h | h
        · exact absurd (Or.inl (by omega)) h1
        · exact h
        · exact absurd (Or.inl (by omega)) h1
      have hn : 0 < n := by
        rcases Int.lt_or_le 0 n with h | h
        · exact h
        · exact absurd (Or.inr h) h1
      refine ⟨hy, ?_, ?_⟩
      · rw [← List.drop_drop, List.take_append_drop]
      · rw [List.length_take, List.length_drop]; omega
theorem rev_num {l : List Int} (hb : AllBytes l) {a : Nat} {y : Int} {k : Nat} {bs : List Int} {a' : Nat} (h : tk l a y (k : Int) = (bs, a', 0)) : y = 0 ∧ l.drop a = be (beVal bs) k ++ l.drop a' := by
  obtain ⟨hy, hd, hl⟩ := rev_tk h
  have hbb : AllBytes bs := by have := tk_bytes l a y k hb; rw [h] at this; exact this
  have hk : bs.length = k := by omega
  refine ⟨hy, ?_⟩
  rw [hd, ← hk, be_beVal bs hbb]
theorem fl_zero {y e : Int} (he : e ≠ 0) : fl y e ≠ 0 := by unfold fl; split <;> omega
theorem fl_nil {y : Int} (h : fl y 0 = 0) : y = 0 := by unfold fl at h; split at h <;> omega
theorem beVal_nonneg {bs : List Int} (hb : AllBytes bs) : 0 ≤ beVal bs := by
  have h := beVal_be (beVal bs) bs.length
  rw [be_beVal bs hb] at h
  rw [h]; exact Int.emod_nonneg _ (by have : (0 : Int) < 256 ^ bs.length := Int.pow_pos (by decide); omega)
theorem rev_text {l : List Int} (hb : AllBytes l) {a : Nat} {y : Int} {s : ByteArray} {a' : Nat} (h : rtext l a y = (s, a', 0)) : y = 0 ∧ l.drop a = wtextZ s ++ l.drop a' := by
  unfold rtext at h
  rcases ht : tk l a y 2 with ⟨t, a1, y1⟩
  simp only [ht] at h
  rcases hu : tk l a1 (if 256 < beVal t then fl y1 3 else y1) (beVal t) with ⟨u, a2, y2⟩
  simp only [hu] at h
  have hbt : AllBytes t := by have := tk_bytes l a y 2 hb; rw [ht] at this; exact this
  have hbu : AllBytes u := by have := tk_bytes l a1 (if 256 < beVal t then fl y1 3 else y1) (beVal t) hb; rw [hu] at this; exact this
  have hn0 := beVal_nonneg hbt
  split at h
  · rename_i xs hd
    simp only [Prod.mk.injEq] at h
    obtain ⟨rfl, rfl, h0⟩ := h
    obtain rfl := fl_nil h0
    obtain ⟨hy, hdr, hl⟩ := rev_tk hu
    split at hy
    · exact absurd hy (fl_zero (by decide))
    · rename_i h256
      subst hy
      obtain ⟨hy0, hdr0⟩ := rev_num (k := 2) hb ht
      obtain ⟨rs, hok, hm, hx⟩ := decL_inv u xs hbu hd
      have he : encZ (strOfNums xs) = u := by rw [hx, encZ_uAll rs hok, hm]
      have hv : Lib.validD (strOfNums xs).data.toList = true := by rw [hx]; exact valid_uAll rs hok
      refine ⟨hy0, ?_⟩
      unfold wtextZ
      rw [he, if_pos ⟨hv, by omega⟩, hdr0, hdr, List.append_assoc, show ((u.length : Nat) : Int) = beVal t by omega]
  · simp only [Prod.mk.injEq] at h
    exact absurd h.2.2 (fl_zero (by decide))

/-- What is read so was written so. -/
def Rev {α : Type} (l : List Int) (one : Nat → Int → α × Nat × Int) (out : α → List Int) : Prop := ∀ a y x a', one a y = (x, a', 0) → y = 0 ∧ l.drop a = out x ++ l.drop a'
theorem rev_list {α : Type} {l : List Int} {one : Nat → Int → α × Nat × Int} {out : α → List Int} (h : Rev l one out) : ∀ (k : Nat) (acc : List α) (a : Nat) (y : Int) (xs : List α) (a' : Nat), rdList one k acc a y = (xs, a', 0) → y = 0 ∧ ∃ ys, xs = acc ++ ys ∧ ys.length = k ∧ l.drop a = ys.flatMap out ++ l.drop a'
  | 0, acc, a, y, xs, a', he => by
    simp only [rdList, Prod.mk.injEq] at he
    obtain ⟨rfl, rfl, rfl⟩ := he
    exact ⟨rfl, [], by simp, rfl, by simp⟩
  | k + 1, acc, a, y, xs, a', he => by
    unfold rdList at he
    obtain ⟨h1, ys, rfl, hl, hd⟩ := rev_list h k _ _ _ _ _ he
    obtain ⟨hy, hx⟩ := h a y (one a y).1 (one a y).2.1 (by rw [← h1])
    exact ⟨hy, (one a y).1 :: ys, by simp, by simp [hl], by rw [hx, hd, List.flatMap_cons, List.append_assoc]⟩
theorem rev_lists {α : Type} {l : List Int} (hb : AllBytes l) {one : Nat → Int → α × Nat × Int} {out : α → List Int} (h : Rev l one out) : Rev l (rdLs l one) (fun xs => be (xs.length : Nat) 1 ++ xs.flatMap out) := by
  intro a y xs a' he
  unfold rdLs at he
  rcases ht : tk l a y 1 with ⟨t, a1, y1⟩
  rw [ht] at he
  simp only at he
  have hbt : AllBytes t := by have := tk_bytes l a y 1 hb; rw [ht] at this; exact this
  obtain ⟨hy1, ys, rfl, hl, hd⟩ := rev_list h _ _ _ _ _ _ he
  subst hy1
  obtain ⟨hy, hdr⟩ := rev_num (k := 1) hb ht
  have hn0 := beVal_nonneg hbt
  refine ⟨hy, ?_⟩
  simp only
  rw [hdr, hd, hl, List.append_assoc, Int.toNat_of_nonneg hn0]
theorem rev_flags {l : List Int} (hb : AllBytes l) {k : Int} {a : Nat} {y n : Int} {a' : Nat} (h : rdG k l a y = (n, a', 0)) : y = 0 ∧ 0 ≤ n ∧ n ≤ k ∧ l.drop a = be n 1 ++ l.drop a' := by
  unfold rdG at h
  rcases ht : tk l a y 1 with ⟨t, a1, y1⟩
  rw [ht] at h
  simp only [Prod.mk.injEq] at h
  obtain ⟨rfl, rfl, h0⟩ := h
  have hbt : AllBytes t := by have := tk_bytes l a y 1 hb; rw [ht] at this; exact this
  have hn0 := beVal_nonneg hbt
  split at h0
  · exact absurd h0 (fl_zero (by decide))
  · subst h0
    obtain ⟨hy, hdr⟩ := rev_num (k := 1) hb ht
    exact ⟨hy, hn0, by omega, hdr⟩
theorem rev_field {l : List Int} (hb : AllBytes l) : Rev l (rdF l) fieldO := by
  intro a y x a' h
  rcases h1 : rtext l a y with ⟨nm, a1, y1⟩
  rcases h2 : rtext l a1 y1 with ⟨ds, a2, y2⟩
  rcases h3 : rdG 1 l a2 y2 with ⟨n, a3, y3⟩
  simp only [rdF, h1, h2, h3, Prod.mk.injEq] at h
  obtain ⟨rfl, rfl, rfl⟩ := h
  obtain ⟨rfl, hn0, hn1, d3⟩ := rev_flags hb h3
  obtain ⟨rfl, d2⟩ := rev_text hb h2
  obtain ⟨hy, d1⟩ := rev_text hb h1
  refine ⟨hy, ?_⟩
  have hf : fl1 (decide (n % 2 = 1)) = n := by
    have : n = 0 ∨ n = 1 := by omega
    rcases this with rfl | rfl <;> rfl
  unfold fieldO
  rw [hf, d1, d2, d3]
  simp only [List.append_assoc]
theorem rev_hand {l : List Int} (hb : AllBytes l) : Rev l (rdH l) handO := by
  intro a y x a' h
  rcases h1 : tk l a y 2 with ⟨t1, a1, y1⟩
  rcases h2 : tk l a1 y1 2 with ⟨t2, a2, y2⟩
  rcases h3 : tk l a2 y2 2 with ⟨t3, a3, y3⟩
  rcases h4 : rtext l a3 y3 with ⟨s, a4, y4⟩
  simp only [rdH, h1, h2, h3, h4, Prod.mk.injEq] at h
  obtain ⟨rfl, rfl, rfl⟩ := h
  obtain ⟨rfl, d4⟩ := rev_text hb h4
  obtain ⟨rfl, d3⟩ := rev_num (k := 2) hb h3
  obtain ⟨rfl, d2⟩ := rev_num (k := 2) hb h2
  obtain ⟨hy, d1⟩ := rev_num (k := 2) hb h1
  refine ⟨hy, ?_⟩
  unfold handO
  rw [d1, d2, d3, d4]
  simp only [List.append_assoc]
theorem rev_frame {l : List Int} (hb : AllBytes l) : Rev l (rdR l) frameO := by
  intro a y x a' h
  have ht : Rev l (rtext l) wtextZ := fun a y x a' h => rev_text hb h
  have hL := rev_lists hb ht
  rcases h1 : tk l a y 2 with ⟨t1, a1, y1⟩
  rcases h2 : rdLs l (rtext l) a1 y1 with ⟨t2, a2, y2⟩
  rcases h3 : rdLs l (rtext l) a2 y2 with ⟨t3, a3, y3⟩
  simp only [rdR, h1, h2, h3, Prod.mk.injEq] at h
  obtain ⟨rfl, rfl, rfl⟩ := h
  obtain ⟨rfl, d3⟩ := hL _ _ _ _ h3
  obtain ⟨rfl, d2⟩ := hL _ _ _ _ h2
  obtain ⟨hy, d1⟩ := rev_num (k := 2) hb h1
  refine ⟨hy, ?_⟩
  unfold frameO textsO
  rw [d1, d2, d3]
  simp only [List.append_assoc]
theorem rev_meth {l : List Int} (hb : AllBytes l) : Rev l (rdM l) methO := by
  intro a y x a' h
  rcases h1 : rtext l a y with ⟨nm, a1, y1⟩
  rcases h2 : rtext l a1 y1 with ⟨ds, a2, y2⟩
  rcases h3 : rdG 3 l a2 y2 with ⟨n, a3, y3⟩
  rcases h4 : tk l a3 y3 1 with ⟨t4, a4, y4⟩
  rcases h5 : tk l a4 y4 1 with ⟨t5, a5, y5⟩
  rcases h6 : tk l a5 y5 2 with ⟨t6, a6, y6⟩
  rcases h7 : tk l a6 y6 (beVal t6) with ⟨bs, a7, y7⟩
  rcases h8 : rdLs l (rdH l) a7 y7 with ⟨hs, a8, y8⟩
  rcases h9 : rdLs l (rdR l) a8 y8 with ⟨rs, a9, y9⟩
  simp only [rdM, h1, h2, h3, h4, h5, h6, h7, h8, h9, Prod.mk.injEq] at h
  obtain ⟨rfl, rfl, rfl⟩ := h
  obtain ⟨rfl, d9⟩ := rev_lists hb (rev_frame hb) _ _ _ _ h9
  obtain ⟨rfl, d8⟩ := rev_lists hb (rev_hand hb) _ _ _ _ h8
  obtain ⟨rfl, d7, l7⟩ := rev_tk h7
  have hb6 : AllBytes t6 := by have := tk_bytes l a5 y5 2 hb; rw [h6] at this; exact this
  have n6 := beVal_nonneg hb6
  obtain ⟨rfl, d6⟩ := rev_num (k := 2) hb h6
  obtain ⟨rfl, d5⟩ := rev_num (k := 1) hb h5
  obtain ⟨rfl, d4⟩ := rev_num (k := 1) hb h4
  obtain ⟨rfl, hn0, hn1, d3⟩ := rev_flags hb h3
  obtain ⟨rfl, d2⟩ := rev_text hb h2
  obtain ⟨hy, d1⟩ := rev_text hb h1
  refine ⟨hy, ?_⟩
  have hf : fl2 (decide (n % 2 = 1)) (decide (n / 2 % 2 = 1)) = n := by
    have : n = 0 ∨ n = 1 ∨ n = 2 ∨ n = 3 := by omega
    rcases this with rfl | rfl | rfl | rfl <;> rfl
  unfold methO handsO framesO
  simp only
  rw [hf, show ((bs.length : Nat) : Int) = beVal t6 by omega, d1, d2, d3, d4, d5, d6, d7, d8, d9]
  simp only [List.append_assoc]

theorem rev_texts {l : List Int} (hb : AllBytes l) : ∀ (k : Nat) (a : Nat) (y : Int) (ts : List ByteArray) (a' : Nat), rT l k a y = (ts, a', 0) → y = 0 ∧ l.drop a = ts.flatMap wtextZ ++ l.drop a'
  | 0, a, y, ts, a', h => by
    simp only [rT, Prod.mk.injEq] at h
    obtain ⟨rfl, rfl, rfl⟩ := h
    exact ⟨rfl, rfl⟩
  | k + 1, a, y, ts, a', h => by
    rcases h1 : rT l k a y with ⟨t1, a1, y1⟩
    rcases h2 : rtext l a1 y1 with ⟨s, a2, y2⟩
    simp only [rT, h1, h2, Prod.mk.injEq] at h
    obtain ⟨rfl, rfl, rfl⟩ := h
    obtain ⟨rfl, d2⟩ := rev_text hb h2
    obtain ⟨hy, d1⟩ := rev_texts hb k a y _ _ h1
    exact ⟨hy, by rw [d1, d2, List.flatMap_append]; simp⟩
theorem be_wrap (n : Int) : be (IntKind.i32.wrap n) 4 = be n 4 := by
  rw [IntKind.wrap_i32]
  simp only [be]
  rw [show (2 : Int) ^ (8 * 3) = 16777216 by decide, show (2 : Int) ^ (8 * 2) = 65536 by decide, show (2 : Int) ^ (8 * 1) = 256 by decide, show (2 : Int) ^ (8 * 0) = 1 by decide]
  simp only [List.cons.injEq, and_true]
  refine ⟨?_, ?_, ?_, ?_⟩ <;> omega
theorem rev_const {l : List Int} (hb : AllBytes l) {a : Nat} {y : Int} {a' : Nat} (h : rdE l a y = (a', 0)) : y = 0 ∧ l.drop a = entZ (rdC l a y) ++ l.drop a' := by
  rcases h1 : tk l a y 1 with ⟨t, a1, y1⟩
  by_cases hk : textsB (beVal t) = true
  · have hE : rdE l a y = ((rdT l a y).2.1, if rightB (rdC l a y) = true then (rdT l a y).2.2 else fl (rdT l a y).2.2 14) := by unfold rdE; rw [h1, if_pos hk]
    have hC : rdC l a y = mkC (beVal t) (rdN l a y).1 (rdT l a y).1 := by unfold rdC; rw [h1, if_pos hk]
    rw [hE] at h
    simp only [Prod.mk.injEq] at h
    obtain ⟨h2, h3⟩ := h
    split at h3
    · rcases hN : rdN l a y with ⟨n, a2, y2⟩
      rcases hT : rdT l a y with ⟨ts, a3, y3⟩
      rw [hT] at h2 h3
      simp only at h2 h3
      subst h2 h3
      have hT' : rT l (textsN (beVal t)) a2 y2 = (ts, a3, 0) := by
        unfold rdT at hT; rw [h1, hN] at hT; exact hT
      have hlen : ts.length = textsN (beVal t) := by have := rT_len l (textsN (beVal t)) a2 y2; rw [hT'] at this; exact this
      obtain ⟨rfl, d3⟩ := rev_texts hb _ _ _ _ _ hT'
      rw [hC, hN, hT]
      simp only
      unfold rdN at hN
      rw [h1] at hN
      simp only at hN
      have hk4 : beVal t = 3 ∨ beVal t = 7 ∨ beVal t = 9 ∨ beVal t = 10 := by simpa [textsB] using hk
      have hent : entT (mkC (beVal t) n ts) = ts.flatMap wtextZ := by
        unfold entT
        have e1 : (mkC (beVal t) n ts).kind = beVal t := rfl
        rw [e1]
        rcases hk4 with h | h | h | h <;> rw [h] at hlen ⊢ <;> simp [textsN] at hlen
        · subst hlen; rfl
        · obtain ⟨s, rfl⟩ := List.length_eq_one_iff.1 hlen; rfl
        · match ts, hlen with
          | [s1, s2, s3], _ => rfl
        · match ts, hlen with
          | [s1, s2, s3], _ => rfl
      have hmk : (mkC (beVal t) n ts).kind = beVal t := rfl
      have hmn : (mkC (beVal t) n ts).n = n := rfl
      unfold entZ
      rw [hmk, hmn, hent]
      by_cases h0 : textsN (beVal t) = 0
      · rw [if_pos h0] at hN
        rcases h4 : tk l a1 y1 4 with ⟨t4, a4, y4⟩
        rw [h4] at hN
        simp only [Prod.mk.injEq] at hN
        obtain ⟨rfl, rfl, rfl⟩ := hN
        obtain ⟨rfl, d4⟩ := rev_num (k := 4) hb h4
        obtain ⟨hy, d1⟩ := rev_num (k := 1) hb h1
        refine ⟨hy, ?_⟩
        rw [if_pos h0, be_wrap, d1, d4, d3]
        simp only [List.append_assoc]
      · rw [if_neg h0] at hN
        simp only [Prod.mk.injEq] at hN
        obtain ⟨rfl, rfl, rfl⟩ := hN
        obtain ⟨hy, d1⟩ := rev_num (k := 1) hb h1
        refine ⟨hy, ?_⟩
        rw [if_neg h0, d1, d3]
        simp only [List.append_assoc, List.append_nil]
    · exact absurd h3 (fl_zero (by decide))
  · exfalso
    unfold rdE at h
    rw [h1, if_neg hk] at h
    simp only [Prod.mk.injEq] at h
    exact fl_zero (by decide) h.2
theorem rev_consts {l : List Int} (hb : AllBytes l) : ∀ (k : Nat) (acc : List CD) (a : Nat) (y : Int) (xs : List CD) (a' : Nat), rdL l k acc a y = (xs, a', 0) → y = 0 ∧ ∃ ys, xs = acc ++ ys ∧ ys.length = k ∧ l.drop a = ys.flatMap entZ ++ l.drop a'
  | 0, acc, a, y, xs, a', he => by
    simp only [rdL, Prod.mk.injEq] at he
    obtain ⟨rfl, rfl, rfl⟩ := he
    exact ⟨rfl, [], by simp, rfl, by simp⟩
  | k + 1, acc, a, y, xs, a', he => by
    unfold rdL at he
    split at he
    · rename_i hy
      obtain ⟨h1, ys, rfl, hl, hd⟩ := rev_consts hb k _ _ _ _ _ he
      obtain ⟨_, hx⟩ := rev_const (a' := (rdE l a y).1) hb (by rw [← h1])
      exact ⟨hy, rdC l a y :: ys, by simp, by simp [hl], by rw [hx, hd, List.flatMap_cons, List.append_assoc]⟩
    · simp only [Prod.mk.injEq] at he
      exact absurd he.2.2 (by assumption)
theorem rev_pool {l : List Int} (hb : AllBytes l) {a : Nat} {y : Int} {a' : Nat} (h : (rdP l a y).2 = (a', 0)) : y = 0 ∧ l.drop a = poolZ (rdO l a y) ++ l.drop a' := by
  have hO : rdO l a y = (rdP l a y).1 := by unfold rdO; rw [h]; rfl
  rcases h1 : tk l a y 2 with ⟨t, a1, y1⟩
  have hbt : AllBytes t := by have := tk_bytes l a y 2 hb; rw [h1] at this; exact this
  have hn0 := beVal_nonneg hbt
  have hP : rdP l a y = rdL l (beVal t).toNat [] a1 (rdY l a y) := by unfold rdP; rw [h1]
  rcases hP2 : rdP l a y with ⟨xs, a2, y2⟩
  rw [hP2] at h hO
  simp only [Prod.mk.injEq] at h hO
  obtain ⟨rfl, rfl⟩ := h
  rw [hP] at hP2
  obtain ⟨hY, ys, rfl, hl, hd⟩ := rev_consts hb _ _ _ _ _ _ hP2
  unfold rdY at hY
  rw [h1] at hY
  simp only at hY
  split at hY
  · exact absurd hY (fl_zero (by decide))
  · subst hY
    obtain ⟨hy, d1⟩ := rev_num (k := 2) hb h1
    refine ⟨hy, ?_⟩
    rw [hO]
    unfold poolZ
    rw [d1, hd, hl, List.append_assoc, Int.toNat_of_nonneg hn0]

theorem nums_back {bs : List Int} (hb : AllBytes bs) : (strOfNums bs).data.toList.map (fun u => (u.toNat : Int)) = bs := by
  have : (strOfNums bs).data.toList = bs.map (fun x => UInt8.ofNat x.toNat) := by simp [strOfNums]
  rw [this, List.map_map]
  conv => rhs; rw [← List.map_id bs]
  apply List.map_congr_left
  intro x hx
  have := hb x hx
  simp only [Function.comp, id]
  rw [UInt8.toNat_ofNat']
  omega
theorem rev_head {l : List Int} (hb : AllBytes l) {a : Nat} {y : Int} (h : hdY l a y = 0) : y = 0 ∧ l.drop a = [202, 254, 186, 190, 0, 1] ++ l.drop (tk l a y 6).2.1 := by
  rcases h1 : tk l a y 6 with ⟨t, a1, y1⟩
  unfold hdY at h
  rw [h1] at h
  simp only at h
  have hbt : AllBytes t := by have := tk_bytes l a y 6 hb; rw [h1] at this; exact this
  split at h
  · rename_i ht
    subst h
    obtain ⟨hy, d1, _⟩ := rev_tk h1
    refine ⟨hy, ?_⟩
    have := nums_back hbt
    rw [Lib.toList_data] at ht
    rw [ht] at this
    rw [d1, ← this]
    rfl
  · exact absurd h (fl_zero (by decide))
theorem rev_class {l : List Int} (hb : AllBytes l) {a : Nat} {y : Int} {k : KD} {a' : Nat} (h : rdK l a y = (k, a', 0)) : y = 0 ∧ l.drop a = classO k ++ l.drop a' := by
  rcases e2 : (rdP l (tk l a y 6).2.1 (hdY l a y)).2 with ⟨a2, y2⟩
  rcases e3 : rtext l a2 y2 with ⟨nm, a3, y3⟩
  rcases e4 : rtext l a3 y3 with ⟨sup, a4, y4⟩
  rcases e5 : rdLs l (rdF l) a4 y4 with ⟨fs, a5, y5⟩
  rcases e6 : rdLs l (rdM l) a5 y5 with ⟨ms, a6, y6⟩
  simp only [rdK, e2, e3, e4, e5, e6, Prod.mk.injEq] at h
  obtain ⟨rfl, rfl, rfl⟩ := h
  obtain ⟨rfl, d6⟩ := rev_lists hb (rev_meth hb) _ _ _ _ e6
  obtain ⟨rfl, d5⟩ := rev_lists hb (rev_field hb) _ _ _ _ e5
  obtain ⟨rfl, d4⟩ := rev_text hb e4
  obtain ⟨rfl, d3⟩ := rev_text hb e3
  obtain ⟨h1, d2⟩ := rev_pool hb e2
  obtain ⟨hy, d1⟩ := rev_head hb h1
  refine ⟨hy, ?_⟩
  unfold classO fieldsO methsO
  simp only
  rw [d1, d2, d3, d4, d5, d6]
  simp only [List.append_assoc]
/-- What is read whole is its class's bytes. -/
theorem read_back {l : List Int} (hb : AllBytes l) (h : (endZ l (rdK l 0 0).2.1 (rdK l 0 0).2.2).1 = 0) : classO (rdK l 0 0).1 = l := by
  rcases e : rdK l 0 0 with ⟨k, a, y⟩
  rw [e] at h
  simp only at h
  unfold endZ at h
  split at h
  · rename_i hy; exact absurd h hy
  · rename_i hy
    have hy0 : y = 0 := by
      rcases Int.lt_trichotomy y 0 with h | h | h
      · exact absurd (by omega) hy
      · exact h
      · exact absurd (by omega) hy
    subst hy0
    split at h
    · simp at h
    · obtain ⟨_, d⟩ := rev_class hb e
      rw [List.drop_zero, List.drop_eq_nil_of_le (by omega), List.append_nil] at d
      exact d.symm
end Go.Proofs.YthagaldpopnoeaaGreatDoor

/- What is written is read: without Go. -/
namespace Go.Proofs.YthagaldpopnoeaaGreatDoor
open Go.RowKit D

theorem drop_next {L X R : List Int} {a : Nat} (h : L.drop a = X ++ R) : L.drop (a + X.length) = R := by
  rw [← List.drop_drop, h, List.drop_left]
theorem drop_in {L X R : List Int} {a : Nat} (h : L.drop a = X ++ R) (ha : a ≤ L.length) : a + X.length ≤ L.length := by
  have := congrArg List.length h
  rw [List.length_drop, List.length_append] at this
  omega
theorem drop_split {L : List Int} {a : Nat} (ha : a ≤ L.length) : L = L.take a ++ L.drop a ∧ (L.take a).length = a := ⟨(List.take_append_drop a L).symm, by rw [List.length_take]; omega⟩
/-- What was written so is read. -/
def Fwd {α : Type} (one : List Int → Nat → Int → α × Nat × Int) (out : α → List Int) (x : α) : Prop := ∀ (L : List Int) (a : Nat) (R : List Int), a ≤ L.length → L.drop a = out x ++ R → one L a 0 = (x, a + (out x).length, 0)
theorem fwd_text (s : ByteArray) (h : Asc (bsB s)) (hs : s.size ≤ 256) : Fwd rtext wtextZ s := by
  intro L a R ha hd
  obtain ⟨e, hl⟩ := drop_split ha
  have := rtext_asc (L.take a) R s h hs
  rw [← hd, ← e, hl] at this
  exact this
theorem fwd_tk {L X R : List Int} {a : Nat} {n : Nat} (ha : a ≤ L.length) (hd : L.drop a = X ++ R) (hn : X.length = n) : tk L a 0 (n : Int) = (X, a + n, 0) := by
  obtain ⟨e, hl⟩ := drop_split ha
  have := tk_is (L.take a) X R n hn
  rw [← hd, ← e, hl] at this
  exact this
theorem fwd_num {L R : List Int} {a : Nat} {v : Int} {n : Nat} (ha : a ≤ L.length) (hd : L.drop a = be v n ++ R) : tk L a 0 (n : Int) = (be v n, a + n, 0) := fwd_tk ha hd (be_len _ _)
theorem val1 {n : Int} (h0 : 0 ≤ n) (h1 : n ≤ 255) : beVal (be n 1) = n := by rw [beVal_be, show (256 : Int) ^ 1 = 256 by decide]; omega
theorem val2 {n : Int} (h0 : 0 ≤ n) (h1 : n ≤ 65535) : beVal (be n 2) = n := by rw [beVal_be, show (256 : Int) ^ 2 = 65536 by decide]; omega
theorem fwd_list {α : Type} {one : List Int → Nat → Int → α × Nat × Int} {out : α → List Int} : ∀ (xs acc : List α) (L : List Int) (a : Nat) (R : List Int), (∀ x ∈ xs, Fwd one out x) → a ≤ L.length → L.drop a = xs.flatMap out ++ R → rdList (one L) xs.length acc a 0 = (acc ++ xs, a + (xs.flatMap out).length, 0)
  | [], acc, L, a, R, h, ha, hd => by simp [rdList]
  | x :: xs, acc, L, a, R, h, ha, hd => by
    rw [List.flatMap_cons, List.append_assoc] at hd
    have h1 := h x (by simp) L a _ ha hd
    rw [List.length_cons, rdList, h1]
    simp only
    rw [fwd_list xs (acc ++ [x]) L _ R (fun y hy => h y (by simp [hy])) (drop_in hd ha) (drop_next hd)]
    simp [List.flatMap_cons, Nat.add_assoc]
theorem fwd_lists {α : Type} {one : List Int → Nat → Int → α × Nat × Int} {out : α → List Int} (xs : List α) (h : ∀ x ∈ xs, Fwd one out x) (hl : xs.length ≤ 255) : Fwd (fun L => rdLs L (one L)) (fun xs => be (xs.length : Nat) 1 ++ xs.flatMap out) xs := by
  intro L a R ha hd
  simp only at hd ⊢
  rw [List.append_assoc] at hd
  have h1 := fwd_num (n := 1) ha hd
  unfold rdLs
  rw [show ((1 : Nat) : Int) = 1 from rfl] at h1
  rw [h1]
  simp only
  have hn := drop_next hd
  have hi := drop_in hd ha
  rw [be_len] at hn hi
  rw [val1 (by omega) (by omega), Int.toNat_natCast, fwd_list xs [] L (a + 1) R h hi hn]
  simp [be_len, Nat.add_assoc]
theorem fwd_flags {L R : List Int} {a : Nat} {k n : Int} (ha : a ≤ L.length) (h0 : 0 ≤ n) (h1 : n ≤ k) (hk : k ≤ 255) (hd : L.drop a = be n 1 ++ R) : rdG k L a 0 = (n, a + 1, 0) := by
  have h2 := fwd_num (n := 1) ha hd
  rw [show ((1 : Nat) : Int) = 1 from rfl] at h2
  unfold rdG
  rw [h2]
  simp only
  rw [val1 h0 (by omega), if_neg (by omega)]
theorem name_text {s : ByteArray} (h : nameB (bsB s) = true) : Asc (bsB s) ∧ s.size ≤ 256 := by
  have hn := (nameB_iff _).1 h
  refine ⟨asc_name hn, ?_⟩
  have h2 : (bsB s).length ≤ 64 := hn.2.1
  have h3 : (bsB s).length = s.size := by unfold bsB; rw [size_len]
  omega
theorem fwd_name {s : ByteArray} (h : nameB (bsB s) = true) : Fwd rtext wtextZ s := fwd_text s (name_text h).1 (name_text h).2

theorem fwd_field (x : FD) (hn : nameB (bsB x.nm) = true) (hf : fieldB (bsB x.ds) = true) : Fwd rdF fieldO x := by
  intro L a R ha hd
  have e1 : L.drop a = wtextZ x.nm ++ (wtextZ x.ds ++ (be (fl1 x.st) 1 ++ R)) := by rw [hd]; unfold fieldO; simp only [List.append_assoc]
  have h1 := fwd_name hn L a _ ha e1
  have n1 := drop_next e1
  have i1 := drop_in e1 ha
  have h2 := fwd_text x.ds (asc_fld ((fieldB_iff _).1 hf)) (by have := field_size hf; omega) L _ _ i1 n1
  have n2 := drop_next n1
  have i2 := drop_in n1 i1
  have h3 := fwd_flags (k := 1) (n := fl1 x.st) i2 (by unfold fl1; split <;> omega) (by unfold fl1; split <;> omega) (by decide) n2
  simp only [rdF, h1, h2, h3]
  have hs : decide (fl1 x.st % 2 = 1) = x.st := by cases x.st <;> rfl
  rw [hs]
  simp [fieldO, be_len, Nat.add_assoc] <;> omega
theorem in_two {n : Int} (h : inB n 65535 = true) : 0 ≤ n ∧ n ≤ 65535 := by
  unfold inB at h
  simp only [Bool.and_eq_true, decide_eq_true_eq] at h
  exact h
theorem fwd_hand (x : HD) (h : handB x = true) : Fwd rdH handO x := by
  intro L a R ha hd
  unfold handB at h
  simp only [Bool.and_eq_true] at h
  obtain ⟨q1, q2, q3, q4⟩ := h
  have e1 : L.drop a = be x.fr 2 ++ (be x.tO 2 ++ (be x.aT 2 ++ (wtextZ x.ty ++ R))) := by rw [hd]; unfold handO; simp only [List.append_assoc]
  have h1 := fwd_num (n := 2) ha e1
  have n1 := drop_next e1
  have i1 := drop_in e1 ha
  rw [be_len] at n1 i1
  have h2 := fwd_num (n := 2) i1 n1
  have n2 := drop_next n1
  have i2 := drop_in n1 i1
  rw [be_len] at n2 i2
  have h3 := fwd_num (n := 2) i2 n2
  have n3 := drop_next n2
  have i3 := drop_in n2 i2
  rw [be_len] at n3 i3
  have h4 := fwd_name q4 L _ _ i3 n3
  rw [show ((2 : Nat) : Int) = 2 from rfl] at h1 h2 h3
  simp only [rdH, h1, h2, h3, h4]
  rw [val2 (in_two q1).1 (in_two q1).2, val2 (in_two q2).1 (in_two q2).2, val2 (in_two q3).1 (in_two q3).2]
  simp [handO, be_len, Nat.add_assoc] <;> omega
theorem slot_asc {s : ByteArray} (h : slotB s = true) : Asc (bsB s) := by
  unfold slotB at h
  simp only [Bool.or_eq_true, beq_iff_eq] at h
  have hl : bsB s = s.toList := by unfold bsB; rw [Lib.toList_data]
  rcases h with h | h | h
  · rw [hl, h]; intro c hc; simp at hc; subst hc; decide
  · rw [hl, h]; intro c hc; simp at hc; subst hc; decide
  · exact asc_fld ((fieldB_iff _).1 h)
theorem fwd_slot {s : ByteArray} (h : slotB s = true) : Fwd rtext wtextZ s := fwd_text s (slot_asc h) (by have := slot_size h; omega)
theorem fwd_frame (x : RD) (hp : placeB x = true) (hz : sizeB x = true) (ht : slotsB x = true) : Fwd rdR frameO x := by
  intro L a R ha hd
  unfold sizeB at hz
  unfold slotsB at ht
  simp only [Bool.and_eq_true, decide_eq_true_eq, List.all_eq_true] at hz ht
  have e1 : L.drop a = be x.aT 2 ++ ((be (x.loc.length : Nat) 1 ++ x.loc.flatMap wtextZ) ++ ((be (x.stk.length : Nat) 1 ++ x.stk.flatMap wtextZ) ++ R)) := by rw [hd]; unfold frameO textsO; simp only [List.append_assoc]
  have h1 := fwd_num (n := 2) ha e1
  have n1 := drop_next e1
  have i1 := drop_in e1 ha
  rw [be_len] at n1 i1
  have h2 := fwd_lists (one := rtext) (out := wtextZ) x.loc (fun s hs => fwd_slot (ht.1 s hs)) (by omega) L _ _ i1 n1
  have n2 := drop_next n1
  have i2 := drop_in n1 i1
  have h3 := fwd_lists (one := rtext) (out := wtextZ) x.stk (fun s hs => fwd_slot (ht.2 s hs)) (by omega) L _ _ i2 n2
  rw [show ((2 : Nat) : Int) = 2 from rfl] at h1
  simp only at h2 h3
  simp only [rdR, h1, h2, h3]
  have hp2 := in_two hp
  rw [val2 hp2.1 hp2.2]
  simp [frameO, textsO, be_len, Nat.add_assoc] <;> omega
theorem in_byte {n : Int} (h : inB n 16 = true) : 0 ≤ n ∧ n ≤ 255 := by
  unfold inB at h
  simp only [Bool.and_eq_true, decide_eq_true_eq] at h
  omega
theorem method_asc {s : ByteArray} (h : methodB s = true) : Asc (bsB s) := by
  unfold methodB at h
  simp only [Bool.and_eq_true, decide_eq_true_eq] at h
  exact asc_meth h.1
theorem fwd_meth (m : MD) (h : MOk m) : Fwd rdM methO m := by
  intro L a R ha hd
  have e1 : L.drop a = wtextZ m.nm ++ (wtextZ m.ds ++ (be (fl2 m.st m.nat) 1 ++ (be m.stk 1 ++ (be m.loc 1 ++ (be (m.code.length : Nat) 2 ++ (m.code ++ ((be (m.hs.length : Nat) 1 ++ m.hs.flatMap handO) ++ ((be (m.rs.length : Nat) 1 ++ m.rs.flatMap frameO) ++ R)))))))) := by
    rw [hd]; unfold methO handsO framesO; simp only [List.append_assoc]
  have h1 := fwd_name h.nm L a _ ha e1
  have n1 := drop_next e1
  have i1 := drop_in e1 ha
  have h2 := fwd_text m.ds (method_asc h.ds) (method_size h.ds) L _ _ i1 n1
  have n2 := drop_next n1
  have i2 := drop_in n1 i1
  have h3 := fwd_flags (k := 3) (n := fl2 m.st m.nat) i2 (by unfold fl2; split <;> split <;> omega) (by unfold fl2; split <;> split <;> omega) (by decide) n2
  have n3 := drop_next n2
  have i3 := drop_in n2 i2
  rw [be_len] at n3 i3
  have h4 := fwd_num (n := 1) i3 n3
  have n4 := drop_next n3
  have i4 := drop_in n3 i3
  rw [be_len] at n4 i4
  have h5 := fwd_num (n := 1) i4 n4
  have n5 := drop_next n4
  have i5 := drop_in n4 i4
  rw [be_len] at n5 i5
  have h6 := fwd_num (n := 2) i5 n5
  have n6 := drop_next n5
  have i6 := drop_in n5 i5
  rw [be_len] at n6 i6
  have h7 := fwd_tk (n := m.code.length) i6 n6 rfl
  have n7 := drop_next n6
  have i7 := drop_in n6 i6
  have h8 := fwd_lists (one := rdH) (out := handO) m.hs (fun x hx => fwd_hand x (h.hs x hx)) (by have := h.hl; omega) L _ _ i7 n7
  have n8 := drop_next n7
  have i8 := drop_in n7 i7
  have h9 := fwd_lists (one := rdR) (out := frameO) m.rs (fun x hx => fwd_frame x (h.pl x hx) (h.sz x hx) (h.ty x hx)) (by have := h.rl; omega) L _ _ i8 n8
  rw [show ((1 : Nat) : Int) = 1 from rfl] at h4 h5
  rw [show ((2 : Nat) : Int) = 2 from rfl] at h6
  have v6 : beVal (be (m.code.length : Nat) 2) = (m.code.length : Nat) := val2 (by omega) (by have := h.code; omega)
  simp only at h8 h9
  simp only [rdM, h1, h2, h3, h4, h5, h6, v6, h7, h8, h9]
  have b4 := in_byte h.stk
  have b5 := in_byte h.loc
  rw [val1 b4.1 b4.2, val1 b5.1 b5.2]
  have hs : decide (fl2 m.st m.nat % 2 = 1) = m.st := by cases m.st <;> cases m.nat <;> rfl
  have hn : decide (fl2 m.st m.nat / 2 % 2 = 1) = m.nat := by cases m.st <;> cases m.nat <;> rfl
  rw [hs, hn]
  simp [methO, handsO, framesO, be_len, Nat.add_assoc] <;> omega
theorem fwd_pool {L R : List Int} {a : Nat} (l : List CD) (h : ∀ c ∈ l, rightB c = true ∧ c.Ok) (hl : l.length ≤ 256) (ha : a ≤ L.length) (hd : L.drop a = poolZ l ++ R) : rdP L a 0 = (l, a + (poolZ l).length, 0) ∧ rdO L a 0 = l := by
  have e1 : L.drop a = be (l.length : Nat) 2 ++ (l.flatMap entZ ++ R) := by rw [hd]; unfold poolZ; simp only [List.append_assoc]
  have t2 := fwd_num (n := 2) ha e1
  rw [show ((2 : Nat) : Int) = 2 from rfl] at t2
  have n1 := drop_next e1
  have i1 := drop_in e1 ha
  rw [be_len] at n1 i1
  have hv : beVal (be (l.length : Nat) 2) = (l.length : Nat) := val2 (by omega) (by omega)
  have hP : rdP L a 0 = (l, a + (poolZ l).length, 0) := by
    unfold rdP rdY
    rw [t2]
    simp only
    rw [hv, if_neg (by omega), Int.toNat_natCast]
    obtain ⟨e, hl2⟩ := drop_split i1
    have := rdL_at R l [] (L.take (a + 2)) h
    rw [← n1, ← e, hl2] at this
    rw [this]
    unfold poolZ
    simp [be_len, Nat.add_assoc]
  refine ⟨hP, ?_⟩
  unfold rdO
  rw [hP]
  rfl
theorem sup_asc {s : ByteArray} (h : emptyB s = true ∨ nameB (bsB s) = true) : Asc (bsB s) ∧ s.size ≤ 256 := by
  rcases h with h | h
  · exact ⟨asc_empty h, by have := empty_size h; omega⟩
  · exact name_text h
/-- A class that is let by is read where it was written. -/
theorem fwd_class (k : KD) (h : KOk k) (hok : ∀ c ∈ k.pool, c.Ok) : Fwd rdK classO k := by
  intro L a R ha hd
  have e1 : L.drop a = [202, 254, 186, 190, 0, 1] ++ (poolZ k.pool ++ (wtextZ k.nm ++ (wtextZ k.sup ++ ((be (k.fs.length : Nat) 1 ++ k.fs.flatMap fieldO) ++ ((be (k.ms.length : Nat) 1 ++ k.ms.flatMap methO) ++ R))))) := by
    rw [hd]; unfold classO fieldsO methsO; simp only [List.append_assoc]
  have h1 := fwd_tk (n := 6) ha e1 rfl
  rw [show ((6 : Nat) : Int) = 6 from rfl] at h1
  have hY : hdY L a 0 = 0 := by
    unfold hdY
    rw [h1]
    simp only
    rw [if_pos (by rw [Lib.toList_data]; rfl)]
  have n1 : L.drop (a + 6) = _ := drop_next e1
  have i1 : a + 6 ≤ L.length := drop_in e1 ha
  obtain ⟨h2, h2o⟩ := fwd_pool k.pool (fun c hc => ⟨List.all_eq_true.1 h.pool c hc, hok c hc⟩) h.pl i1 n1
  have n2 := drop_next n1
  have i2 := drop_in n1 i1
  have h3 := fwd_name h.nm L _ _ i2 n2
  have n3 := drop_next n2
  have i3 := drop_in n2 i2
  have h4 := fwd_text k.sup (sup_asc h.sup).1 (sup_asc h.sup).2 L _ _ i3 n3
  have n4 := drop_next n3
  have i4 := drop_in n3 i3
  have h5 := fwd_lists (one := rdF) (out := fieldO) k.fs (fun x hx => fwd_field x (h.fs x hx).1 (h.fs x hx).2) (by have := h.fl; omega) L _ _ i4 n4
  have n5 := drop_next n4
  have i5 := drop_in n4 i4
  have h6 := fwd_lists (one := rdM) (out := methO) k.ms (fun x hx => fwd_meth x (h.ms x hx)) (by have := h.ml; omega) L _ _ i5 n5
  simp only at h5 h6
  simp only [rdK, h1, hY, h2, h2o, h3, h4, h5, h6]
  simp [classO, fieldsO, methsO, be_len, Nat.add_assoc] <;> omega
/-- Its own bytes are read as it, and nothing is left. -/
theorem read_own (k : KD) (h : rightZ k = 0) (hok : ∀ c ∈ k.pool, c.Ok) : rdK (classO k) 0 0 = (k, (classO k).length, 0) ∧ (endZ (classO k) (rdK (classO k) 0 0).2.1 (rdK (classO k) 0 0).2.2).1 = 0 := by
  have e := fwd_class k (class_ok h) hok (classO k) 0 [] (Nat.zero_le _) (by simp)
  rw [Nat.zero_add] at e
  refine ⟨e, ?_⟩
  rw [e]
  simp [endZ]
/-- Cut short, they are no class's. -/
theorem read_cut (k : KD) (h : rightZ k = 0) (hok : ∀ c ∈ k.pool, c.Ok) (hb : AllBytes (classO k)) (n : Nat) (hn : n < (classO k).length) (hr : rightZ (rdK ((classO k).take n) 0 0).1 = 0) (hq : ∀ c ∈ (rdK ((classO k).take n) 0 0).1.pool, c.Ok) :
    (endZ ((classO k).take n) (rdK ((classO k).take n) 0 0).2.1 (rdK ((classO k).take n) 0 0).2.2).1 ≠ 0 := by
  intro he
  have hbt : AllBytes ((classO k).take n) := fun x hx => hb x (List.mem_of_mem_take hx)
  have h1 := read_back hbt he
  have h2 := fwd_class _ (class_ok hr) hq (classO k) 0 ((classO k).drop n) (Nat.zero_le _) (by rw [h1]; simp)
  rw [(read_own k h hok).1, h1] at h2
  simp only [Prod.mk.injEq] at h2
  have := h2.2.1
  rw [List.length_take] at this
  omega
end Go.Proofs.YthagaldpopnoeaaGreatDoor
