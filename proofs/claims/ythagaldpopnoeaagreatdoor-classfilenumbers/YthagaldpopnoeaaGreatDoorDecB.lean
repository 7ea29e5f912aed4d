/- firstRune reads the rune that a list of bytes begins with. -/
import Derived.Test.YthagaldpopnoeaaGreatDoorDecA
import Derived.Laws.BytesArg
namespace Go.Proofs.YthagaldpopnoeaaGreatDoor
open Go.RowKit

/-- The bytes l lie from off on in block g. -/
def Lies (w : World) (g off : Nat) (l : List Int) : Prop := ∀ j x, l[j]? = some x → w.cell? ⟨g, off + j, none⟩ = some (.int .u8 x)
def AllBytes (l : List Int) : Prop := ∀ x ∈ l, 0 ≤ x ∧ x ≤ 255
/-- v is a slice that holds the bytes l. -/
def View (w : World) (v : Value) (l : List Int) : Prop :=
  ∃ ao cap, v = .slice ao l.length cap ∧ l.length ≤ cap ∧ cap ≤ maxLen ∧ AllBytes l ∧ (l = [] ∨ ∃ g off, ao = some ⟨g, off, none⟩ ∧ Lies w g off l)

/-- The code that the bytes begin with, and its size (0: none such). -/
def fcode : List Int → Int × Nat
  | [] => (0, 0)
  | [a] => if 1 ≤ a ∧ a ≤ 127 then (a, 1) else (0, 0)
  | [a, b] => if 1 ≤ a ∧ a ≤ 127 then (a, 1)
      else if a / 32 = 6 ∧ b / 64 = 2 ∧ (a % 32 * 64 + b % 64 = 0 ∨ 127 < a % 32 * 64 + b % 64) then (a % 32 * 64 + b % 64, 2) else (0, 0)
  | a :: b :: c :: _ => if 1 ≤ a ∧ a ≤ 127 then (a, 1)
      else if a / 32 = 6 ∧ b / 64 = 2 ∧ (a % 32 * 64 + b % 64 = 0 ∨ 127 < a % 32 * 64 + b % 64) then (a % 32 * 64 + b % 64, 2)
      else if a / 16 = 14 ∧ b / 64 = 2 ∧ c / 64 = 2 ∧ 2047 < a % 16 * 4096 + b % 64 * 64 + c % 64 then (a % 16 * 4096 + b % 64 * 64 + c % 64, 3) else (0, 0)

theorem fcode1 (a : Int) : fcode [a] = if 1 ≤ a ∧ a ≤ 127 then (a, 1) else (0, 0) := rfl
theorem fcode2 (a b : Int) : fcode [a, b] = if 1 ≤ a ∧ a ≤ 127 then (a, 1)
      else if a / 32 = 6 ∧ b / 64 = 2 ∧ (a % 32 * 64 + b % 64 = 0 ∨ 127 < a % 32 * 64 + b % 64) then (a % 32 * 64 + b % 64, 2) else (0, 0) := rfl
theorem fcode3 (a b c : Int) (t : List Int) : fcode (a :: b :: c :: t) = if 1 ≤ a ∧ a ≤ 127 then (a, 1)
      else if a / 32 = 6 ∧ b / 64 = 2 ∧ (a % 32 * 64 + b % 64 = 0 ∨ 127 < a % 32 * 64 + b % 64) then (a % 32 * 64 + b % 64, 2)
      else if a / 16 = 14 ∧ b / 64 = 2 ∧ c / 64 = 2 ∧ 2047 < a % 16 * 4096 + b % 64 * 64 + c % 64 then (a % 16 * 4096 + b % 64 * 64 + c % 64, 3) else (0, 0) := rfl

theorem calls_q {P : Program} {f : Nat} {args : Array Value} {w : World} {v : Value} (h : Calls P f args w fun e w' => e = .returned v ∧ w' = w) : Calls P f args w fun e w' => e = .returned v ∧ ∃ q, w' = w.drewN q :=
  h.mono fun _ _ ⟨a, b⟩ => ⟨a, 0, b⟩

theorem fc_any (v : Value) (l : List Int) (w : World) (hv : View w v l) :
    Calls Tryz.prog 181 #[v] w fun e w' => e = .returned (.tuple #[.int .i32 (fcode l).1, .int .i64 ((fcode l).2 : Nat)]) ∧ ∃ q, w' = w.drewN q := by
  obtain ⟨ao, cap, rfl, hc, hm, hb, hl⟩ := hv
  match l, hl with
  | [], _ => exact calls_q (fc_nil ao cap w)
  | [a], .inr ⟨g, off, e, hl2⟩ =>
    subst e
    have c0 := hl2 0 a rfl
    obtain ⟨a0, a1⟩ := hb a (by simp)
    by_cases h1 : 1 ≤ a ∧ a ≤ 127
    · rw [show fcode [a] = (a, 1) by simp [fcode, h1]]
      exact calls_q (fc_one g off 1 cap a w (by omega) c0 h1.1 h1.2)
    · rw [show fcode [a] = (0, 0) by simp [fcode, h1]]
      exact fc_bad1 g off cap a w c0 (by omega)
  | [a, b], .inr ⟨g, off, e, hl2⟩ =>
    subst e
    have c0 := hl2 0 a rfl
    have c1 := hl2 1 b rfl
    obtain ⟨a0, a1⟩ := hb a (by simp)
    obtain ⟨b0, b1⟩ := hb b (by simp)
    by_cases h1 : 1 ≤ a ∧ a ≤ 127
    · rw [show fcode [a, b] = (a, 1) by simp [fcode, h1]]
      exact calls_q (fc_one g off 2 cap a w (by omega) c0 h1.1 h1.2)
    · by_cases h6 : a / 32 = 6
      · by_cases hbt : b / 64 = 2
        · by_cases hr : a % 32 * 64 + b % 64 = 0 ∨ 127 < a % 32 * 64 + b % 64
          · rw [show fcode [a, b] = (a % 32 * 64 + b % 64, 2) by rw [fcode2, if_neg h1, if_pos ⟨h6, hbt, hr⟩]]
            exact fc_two g off 2 cap a b w (by omega) c0 c1 h6 hbt hr
          · rw [show fcode [a, b] = (0, 0) by rw [fcode2, if_neg h1, if_neg (by omega)]]
            exact fc_two_no g off 2 cap a b w (by omega) c0 c1 h6 hbt (by omega) (by omega)
        · rw [show fcode [a, b] = (0, 0) by rw [fcode2, if_neg h1, if_neg (by omega)]]
          exact fc_badB g off 2 cap a b w (by omega) c0 c1 h6 b0 b1 hbt
      · rw [show fcode [a, b] = (0, 0) by rw [fcode2, if_neg h1, if_neg (by omega)]]
        by_cases h14 : a / 16 = 14
        · exact fc_badC g off cap a w c0 h14
        · exact fc_badA g off 2 cap a w (by omega) c0 a0 a1 (by omega) h6 h14
  | a :: b :: c :: t, .inr ⟨g, off, e, hl2⟩ =>
    subst e
    have c0 := hl2 0 a rfl
    have c1 := hl2 1 b rfl
    have c2 := hl2 2 c rfl
    obtain ⟨a0, a1⟩ := hb a (by simp)
    obtain ⟨b0, b1⟩ := hb b (by simp)
    obtain ⟨c0', c1'⟩ := hb c (by simp)
    have hn : 3 ≤ (a :: b :: c :: t).length := by simp
    by_cases h1 : 1 ≤ a ∧ a ≤ 127
    · rw [show fcode (a :: b :: c :: t) = (a, 1) by simp [fcode, h1]]
      exact calls_q (fc_one g off _ cap a w (by omega) c0 h1.1 h1.2)
    · by_cases h6 : a / 32 = 6
      · by_cases hbt : b / 64 = 2
        · by_cases hr : a % 32 * 64 + b % 64 = 0 ∨ 127 < a % 32 * 64 + b % 64
          · rw [show fcode (a :: b :: c :: t) = (a % 32 * 64 + b % 64, 2) by rw [fcode3, if_neg h1, if_pos ⟨h6, hbt, hr⟩]]
            exact fc_two g off _ cap a b w (by omega) c0 c1 h6 hbt hr
          · rw [show fcode (a :: b :: c :: t) = (0, 0) by rw [fcode3, if_neg h1, if_neg (by omega), if_neg (by omega)]]
            exact fc_two_no g off _ cap a b w (by omega) c0 c1 h6 hbt (by omega) (by omega)
        · rw [show fcode (a :: b :: c :: t) = (0, 0) by rw [fcode3, if_neg h1, if_neg (by omega), if_neg (by omega)]]
          exact fc_badB g off _ cap a b w (by omega) c0 c1 h6 b0 b1 hbt
      · by_cases h14 : a / 16 = 14
        · by_cases hbc : b / 64 = 2 ∧ c / 64 = 2
          · by_cases hr : 2047 < a % 16 * 4096 + b % 64 * 64 + c % 64
            · rw [show fcode (a :: b :: c :: t) = (a % 16 * 4096 + b % 64 * 64 + c % 64, 3) by rw [fcode3, if_neg h1, if_neg (by omega), if_pos ⟨h14, hbc.1, hbc.2, hr⟩]]
              exact fc_three g off _ cap a b c w hn c0 c1 c2 h14 hbc.1 hbc.2 hr
            · rw [show fcode (a :: b :: c :: t) = (0, 0) by rw [fcode3, if_neg h1, if_neg (by omega), if_neg (by omega)]]
              exact fc_three_no g off _ cap a b c w hn c0 c1 c2 h14 hbc.1 hbc.2 (by omega)
          · rw [show fcode (a :: b :: c :: t) = (0, 0) by rw [fcode3, if_neg h1, if_neg (by omega), if_neg (by omega)]]
            exact fc_badD g off _ cap a b c w hn c0 c1 c2 h14 b0 b1 c0' c1' (by omega)
        · rw [show fcode (a :: b :: c :: t) = (0, 0) by rw [fcode3, if_neg h1, if_neg (by omega), if_neg (by omega)]]
          exact fc_badA g off _ cap a w (by omega) c0 a0 a1 (by omega) h6 h14

/-- What a code is: of one, two or three bytes, in its range. -/
theorem fcode_range (l : List Int) (hb : AllBytes l) : (fcode l).2 ≤ l.length ∧ 0 ≤ (fcode l).1 ∧ (fcode l).1 ≤ 65535 ∧ ((fcode l).2 = 0 → (fcode l).1 = 0) ∧ (2047 < (fcode l).1 → (fcode l).2 = 3) ∧ (fcode l).2 ≤ 3 := by
  match l with
  | [] => simp [fcode]
  | [a] =>
    obtain ⟨a0, a1⟩ := hb a (by simp)
    rw [fcode1]; split <;> simp <;> omega
  | [a, b] =>
    obtain ⟨a0, a1⟩ := hb a (by simp)
    obtain ⟨b0, b1⟩ := hb b (by simp)
    rw [fcode2]; split
    · simp; omega
    · split <;> simp <;> omega
  | a :: b :: c :: t =>
    obtain ⟨a0, a1⟩ := hb a (by simp)
    obtain ⟨b0, b1⟩ := hb b (by simp)
    obtain ⟨c0', c1'⟩ := hb c (by simp)
    rw [fcode3]; split
    · simp; omega
    · split
      · simp; omega
      · split <;> simp <;> omega

theorem View.drewN {w : World} {v : Value} {l : List Int} (h : View w v l) (q : Nat) : View (w.drewN q) v l := h

/-- The rune that the bytes begin with, and its size (0: none such). -/
def frune (l : List Int) : Int × Nat :=
  if (fcode l).1 < 55296 ∨ 57344 ≤ (fcode l).1 then fcode l
  else if 56320 ≤ (fcode l).1 then (0, 0)
  else if (fcode (l.drop 3)).1 < 56320 ∨ 57344 ≤ (fcode (l.drop 3)).1 then (0, 0)
  else (65536 + ((fcode l).1 - 55296) * 1024 + ((fcode (l.drop 3)).1 - 56320), 6)

set_option maxRecDepth 8000 in
set_option maxHeartbeats 800000 in
theorem fr_any (v : Value) (l : List Int) (w : World) (hv : View w v l) :
    Calls Tryz.prog 157 #[v] w fun e w' => e = .returned (.tuple #[.int .i32 (frune l).1, .int .i64 ((frune l).2 : Nat)]) ∧ ∃ q, w' = w.drewN q := by
  have hf := fc_any v l w hv
  have hfr : frune l = if (fcode l).1 < 55296 ∨ 57344 ≤ (fcode l).1 then fcode l
      else if 56320 ≤ (fcode l).1 then (0, 0)
      else if (fcode (l.drop 3)).1 < 56320 ∨ 57344 ≤ (fcode (l.drop 3)).1 then (0, 0)
      else (65536 + ((fcode l).1 - 55296) * 1024 + ((fcode (l.drop 3)).1 - 56320), 6) := rfl
  rw [hfr]
  have hrg := fcode_range l (by obtain ⟨_, _, _, _, _, h, _⟩ := hv; exact h)
  generalize hc : fcode l = rc at *
  obtain ⟨r, k⟩ := rc
  simp only at hrg ⊢ hf
  clear hc hfr
  by_cases h1 : r < 55296
  · rw [if_pos (.inl h1)]
    go_enter Tryz.func157, Tryz.ntmps157
    go_wp2_with (go_at_call 181; refine hf.mono ?_; rintro e w' ⟨rfl, q, rfl⟩)
    go_ret2
    exact ⟨rfl, q, rfl⟩
  · by_cases h2 : 57344 ≤ r
    · rw [if_pos (.inr h2)]
      go_enter Tryz.func157, Tryz.ntmps157
      go_wp2_with (go_at_call 181; refine hf.mono ?_; rintro e w' ⟨rfl, q, rfl⟩)
      go_ret2
      exact ⟨rfl, q, rfl⟩
    · rw [if_neg (by omega)]
      by_cases h3 : 56320 ≤ r
      · rw [if_pos h3]
        go_enter Tryz.func157, Tryz.ntmps157
        go_wp2_with (go_at_call 181; refine hf.mono ?_; rintro e w' ⟨rfl, q, rfl⟩)
        go_ret2
        exact ⟨rfl, q, rfl⟩
      · rw [if_neg h3]
        obtain ⟨hk, -, -, -, hk3, -⟩ := hrg
        obtain rfl := hk3 (by omega)
        clear hk3
        obtain ⟨ao, cap, rfl, hcp, hm, hb, hl⟩ := hv
        obtain ⟨g, off, rfl, hl2⟩ : ∃ g off, ao = some ⟨g, off, none⟩ ∧ Lies w g off l := by
          rcases hl with e | h
          · rw [e] at hk; simp at hk
          · exact h
        generalize hL : l.length = L at *
        have hv2 : ∀ ao', (L = 3 ∨ ao' = some ⟨g, off + 3, none⟩) → View w (.slice ao' (L - 3) (cap - 3)) (l.drop 3) := by
          intro ao' hao
          refine ⟨ao', cap - 3, by simp [hL], by simp [hL]; omega, by omega, fun x hx => hb x (List.mem_of_mem_drop hx), ?_⟩
          rcases hao with h | h
          · left; exact List.drop_eq_nil_of_le (by omega)
          · right
            refine ⟨g, off + 3, h, fun j x hj => ?_⟩
            rw [List.getElem?_drop] at hj
            rw [Nat.add_assoc]; exact hl2 _ _ hj
        have hf2 : ∀ ao' q, (L = 3 ∨ ao' = some ⟨g, off + 3, none⟩) → Calls Tryz.prog 181 #[.slice ao' (L - 3) (cap - 3)] (w.drewN q) fun e w' => e = .returned (.tuple #[.int .i32 (fcode (l.drop 3)).1, .int .i64 ((fcode (l.drop 3)).2 : Nat)]) ∧ ∃ q', w' = (w.drewN q).drewN q' :=
          fun ao' q h => fc_any _ _ _ ((hv2 ao' h).drewN q)
        have hrg2 := fcode_range (l.drop 3) (fun x hx => hb x (List.mem_of_mem_drop hx))
        clear hv2 hl hl2
        generalize fcode (l.drop 3) = rc2 at *
        obtain ⟨low, more⟩ := rc2
        simp only at hrg2 hf2 ⊢
        obtain ⟨-, hlow0, -, -, hm3, -⟩ := hrg2
        clear hb hm hL l
        have H2 : Hid (∀ ao' q, (L = 3 ∨ ao' = some ⟨g, off + 3, none⟩) → Calls Tryz.prog 181 #[.slice ao' (L - 3) (cap - 3)] (w.drewN q) fun e w' => e = .returned (.tuple #[.int .i32 low, .int .i64 (more : Nat)]) ∧ ∃ q', w' = (w.drewN q).drewN q') := hf2
        have H1 : Hid (Calls Tryz.prog 181 #[.slice (some ⟨g, off, none⟩) L cap] w fun e w' => e = .returned (.tuple #[.int .i32 r, .int .i64 (3 : Nat)]) ∧ ∃ q, w' = w.drewN q) := hf
        clear hf hf2
        have hk' : (3 : Int) ≤ (L : Int) := by omega
        have hcases : low < 56320 ∨ 57344 ≤ low ∨ (56320 ≤ low ∧ low < 57344) := by omega
        by_cases hcap : cap = 3
        · subst hcap
          obtain rfl : L = 3 := by omega
          rcases hcases with h4 | h4 | ⟨h4, h5⟩
          · rw [if_pos (.inl h4)]
            clear hm3
            go_enter Tryz.func157, Tryz.ntmps157
            go_wp2_with fail
            refine H1.out.mono ?_
            rintro e w' ⟨rfl, q, rfl⟩
            go_wp2_with fail
            refine (H2.out _ _ (by simp)).mono ?_
            rintro e w' ⟨rfl, q2, rfl⟩
            go_wp2
            go_ret2
            exact ⟨rfl, _, rfl⟩
          · rw [if_pos (.inr h4)]
            clear hm3
            go_enter Tryz.func157, Tryz.ntmps157
            go_wp2_with fail
            refine H1.out.mono ?_
            rintro e w' ⟨rfl, q, rfl⟩
            go_wp2_with fail
            refine (H2.out _ _ (by simp)).mono ?_
            rintro e w' ⟨rfl, q2, rfl⟩
            go_wp2
            go_ret2
            exact ⟨rfl, _, rfl⟩
          · rw [if_neg (by omega)]
            obtain rfl := hm3 (by omega)
            clear hm3
            go_enter Tryz.func157, Tryz.ntmps157
            go_wp2_with fail
            refine H1.out.mono ?_
            rintro e w' ⟨rfl, q, rfl⟩
            go_wp2_with fail
            refine (H2.out _ _ (by simp)).mono ?_
            rintro e w' ⟨rfl, q2, rfl⟩
            go_wp2
            go_ret2
            exact ⟨rfl, _, rfl⟩
        · rcases hcases with h4 | h4 | ⟨h4, h5⟩
          · rw [if_pos (.inl h4)]
            clear hm3
            go_enter Tryz.func157, Tryz.ntmps157
            go_wp2_with fail
            refine H1.out.mono ?_
            rintro e w' ⟨rfl, q, rfl⟩
            go_wp2_with fail
            refine (H2.out _ _ (.inr rfl)).mono ?_
            rintro e w' ⟨rfl, q2, rfl⟩
            go_wp2
            go_ret2
            exact ⟨rfl, _, rfl⟩
          · rw [if_pos (.inr h4)]
            clear hm3
            go_enter Tryz.func157, Tryz.ntmps157
            go_wp2_with fail
            refine H1.out.mono ?_
            rintro e w' ⟨rfl, q, rfl⟩
            go_wp2_with fail
            refine (H2.out _ _ (.inr rfl)).mono ?_
            rintro e w' ⟨rfl, q2, rfl⟩
            go_wp2
            go_ret2
            exact ⟨rfl, _, rfl⟩
          · rw [if_neg (by omega)]
            obtain rfl := hm3 (by omega)
            clear hm3
            go_enter Tryz.func157, Tryz.ntmps157
            go_wp2_with fail
            refine H1.out.mono ?_
            rintro e w' ⟨rfl, q, rfl⟩
            go_wp2_with fail
            refine (H2.out _ _ (.inr rfl)).mono ?_
            rintro e w' ⟨rfl, q2, rfl⟩
            go_wp2
            go_ret2
            exact ⟨rfl, _, rfl⟩
end Go.Proofs.YthagaldpopnoeaaGreatDoor
