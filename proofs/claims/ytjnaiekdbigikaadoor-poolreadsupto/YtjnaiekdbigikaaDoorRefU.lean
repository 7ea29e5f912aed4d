/- The document's own unit: the number that begins at a place, and its bytes. -/
import Derived.Test.YtjnaiekdbigikaaDoorRef
namespace Go.Proofs.YtjnaiekdbigikaaDoor
open Go.RowKit

/-- The number that the bytes begin with, and how many bytes it has (0: none). -/
def unitZ : List Int → Int × Nat
  | [] => (0, 0)
  | a :: t => if 1 ≤ a ∧ a ≤ 127 then (a, 1)
      else if a / 32 = 6 then (match t with | b :: _ => if b / 64 = 2 then (a % 32 * 64 + b % 64, 2) else (0, 0) | [] => (0, 0))
      else if a / 16 = 14 then (match t with | b :: c :: _ => if b / 64 = 2 ∧ c / 64 = 2 then (a % 16 * 4096 + b % 64 * 64 + c % 64, 3) else (0, 0) | _ => (0, 0))
      else (0, 0)

theorem unitZ_cons (a : Int) (t : List Int) : unitZ (a :: t) = if 1 ≤ a ∧ a ≤ 127 then (a, 1)
      else if a / 32 = 6 then (match t with | b :: _ => if b / 64 = 2 then (a % 32 * 64 + b % 64, 2) else (0, 0) | [] => (0, 0))
      else if a / 16 = 14 then (match t with | b :: c :: _ => if b / 64 = 2 ∧ c / 64 = 2 then (a % 16 * 4096 + b % 64 * 64 + c % 64, 3) else (0, 0) | _ => (0, 0))
      else (0, 0) := rfl

set_option maxRecDepth 8000 in
set_option maxHeartbeats 800000 in
theorem unit_one (g off n cap : Nat) (k : Nat) (a : Int) (w : World) (hk : k < n) (h0 : w.cell? ⟨g, off + k, none⟩ = some (.int .u8 a)) (ha0 : 1 ≤ a) (ha1 : a ≤ 127) :
    Calls Tryd.prog 80 #[.slice (some ⟨g, off, none⟩) n cap, .int .i64 (k : Int)] w fun e w' => e = .returned (.tuple #[.int .i64 a, .int .i64 1]) ∧ w' = w := by
  have hk' : (k : Int) < (n : Int) := by omega
  have a1 : 0 < a := by omega
  have a2 : a < 128 := by omega
  go_enter Tryd.func80, Tryd.ntmps80
  go_wp2
  go_ret2
  exact ⟨rfl, rfl⟩
set_option maxRecDepth 8000 in
set_option maxHeartbeats 800000 in
theorem unit_none (g off n cap : Nat) (k : Nat) (a : Int) (w : World) (hk : k < n) (h0 : w.cell? ⟨g, off + k, none⟩ = some (.int .u8 a)) (ha0 : 0 ≤ a) (ha1 : a ≤ 255) (ha : a < 1 ∨ 127 < a) (h6 : ¬ a / 32 = 6) (h14 : ¬ a / 16 = 14) :
    Calls Tryd.prog 80 #[.slice (some ⟨g, off, none⟩) n cap, .int .i64 (k : Int)] w fun e w' => e = .returned (.tuple #[.int .i64 0, .int .i64 0]) ∧ w' = w := by
  have hk' : (k : Int) < (n : Int) := by omega
  have e1 : (a / 32 == 6) = false := by simpa using h6
  have e2 : (a / 16 == 14) = false := by simpa using h14
  rcases ha with ha | ha
  · have a1 : ¬ 0 < a := by omega
    go_enter Tryd.func80, Tryd.ntmps80
    go_wp2
    go_ret2
    exact ⟨rfl, rfl⟩
  · have a1 : 0 < a := by omega
    have a2 : ¬ a < 128 := by omega
    go_enter Tryd.func80, Tryd.ntmps80
    go_wp2
    go_ret2
    exact ⟨rfl, rfl⟩
set_option maxRecDepth 8000 in
set_option maxHeartbeats 800000 in
/-- A first byte of two, and no byte behind it. -/
theorem unit_short2 (g off n cap : Nat) (k : Nat) (a : Int) (w : World) (hk : k < n) (hs : n < k + 2) (hn : n ≤ 4294967296) (h0 : w.cell? ⟨g, off + k, none⟩ = some (.int .u8 a)) (h6 : a / 32 = 6) :
    Calls Tryd.prog 80 #[.slice (some ⟨g, off, none⟩) n cap, .int .i64 (k : Int)] w fun e w' => e = .returned (.tuple #[.int .i64 0, .int .i64 0]) ∧ w' = w := by
  have hk' : (k : Int) < (n : Int) := by omega
  have hs' : (n : Int) < (k : Int) + 2 := by omega
  have a1 : 0 < a := by omega
  have a2 : ¬ a < 128 := by omega
  have e1 : (a / 32 == 6) = true := by simpa using h6
  have e3 := i64_and31 a (by omega) (by omega)
  go_enter Tryd.func80, Tryd.ntmps80
  go_wp2
  go_ret2
  exact ⟨rfl, rfl⟩
set_option maxRecDepth 8000 in
set_option maxHeartbeats 800000 in
theorem unit_short3 (g off n cap : Nat) (k : Nat) (a : Int) (w : World) (hk : k < n) (hs : n < k + 3) (hn : n ≤ 4294967296) (h0 : w.cell? ⟨g, off + k, none⟩ = some (.int .u8 a)) (h14 : a / 16 = 14) :
    Calls Tryd.prog 80 #[.slice (some ⟨g, off, none⟩) n cap, .int .i64 (k : Int)] w fun e w' => e = .returned (.tuple #[.int .i64 0, .int .i64 0]) ∧ w' = w := by
  have hk' : (k : Int) < (n : Int) := by omega
  have hs' : (n : Int) < (k : Int) + 3 := by omega
  have a1 : 0 < a := by omega
  have a2 : ¬ a < 128 := by omega
  have e1 : (a / 32 == 6) = false := by simp; omega
  have e2 : (a / 16 == 14) = true := by simpa using h14
  have e3 := i64_and15 a (by omega) (by omega)
  go_enter Tryd.func80, Tryd.ntmps80
  go_wp2
  go_ret2
  exact ⟨rfl, rfl⟩
set_option maxRecDepth 8000 in
set_option maxHeartbeats 1600000 in
theorem unit_two (g off n cap : Nat) (k : Nat) (a b : Int) (w : World) (hk : k + 2 ≤ n) (hn : n ≤ 4294967296) (h0 : w.cell? ⟨g, off + k, none⟩ = some (.int .u8 a)) (h1 : w.cell? ⟨g, off + (k + 1), none⟩ = some (.int .u8 b)) (h6 : a / 32 = 6) (hbt : b / 64 = 2) :
    Calls Tryd.prog 80 #[.slice (some ⟨g, off, none⟩) n cap, .int .i64 (k : Int)] w fun e w' => e = .returned (.tuple #[.int .i64 (a % 32 * 64 + b % 64), .int .i64 2]) ∧ w' = w := by
  have ebt : (b / 64 != 2) = false := by simp [hbt]
  have e5 : bits .or .i64 (a % 32 * 64) (b % 64) = a % 32 * 64 + b % 64 := bits_join .i64 62 (by decide) wraps_i63 6 _ _ (by omega) (by omega) (by omega) (by omega) (by omega) (by omega)
  have hk' : (k : Int) < (n : Int) := by omega
  have hk2 : ¬ (n : Int) < (k : Int) + 2 := by omega
  have hk3 : (k : Int) + 1 < (n : Int) := by omega
  have a1 : 0 < a := by omega
  have a2 : ¬ a < 128 := by omega
  have e1 : (a / 32 == 6) = true := by simpa using h6
  have e3 := i64_and31 a (by omega) (by omega)
  have hadd : ((k : Int) + 1).toNat = k + 1 := by omega
  go_enter Tryd.func80, Tryd.ntmps80
  go_wp2
  go_loop [7, 9] (fun m i => (i = .int .i64 1 ∧ m = .int .i64 (a % 32)) ∨ (i = .int .i64 2 ∧ m = .int .i64 (a % 32 * 64 + b % 64))) (fun _ i => 2 - (intOf i).toNat)
  case atStart => exact .inl ⟨rfl, rfl⟩
  case round =>
    rcases hrel with ⟨rfl, rfl⟩ | ⟨rfl, rfl⟩
    · go_wp2
      exact ⟨.inr ⟨rfl, rfl⟩, by simp [intOf]⟩
    · go_wp2
      go_ret2
      exact ⟨rfl, rfl⟩
set_option maxRecDepth 8000 in
set_option maxHeartbeats 1600000 in
theorem unit_two_no (g off n cap : Nat) (k : Nat) (a b : Int) (w : World) (hk : k + 2 ≤ n) (hn : n ≤ 4294967296) (h0 : w.cell? ⟨g, off + k, none⟩ = some (.int .u8 a)) (h1 : w.cell? ⟨g, off + (k + 1), none⟩ = some (.int .u8 b)) (h6 : a / 32 = 6) (hbt : ¬ b / 64 = 2) :
    Calls Tryd.prog 80 #[.slice (some ⟨g, off, none⟩) n cap, .int .i64 (k : Int)] w fun e w' => e = .returned (.tuple #[.int .i64 0, .int .i64 0]) ∧ w' = w := by
  have ebt : (b / 64 != 2) = true := by simp [hbt]
  have hk' : (k : Int) < (n : Int) := by omega
  have hk2 : ¬ (n : Int) < (k : Int) + 2 := by omega
  have hk3 : (k : Int) + 1 < (n : Int) := by omega
  have a1 : 0 < a := by omega
  have a2 : ¬ a < 128 := by omega
  have e1 : (a / 32 == 6) = true := by simpa using h6
  have e3 := i64_and31 a (by omega) (by omega)
  have hadd : ((k : Int) + 1).toNat = k + 1 := by omega
  go_enter Tryd.func80, Tryd.ntmps80
  go_wp2
  go_loop [7, 9] (fun m i => i = .int .i64 1 ∧ m = .int .i64 (a % 32)) (fun _ i => 2 - (intOf i).toNat)
  case atStart => exact ⟨rfl, rfl⟩
  case round =>
    obtain ⟨rfl, rfl⟩ := hrel
    go_wp2
    go_ret2
    exact ⟨rfl, rfl⟩
set_option maxRecDepth 8000 in
set_option maxHeartbeats 1600000 in
theorem unit_three (g off n cap : Nat) (k : Nat) (a b c : Int) (w : World) (hk : k + 3 ≤ n) (hn : n ≤ 4294967296) (h0 : w.cell? ⟨g, off + k, none⟩ = some (.int .u8 a)) (h1 : w.cell? ⟨g, off + (k + 1), none⟩ = some (.int .u8 b)) (h2 : w.cell? ⟨g, off + (k + 2), none⟩ = some (.int .u8 c)) (h14 : a / 16 = 14) (hbt : b / 64 = 2) (hct : c / 64 = 2) :
    Calls Tryd.prog 80 #[.slice (some ⟨g, off, none⟩) n cap, .int .i64 (k : Int)] w fun e w' => e = .returned (.tuple #[.int .i64 (a % 16 * 4096 + b % 64 * 64 + c % 64), .int .i64 3]) ∧ w' = w := by
  have ebt : (b / 64 != 2) = false := by simp [hbt]
  have ect : (c / 64 != 2) = false := by simp [hct]
  have e5 : bits .or .i64 (a % 16 * 64) (b % 64) = a % 16 * 64 + b % 64 := bits_join .i64 62 (by decide) wraps_i63 6 _ _ (by omega) (by omega) (by omega) (by omega) (by omega) (by omega)
  have e6 : bits .or .i64 ((a % 16 * 64 + b % 64) * 64) (c % 64) = (a % 16 * 64 + b % 64) * 64 + c % 64 := bits_join .i64 62 (by decide) wraps_i63 6 _ _ (by omega) (by omega) (by omega) (by omega) (by omega) (by omega)
  have hk' : (k : Int) < (n : Int) := by omega
  have hk2 : ¬ (n : Int) < (k : Int) + 3 := by omega
  have hk3 : (k : Int) + 1 < (n : Int) := by omega
  have hk4 : (k : Int) + 2 < (n : Int) := by omega
  have a1 : 0 < a := by omega
  have a2 : ¬ a < 128 := by omega
  have e1 : (a / 32 == 6) = false := by simp; omega
  have e2 : (a / 16 == 14) = true := by simpa using h14
  have e3 := i64_and15 a (by omega) (by omega)
  have hadd : ((k : Int) + 1).toNat = k + 1 := by omega
  have hadd2 : ((k : Int) + 2).toNat = k + 2 := by omega
  go_enter Tryd.func80, Tryd.ntmps80
  go_wp2
  go_loop [7, 9] (fun m i => (i = .int .i64 1 ∧ m = .int .i64 (a % 16)) ∨ (i = .int .i64 2 ∧ m = .int .i64 (a % 16 * 64 + b % 64)) ∨ (i = .int .i64 3 ∧ m = .int .i64 ((a % 16 * 64 + b % 64) * 64 + c % 64))) (fun _ i => 3 - (intOf i).toNat)
  case atStart => exact .inl ⟨rfl, rfl⟩
  case round =>
    rcases hrel with ⟨rfl, rfl⟩ | ⟨rfl, rfl⟩ | ⟨rfl, rfl⟩
    · go_wp2
      exact ⟨.inr (.inl ⟨rfl, rfl⟩), by simp [intOf]⟩
    · go_wp2
      exact ⟨.inr (.inr ⟨rfl, rfl⟩), by simp [intOf]⟩
    · go_wp2
      go_ret2
      refine ⟨?_, rfl⟩
      show Ending.returned (.tuple #[.int .i64 ((a % 16 * 64 + b % 64) * 64 + c % 64), .int .i64 3]) = _
      rw [show (a % 16 * 64 + b % 64) * 64 + c % 64 = a % 16 * 4096 + b % 64 * 64 + c % 64 by omega]
set_option maxRecDepth 8000 in
set_option maxHeartbeats 1600000 in
theorem unit_three_no1 (g off n cap : Nat) (k : Nat) (a b : Int) (w : World) (hk : k + 3 ≤ n) (hn : n ≤ 4294967296) (h0 : w.cell? ⟨g, off + k, none⟩ = some (.int .u8 a)) (h1 : w.cell? ⟨g, off + (k + 1), none⟩ = some (.int .u8 b)) (h14 : a / 16 = 14) (hbt : ¬ b / 64 = 2) :
    Calls Tryd.prog 80 #[.slice (some ⟨g, off, none⟩) n cap, .int .i64 (k : Int)] w fun e w' => e = .returned (.tuple #[.int .i64 0, .int .i64 0]) ∧ w' = w := by
  have ebt : (b / 64 != 2) = true := by simp [hbt]
  have hk' : (k : Int) < (n : Int) := by omega
  have hk2 : ¬ (n : Int) < (k : Int) + 3 := by omega
  have hk3 : (k : Int) + 1 < (n : Int) := by omega
  have hk4 : (k : Int) + 2 < (n : Int) := by omega
  have a1 : 0 < a := by omega
  have a2 : ¬ a < 128 := by omega
  have e1 : (a / 32 == 6) = false := by simp; omega
  have e2 : (a / 16 == 14) = true := by simpa using h14
  have e3 := i64_and15 a (by omega) (by omega)
  have hadd : ((k : Int) + 1).toNat = k + 1 := by omega
  have hadd2 : ((k : Int) + 2).toNat = k + 2 := by omega
  go_enter Tryd.func80, Tryd.ntmps80
  go_wp2
  go_loop [7, 9] (fun m i => i = .int .i64 1 ∧ m = .int .i64 (a % 16)) (fun _ i => 2 - (intOf i).toNat)
  case atStart => exact ⟨rfl, rfl⟩
  case round =>
    obtain ⟨rfl, rfl⟩ := hrel
    go_wp2
    go_ret2
    exact ⟨rfl, rfl⟩
set_option maxRecDepth 8000 in
set_option maxHeartbeats 1600000 in
theorem unit_three_no2 (g off n cap : Nat) (k : Nat) (a b c : Int) (w : World) (hk : k + 3 ≤ n) (hn : n ≤ 4294967296) (h0 : w.cell? ⟨g, off + k, none⟩ = some (.int .u8 a)) (h1 : w.cell? ⟨g, off + (k + 1), none⟩ = some (.int .u8 b)) (h2 : w.cell? ⟨g, off + (k + 2), none⟩ = some (.int .u8 c)) (h14 : a / 16 = 14) (hbt : b / 64 = 2) (hct : ¬ c / 64 = 2) :
    Calls Tryd.prog 80 #[.slice (some ⟨g, off, none⟩) n cap, .int .i64 (k : Int)] w fun e w' => e = .returned (.tuple #[.int .i64 0, .int .i64 0]) ∧ w' = w := by
  have ebt : (b / 64 != 2) = false := by simp [hbt]
  have ect : (c / 64 != 2) = true := by simp [hct]
  have e5 : bits .or .i64 (a % 16 * 64) (b % 64) = a % 16 * 64 + b % 64 := bits_join .i64 62 (by decide) wraps_i63 6 _ _ (by omega) (by omega) (by omega) (by omega) (by omega) (by omega)
  have hk' : (k : Int) < (n : Int) := by omega
  have hk2 : ¬ (n : Int) < (k : Int) + 3 := by omega
  have hk3 : (k : Int) + 1 < (n : Int) := by omega
  have hk4 : (k : Int) + 2 < (n : Int) := by omega
  have a1 : 0 < a := by omega
  have a2 : ¬ a < 128 := by omega
  have e1 : (a / 32 == 6) = false := by simp; omega
  have e2 : (a / 16 == 14) = true := by simpa using h14
  have e3 := i64_and15 a (by omega) (by omega)
  have hadd : ((k : Int) + 1).toNat = k + 1 := by omega
  have hadd2 : ((k : Int) + 2).toNat = k + 2 := by omega
  go_enter Tryd.func80, Tryd.ntmps80
  go_wp2
  go_loop [7, 9] (fun m i => (i = .int .i64 1 ∧ m = .int .i64 (a % 16)) ∨ (i = .int .i64 2 ∧ m = .int .i64 (a % 16 * 64 + b % 64))) (fun _ i => 3 - (intOf i).toNat)
  case atStart => exact .inl ⟨rfl, rfl⟩
  case round =>
    rcases hrel with ⟨rfl, rfl⟩ | ⟨rfl, rfl⟩
    · go_wp2
      exact ⟨.inr ⟨rfl, rfl⟩, by simp [intOf]⟩
    · go_wp2
      go_ret2
      exact ⟨rfl, rfl⟩

theorem unit_any (v : Value) (l : List Int) (k : Nat) (w : World) (hv : View w v l) (hk : k < l.length) (hn : l.length ≤ 4294967296) :
    Calls Tryd.prog 80 #[v, .int .i64 (k : Int)] w fun e w' => e = .returned (.tuple #[.int .i64 (unitZ (l.drop k)).1, .int .i64 ((unitZ (l.drop k)).2 : Nat)]) ∧ w' = w := by
  obtain ⟨ao, cap, rfl, hc, hm, hb, hl⟩ := hv
  obtain ⟨g, off, rfl, hl2⟩ : ∃ g off, ao = some ⟨g, off, none⟩ ∧ Lies w g off l := by
    rcases hl with e | h
    · rw [e] at hk; simp at hk
    · exact h
  clear hl
  have hcell : ∀ j x, (l.drop k)[j]? = some x → w.cell? ⟨g, off + (k + j), none⟩ = some (.int .u8 x) := fun j x hj => by
    rw [List.getElem?_drop] at hj; exact hl2 _ _ hj
  have hbd : AllBytes (l.drop k) := fun x hx => hb x (List.mem_of_mem_drop hx)
  have hlen : (l.drop k).length = l.length - k := List.length_drop ..
  generalize l.drop k = d at *
  match d with
  | [] => simp at hlen; omega
  | [a] =>
    have c0 := hcell 0 a rfl
    obtain ⟨a0, a1⟩ := hbd a (by simp)
    simp at hlen
    by_cases h1 : 1 ≤ a ∧ a ≤ 127
    · rw [show unitZ [a] = (a, 1) by rw [unitZ_cons, if_pos h1]]
      exact unit_one g off _ cap k a w hk c0 h1.1 h1.2
    · by_cases h6 : a / 32 = 6
      · rw [show unitZ [a] = (0, 0) by rw [unitZ_cons, if_neg h1, if_pos h6]]
        exact unit_short2 g off _ cap k a w hk (by omega) hn c0 h6
      · by_cases h14 : a / 16 = 14
        · rw [show unitZ [a] = (0, 0) by rw [unitZ_cons, if_neg h1, if_neg h6, if_pos h14]]
          exact unit_short3 g off _ cap k a w hk (by omega) hn c0 h14
        · rw [show unitZ [a] = (0, 0) by rw [unitZ_cons, if_neg h1, if_neg h6, if_neg h14]]
          exact unit_none g off _ cap k a w hk c0 a0 a1 (by omega) h6 h14
  | [a, b] =>
    have c0 := hcell 0 a rfl
    have c1 := hcell 1 b rfl
    obtain ⟨a0, a1⟩ := hbd a (by simp)
    simp at hlen
    by_cases h1 : 1 ≤ a ∧ a ≤ 127
    · rw [show unitZ [a, b] = (a, 1) by rw [unitZ_cons, if_pos h1]]
      exact unit_one g off _ cap k a w hk c0 h1.1 h1.2
    · by_cases h6 : a / 32 = 6
      · by_cases hbt : b / 64 = 2
        · rw [show unitZ [a, b] = (a % 32 * 64 + b % 64, 2) by rw [unitZ_cons, if_neg h1, if_pos h6]; simp only; rw [if_pos hbt]]
          exact unit_two g off _ cap k a b w (by omega) hn c0 c1 h6 hbt
        · rw [show unitZ [a, b] = (0, 0) by rw [unitZ_cons, if_neg h1, if_pos h6]; simp only; rw [if_neg hbt]]
          exact unit_two_no g off _ cap k a b w (by omega) hn c0 c1 h6 hbt
      · by_cases h14 : a / 16 = 14
        · rw [show unitZ [a, b] = (0, 0) by rw [unitZ_cons, if_neg h1, if_neg h6, if_pos h14]]
          exact unit_short3 g off _ cap k a w hk (by omega) hn c0 h14
        · rw [show unitZ [a, b] = (0, 0) by rw [unitZ_cons, if_neg h1, if_neg h6, if_neg h14]]
          exact unit_none g off _ cap k a w hk c0 a0 a1 (by omega) h6 h14
  | a :: b :: c :: t =>
    have c0 := hcell 0 a rfl
    have c1 := hcell 1 b rfl
    have c2 := hcell 2 c rfl
    obtain ⟨a0, a1⟩ := hbd a (by simp)
    simp at hlen
    by_cases h1 : 1 ≤ a ∧ a ≤ 127
    · rw [show unitZ (a :: b :: c :: t) = (a, 1) by rw [unitZ_cons, if_pos h1]]
      exact unit_one g off _ cap k a w hk c0 h1.1 h1.2
    · by_cases h6 : a / 32 = 6
      · by_cases hbt : b / 64 = 2
        · rw [show unitZ (a :: b :: c :: t) = (a % 32 * 64 + b % 64, 2) by rw [unitZ_cons, if_neg h1, if_pos h6]; simp only; rw [if_pos hbt]]
          exact unit_two g off _ cap k a b w (by omega) hn c0 c1 h6 hbt
        · rw [show unitZ (a :: b :: c :: t) = (0, 0) by rw [unitZ_cons, if_neg h1, if_pos h6]; simp only; rw [if_neg hbt]]
          exact unit_two_no g off _ cap k a b w (by omega) hn c0 c1 h6 hbt
      · by_cases h14 : a / 16 = 14
        · by_cases hbt : b / 64 = 2
          · by_cases hct : c / 64 = 2
            · rw [show unitZ (a :: b :: c :: t) = (a % 16 * 4096 + b % 64 * 64 + c % 64, 3) by rw [unitZ_cons, if_neg h1, if_neg h6, if_pos h14]; simp only; rw [if_pos ⟨hbt, hct⟩]]
              exact unit_three g off _ cap k a b c w (by omega) hn c0 c1 c2 h14 hbt hct
            · rw [show unitZ (a :: b :: c :: t) = (0, 0) by rw [unitZ_cons, if_neg h1, if_neg h6, if_pos h14]; simp only; rw [if_neg (fun h => hct h.2)]]
              exact unit_three_no2 g off _ cap k a b c w (by omega) hn c0 c1 c2 h14 hbt hct
          · rw [show unitZ (a :: b :: c :: t) = (0, 0) by rw [unitZ_cons, if_neg h1, if_neg h6, if_pos h14]; simp only; rw [if_neg (fun h => hbt h.1)]]
            exact unit_three_no1 g off _ cap k a b w (by omega) hn c0 c1 h14 hbt
        · rw [show unitZ (a :: b :: c :: t) = (0, 0) by rw [unitZ_cons, if_neg h1, if_neg h6, if_neg h14]]
          exact unit_none g off _ cap k a w hk c0 a0 a1 (by omega) h6 h14

theorem unit_mcode (c : Int) (t : List Int) (h0 : 0 ≤ c) (h1 : c ≤ 65535) : unitZ (mcode c ++ t) = (c, (mcode c).length) := by
  by_cases h : 1 ≤ c ∧ c ≤ 127
  · rw [mcode1 h]
    show unitZ (c :: t) = _
    rw [unitZ_cons, if_pos h]; rfl
  · by_cases h2 : c ≤ 2047
    · rw [mcode2 h h2]
      show unitZ ((192 + c / 64) :: (128 + c % 64) :: t) = _
      rw [unitZ_cons, if_neg (by omega), if_pos (by omega)]; simp only; rw [if_pos (by omega)]
      refine Prod.ext ?_ rfl
      show (192 + c / 64) % 32 * 64 + (128 + c % 64) % 64 = c
      omega
    · rw [mcode3 (by omega) (by omega)]
      show unitZ ((224 + c / 4096) :: (128 + c / 64 % 64) :: (128 + c % 64) :: t) = _
      rw [unitZ_cons, if_neg (by omega), if_neg (by omega), if_pos (by omega)]; simp only; rw [if_pos (by omega)]
      refine Prod.ext ?_ rfl
      show (224 + c / 4096) % 16 * 4096 + (128 + c / 64 % 64) % 64 * 64 + (128 + c % 64) % 64 = c
      omega
theorem unit_range (l : List Int) (hb : AllBytes l) : (unitZ l).2 ≤ l.length ∧ 0 ≤ (unitZ l).1 ∧ (unitZ l).1 ≤ 65535 ∧ (unitZ l).2 ≤ 3 := by
  match l with
  | [] => simp [unitZ]
  | a :: t =>
    obtain ⟨a0, a1⟩ := hb a (by simp)
    rw [unitZ_cons]
    split
    · simp; omega
    · split
      · match t with
        | [] => simp
        | b :: u =>
          obtain ⟨b0, b1⟩ := hb b (by simp)
          simp only; split
          · simp; omega
          · simp
      · split
        · match t with
          | [] => simp
          | [b] => simp
          | b :: c :: u =>
            obtain ⟨b0, b1⟩ := hb b (by simp)
            obtain ⟨c0, c1⟩ := hb c (by simp)
            simp only; split
            · simp; omega
            · simp
        · simp
end Go.Proofs.YtjnaiekdbigikaaDoor
