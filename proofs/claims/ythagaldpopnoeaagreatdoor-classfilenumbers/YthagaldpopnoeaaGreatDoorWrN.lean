/- Writer.Number writes the lowest bytes of a number, the highest first. -/
import Derived.Test.YthagaldpopnoeaaGreatDoorWr
namespace Go.Proofs.YthagaldpopnoeaaGreatDoor
open Go.RowKit
attribute [local go_sem ↓] Go.wp_at_zero Go.wp_at_succ

/-- The lowest k bytes of n, the highest first. -/
def be (n : Int) : Nat → List Int
  | 0 => []
  | k + 1 => (n / 2 ^ (8 * k) % 256) :: be n k
theorem be_len (n : Int) : ∀ k, (be n k).length = k
  | 0 => rfl
  | k + 1 => by simp [be, be_len n k]

theorem wraps_small (n : Int) (h0 : 0 ≤ n) (h1 : n ≤ 9223372036854775807) : IntKind.i64.wrap n = n := by rw [IntKind.wrap_i64]; omega
theorem run_shr (w : World) (n : Int) (k : Nat) (hk : k ≤ 7) : (Op.shift .shr .i64 n .i64 (8 * (k : Int))).run Tryz.prog w = .ok (.int .i64 (n / 2 ^ (8 * k))) w := by
  have h1 : ¬ (8 * (k : Int) < 0) := by omega
  have h2 : min (8 * (k : Int)).toNat IntKind.i64.bits = 8 * k := by simp [IntKind.bits]; omega
  have h3 : (0 : Int) ≤ 2 ^ (8 * k) := Int.pow_nonneg (by decide)
  simp only [Op.shift, if_neg h1, h2, Sem.run_pure, Int.fdiv_eq_ediv_of_nonneg _ h3]

/-- Behind one byte that is appended and stored. -/
theorem put_one {B pw : Nat} {wr w1 : World} {v : Value} {l : List Int} {x : Int} {g cap n : Nat} (hI : IsW B pw wr v l) (hn : n = l.length + 1)
    (hown : w1.ownsRow B 5 1 (.slice (some ⟨g, 0, none⟩) (l.length + 1) cap) (l.length + 1) (bcells l ++ #[Value.int .u8 x].toList))
    (hgrow : (wr.alloc (.cells #[.int .u8 x] 5)).drew.grownBy w1 v.ownBlock) (hat : v.ownBlock = some g ∨ g = (wr.alloc (.cells #[.int .u8 x] 5)).drew.heap.size) :
    IsW B pw (w1.setCell ⟨pw, 0, none⟩ (.slice (some ⟨g, 0, none⟩) n cap)) (.slice (some ⟨g, 0, none⟩) n cap) (l ++ [x]) ∧ WStep pw v wr (.slice (some ⟨g, 0, none⟩) n cap) (w1.setCell ⟨pw, 0, none⟩ (.slice (some ⟨g, 0, none⟩) n cap)) := by
  subst hn
  refine hI.put (v1 := .slice (some ⟨g, 0, none⟩) (l.length + 1) cap) (Step.before_alloc (o := .cells #[.int .u8 x] 5) (Step.before_drew ⟨hgrow, ?_⟩)) ?_
  · rcases hat with h | h
    · exact .inl h.symm
    · exact .inr ⟨g, rfl, by rw [h]; exact Nat.le_refl _⟩
  · rw [List.length_append, bcells_append]; exact hown

set_option maxRecDepth 8000 in
set_option maxHeartbeats 2000000 in
theorem wnum_any (B pw : Nat) (v0 : Value) (l : List Int) (n bytes : Int) (w : World) (h : IsW B pw w v0 l) (hB : B ≤ w.heap.size) (hlen : l.length ≤ 1099511627776) :
    Calls Tryz.prog 130 #[.pointer (some ⟨pw, 0, none⟩), .int .i64 n, .int .i64 bytes] w fun e w' => e = .returned (.tuple #[]) ∧ ∃ v, IsW B pw w' v (l ++ be n (min (max bytes 1) 8).toNat) ∧ WStep pw v0 w v w' := by
  obtain ⟨i0, hi, hz0, hz1, hz2⟩ := info_parts Tryz.info5
  obtain ⟨wd, hwd⟩ : ∃ wd : Nat, min (max bytes 1) 8 = (wd : Int) := ⟨(min (max bytes 1) 8).toNat, by omega⟩
  have hw8 : wd ≤ 8 := by omega
  have hw1 : 1 ≤ wd := by omega
  rw [hwd, Int.toNat_natCast]
  have hwid : Calls Tryz.prog 155 #[.int .i64 bytes] w fun e w' => e = .returned (.int .i64 (wd : Int)) ∧ w' = w := by
    have := width_any bytes w
    rwa [hwd] at this
  clear hwd
  go_enter Tryz.func130, Tryz.ntmps130
  go_wp2_with (go_at_call 155; refine hwid.mono ?_; rintro e w' ⟨rfl, hww⟩; cases hww)
  clear hwid
  go_loopw [6] (fun i wr => ∃ (j : Nat) (acc : List Int) (v : Value), i = .int .i64 ((j : Int) - 1) ∧ IsW B pw wr v (l ++ acc) ∧ WStep pw v0 w v wr ∧ acc ++ be n j = be n wd ∧ j ≤ 8) (fun i _ => (intOf i + 1).toNat)
  case atStart => exact ⟨wd, [], v0, rfl, by simpa using h, WStep.refl _ _ _, rfl, hw8⟩
  case round =>
    obtain ⟨j, acc, v, rfl, hI, hst, hacc, hj8⟩ := hrel
    have HA := hidIt hacc
    clear hacc h
    match j, HA, hj8 with
    | 0, HA, hj8 =>
      go_wp2
      go_end0
      refine ⟨rfl, v, ?_, hst⟩
      have := HA.out
      simp only [be, List.append_nil] at this
      rw [← this]; exact hI
    | k + 1, HA, hj8 =>
      have hc := hI.cell
      have hk0 : (0 : Int) ≤ (k : Int) := by omega
      have hk8 : (k : Int) ≤ 7 := by omega
      rw [show (((k + 1 : Nat) : Int) - 1) = (k : Int) by omega]
      have hf := frozen_row hI.at_ 0
      have hplt := hI.lt
      have hpne := hI.ne
      have hc2 : ∀ o, (wr.alloc o).cell? ⟨pw, 0, none⟩ = some v := fun o => cell_later ((Below.refl _ wr).alloc (Nat.le_refl _) o) hc
      have hf2 : ∀ o, (wr.alloc o).frozen? ⟨pw, 0, none⟩ = false := fun o => (((Below.refl wr.heap.size wr).alloc (Nat.le_refl _) o).frozen (p := ⟨pw, 0, none⟩) hplt).trans hf
      have hsz := hst.size
      have hal : (l ++ acc).length ≤ l.length + 8 := by
        have := congrArg List.length HA.out
        rw [List.length_append, be_len, be_len] at this
        rw [List.length_append]; omega
      have hwk : IntKind.i64.wrap (8 * (k : Int)) = 8 * (k : Int) := wraps_small _ (by omega) (by omega)
      have hsh : ∀ wx, (Op.shift .shr .i64 n .i64 (8 * (k : Int))).run Tryz.prog wx = .ok (.int .i64 (n / 2 ^ (8 * k))) wx := fun wx => run_shr wx n k (by omega)
      go_wp2
      go_region_law ((refine step_append_lies _ (by rfl) _ _ _ (by rfl) B 5 i0 (.int .u8 0) 1 1 Tryz.underlying22 hi hz0 hz1 hz2 rfl (by omega) v _ _ (by rfl) (hI.own.alloc _) _ 1 1 _ (by rfl) rfl (World.news_of_block (heap_alloc_new _ _)) (by intro u hu; simp at hu; subst hu; rfl) (by omega) (by unfold maxLen; omega) (by omega) (by simp; omega) _ rfl ?_; intro g cap w1 hown1 hgrow hat hlt; have hc3 := (World.cell?_of_block (a := ⟨pw, 0, none⟩) (hgrow.block pw (Nat.lt_trans hplt (by simp)) hpne)).trans (hc2 _); have hf3 := (World.frozen?_of_block (a := ⟨pw, 0, none⟩) (hgrow.block pw (Nat.lt_trans hplt (by simp)) hpne)).trans (hf2 _)))
      all_goals
        have hx : IntKind.u8.wrap (n / 2 ^ (8 * (k : Int)).toNat) = n / 2 ^ (8 * k) % 256 := by
          rw [IntKind.wrap_u8, show (8 * (k : Int)).toNat = 8 * k by omega]
        rw [hx] at hown1 hgrow hat
        have HP := hidIt (put_one hI (n := l.length + acc.length + 1) (by rw [List.length_append]) hown1 hgrow hat)
        clear hown1 hgrow hat hc hf hc2 hf2 hc3 hf3 hpne hx
        go_wp2
        go_roundw
        case rel =>
          refine ⟨k, acc ++ [n / 2 ^ (8 * k) % 256], _, rfl, ?_, hst.trans HP.out.2, ?_, by omega⟩
          · rw [← List.append_assoc]; exact HP.out.1
          · rw [List.append_assoc]; exact HA.out
        case measure => simp [intOf]
end Go.Proofs.YthagaldpopnoeaaGreatDoor
