/- DescrKept, walked. -/
import Derived.Test.YtnbakgffgdiafaaKP
namespace Go.Proofs.Ytnbakgffgdiafaa
open Go.RowKit

theorem IsBk.move {B pb : Nat} {w w' : World} {L W : Value} {held : Int} {its : List It} (h : IsBk B pb w L W held its) (hb : ∀ k, k < w.heap.size → (B ≤ k ∨ k = pb) → w'.heap[k]? = w.heap[k]?) : IsBk B pb w' L W held its := by
  have own : ∀ {n : Nat} {v : Value} {xs : List Value}, w.ownsRow B 9 1 v n xs → w'.ownsRow B 9 1 v n xs := fun ho =>
    own_keep ho fun g cur hg hc => hb g (Array.getElem?_eq_some_iff.1 hc).1 (.inl (ho.lt g hg).1)
  exact ⟨(hb pb (Array.getElem?_eq_some_iff.1 h.blk).1 (.inr rfl)).trans h.blk, h.sl.keep fun g hg hlt => hb g hlt (.inl (h.sl.lt g hg).1), h.sw.keep fun g hg hlt => hb g hlt (.inl (h.sw.lt g hg).1), h.ne, fun p hp => ⟨own (h.fine p hp).l, own (h.fine p hp).c, (h.fine p hp).b⟩, h.away⟩
theorem IsBk.below {B pb : Nat} {w w' : World} {L W : Value} {held : Int} {its : List It} (h : IsBk B pb w L W held its) (hb : Below w.heap.size w w') : IsBk B pb w' L W held its := h.move fun k hk _ => hb.block k hk
theorem IsBk.new {B pb n : Nat} {w w' : World} {L W vl : Value} {held : Int} {its : List It} {xs : List Value} (h : IsBk B pb w L W held its) (ho : w'.ownsRow w.heap.size 9 1 vl n xs) : ∀ p ∈ its, ∀ g, p.l.ownBlock = some g → vl.ownBlock ≠ some g := by
  intro p hp g hg e
  have h1 := (ho.lt g e).1
  obtain ⟨cur, hc⟩ := (Mem.of_own (h.fine p hp).l).five hg
  have h2 := (Array.getElem?_eq_some_iff.1 hc).1
  omega
theorem meth_kept : meth (ByteArray.mk #[40, 73, 76, 65, 59, 41, 86]).data.toList = some ([[73], [76, 65, 59]], [86]) := by decide +kernel

set_option maxHeartbeats 4000000 in
theorem kept_any (w : World) : Calls Try.prog 6 #[] w fun e w' => e = .returned (.bool true) ∧ Below w.heap.size w w' := by
  have HB0 : Hid (IsBk (w.heap.size + 1) w.heap.size (w.alloc (.cells #[.slice none 0 0, .slice none 0 0, .int .i64 0, .bool false] 37)) (.slice none 0 0) (.slice none 0 0) 0 []) :=
    ⟨heap_alloc_new w _, .inl ⟨rfl, rfl⟩, .inl ⟨rfl, rfl⟩, fun g h => by simp [Value.ownBlock] at h, by simp, List.Pairwise.nil⟩
  have b0 : Below w.heap.size w (w.alloc (.cells #[.slice none 0 0, .slice none 0 0, .int .i64 0, .bool false] 37)) := (Below.refl _ _).alloc (Nat.le_refl _) _
  have z0 : w.heap.size + 1 ≤ (w.alloc (.cells #[.slice none 0 0, .slice none 0 0, .int .i64 0, .bool false] 37)).heap.size := by simp
  go_enter Try.func6, Try.ntmps6
  go_wp2
  go_loopw [2] (fun i wr => ∃ (k : Nat) (L W : Value) (held : Int) (its : List It), i = .int .i64 (k : Int) ∧ k ≤ 2 ∧ IsBk (w.heap.size + 1) w.heap.size wr L W held its ∧ its.length ≤ k ∧ Below w.heap.size w wr ∧ w.heap.size + 1 ≤ wr.heap.size) (fun i _ => 2 - (intOf i).toNat)
  case atStart => exact ⟨0, _, _, _, [], rfl, by omega, HB0.out, by simp, b0, z0⟩
  case round =>
    clear HB0 b0 z0
    obtain ⟨k, L, W, held, its, rfl, hk, HB, hlen, hbw, hz⟩ := hrel
    by_cases hlt : k < 2
    · have hlt' : (k : Int) < 2 := by omega
      go_wp2_with fail
      refine (method_any ⟨#[40, 73, 76, 65, 59, 41, 86]⟩ wr (by decide)).mono ?_
      rintro e w1 ⟨b1, h1⟩
      obtain ⟨v, rfl, o1⟩ := ans_some h1 meth_kept
      have hn := HB.new o1
      have HB1 := HB.below b1
      have o1' := own_wk o1 hz
      have z1 := b1.size
      have B1 : Below w.heap.size w w1 := hbw.trans (b1.mono hbw.size)
      clear h1 HB b1 hbw
      have HKeep := hidIt (keep_any (w.heap.size + 1) w.heap.size L W v held its [[73], [76, 65, 59]] w1 HB1 o1' trivial hn (by omega) (by decide) (by omega) (by omega))
      obtain ⟨ao, cap, rfl⟩ := own_slice o1
      clear hn HB1 o1'
      go_wp2_with fail
      refine HKeep.out.mono ?_
      rintro e w2 ⟨rfl, K, L', W', held', its', HB2, hl2, -⟩
      have B2 : Below w.heap.size w w2 := B1.trans (K.below (by omega) (Nat.le_refl _) (by omega))
      have z2 := K.size
      clear K HKeep o1
      go_wp2
      exact ⟨⟨k + 1, L', W', held', its', by go_num, by omega, HB2, by omega, B2, by omega⟩, by simp [intOf]; omega⟩
    · have hlt' : ¬ (k : Int) < 2 := by omega
      have HA := hidIt (apart_any (w.heap.size + 1) w.heap.size w.heap.size L W held its wr HB (by omega) (by omega) (Nat.le_refl _) (by omega))
      clear HB
      go_wp2_with fail
      refine HA.out.mono ?_
      rintro e w2 ⟨rfl, b2⟩
      have B2 := hbw.trans b2
      clear HA hbw b2
      go_wp2_with fail
      refine (known_any w2).mono ?_
      rintro e w3 ⟨rfl, b3⟩
      go_wp2
      go_ret
      exact ⟨rfl, B2.trans (b3.mono B2.size)⟩
end Go.Proofs.Ytnbakgffgdiafaa
