import Derived.Test.YtpehimfnkmepnaaGreatBx41
set_option maxRecDepth 8000
set_option maxHeartbeats 40000000
namespace Go.Proofs.YtpehimfnkmepnaaGreat.Fr
open Go.RowKit Q Q.D K
theorem zR8 (nm ds : ByteArray) : ∀ (L : List KD), zG6 L nm ds = zGl nm ds L
 | [] => rfl
 | k :: L => by
   have ih := zR8 nm ds L
   unfold zG6 zGl at ih ⊢
   rw [List.findSome?_cons, zN5]
   cases h : k.ms.find? (isM nm ds) with
   | some y =>
     have hz : 0 ≤ ixZ k.ms (isM nm ds) := by
      unfold ixZ
      cases e : k.ms.findIdx? (isM nm ds) with
      | none =>
        rw [List.findIdx?_eq_none_iff] at e
        have := List.find?_some h
        have hm := List.mem_of_find?_eq_some h
        rw [e y hm] at this
        cases this
      | some j => simp
     rw [if_pos hz]
     simp only [h]
   | none =>
     have hz : ¬ 0 ≤ ixZ k.ms (isM nm ds) := fun h0 => by
      obtain ⟨_, y, _, _, e⟩ := zSg h0
      rw [h] at e
      cases e
     rw [if_neg hz]
     exact ih
theorem zUh (L : List KD) (x : MD) : zCv L x = (match zG6 L x.nm x.ds with | some y => y.st != x.st | none => false) := by
 unfold zCv
 rw [zR8]
 cases zGl x.nm x.ds L <;> rfl
theorem zLx (R : List KD) (k : KD) (hn : ∀ m ∈ k.ms, m.nat = false) : zG3 R k = 0 ↔ okK k ∧ zB7 R k.nm = none ∧ R.length < 32 ∧ (∃ p, zB7 R k.sup = some p) ∧ ∀ x ∈ k.ms, zCv (klin R k.sup) x = false := by
 unfold zG3
 by_cases hr : zDh k = 0
 · have hok := (zHi k hn).1 hr
   rw [if_pos hr, zBo (by decide), zBo (by decide), zBo (by decide), zBo (by decide), zBo (by decide)]
   simp only [Option.isSome_iff_ne_none, ne_eq, Decidable.not_not, Option.isNone_iff_eq_none, List.any_eq_true, not_exists, not_and, Bool.not_eq_true, and_true]
   constructor
   · rintro ⟨a, b, c, _, d⟩
     exact ⟨hok, a, by omega, Option.ne_none_iff_exists'.1 c, d⟩
   · rintro ⟨_, a, b, ⟨p, c⟩, d⟩
     exact ⟨a, by omega, by rw [c]; simp, fun x hx => hn x hx, d⟩
 · rw [if_neg hr]
   exact ⟨fun h => absurd h hr, fun h => absurd ((zHi k hn).2 h.1) hr⟩
end Go.Proofs.YtpehimfnkmepnaaGreat.Fr
