/- readEntry, refused: walked. -/
import Derived.Test.YthagaldpopnoeaaGreatDoorYF
import Derived.Test.YthagaldpopnoeaaGreatDoorYJ
import Derived.Test.YthagaldpopnoeaaGreatDoorYI
namespace Go.Proofs.YthagaldpopnoeaaGreatDoor
open Go.RowKit

theorem IsR.drewN {pr : Nat} {w : World} {v : Value} {l : List Int} {a : Nat} {y : Int} (h : IsR pr w v l a y) (q : Nat) : IsR pr (w.drewN q) v l a y := ⟨h.blk, h.view, h.le⟩

set_option maxRecDepth 8000 in
set_option maxHeartbeats 1000000 in
theorem refused_any (pr : Nat) (v : Value) (l : List Int) (a : Nat) (y : Int) (w : World) (h : IsR pr w v l a y) :
    Calls Tryz.prog 109 #[.pointer (some ⟨pr, 0, none⟩)] w fun e w' => e = .returned (.bool (decide (y ≠ 0))) ∧ ∃ q, w' = w.drewN q := by
  have HE := D.hidIt (end_any pr v l a y w h)
  have hle := h.le
  by_cases hy : y = 0
  · subst hy
    rw [decide_eq_false (by simp)]
    have HL := fun q => D.hidIt (left_any pr v l a _ (h.drewN q))
    by_cases hs : a < l.length
    · rw [show endZ l a 0 = (11, (a : Int)) by unfold endZ; rw [if_neg (by simp), if_pos hs]] at HE
      have hz : ((l.length : Int) - a == 0) = false := by simp; omega
      clear h
      go_enter Tryz.func109, Tryz.ntmps109
      go_wp2_with fail
      refine HE.out.mono ?_
      rintro e w1 ⟨rfl, q1, rfl⟩
      go_wp2_with fail
      refine (HL q1).out.mono ?_
      rintro e w2 ⟨rfl, q2, rfl⟩
      go_wp2
      go_ret
      exact ⟨rfl, _, rfl⟩
    · rw [show endZ l a 0 = (0, 0) by unfold endZ; rw [if_neg (by simp), if_neg hs]] at HE
      clear h
      go_enter Tryz.func109, Tryz.ntmps109
      go_wp2_with fail
      refine HE.out.mono ?_
      rintro e w1 ⟨rfl, q1, rfl⟩
      go_wp2
      go_ret
      exact ⟨rfl, _, rfl⟩
  · rw [decide_eq_true hy]
    have HL := fun q => D.hidIt (left_zero pr v l a y _ (h.drewN q) hy)
    rw [show endZ l a y = (y, (a : Int)) by unfold endZ; rw [if_pos hy]] at HE
    have hy2 : (y != 0) = true := by simpa using hy
    clear h
    go_enter Tryz.func109, Tryz.ntmps109
    go_wp2_with fail
    refine HE.out.mono ?_
    rintro e w1 ⟨rfl, q1, rfl⟩
    go_wp2_with fail
    refine (HL q1).out.mono ?_
    rintro e w2 ⟨rfl, q2, rfl⟩
    go_wp2
    go_ret
    exact ⟨rfl, _, rfl⟩

/-- Texts that are read one behind the other. -/
def rT (l : List Int) : Nat → Nat → Int → List ByteArray × Nat × Int
  | 0, a, y => ([], a, y)
  | k + 1, a, y => ((rT l k a y).1 ++ [(rtext l (rT l k a y).2.1 (rT l k a y).2.2).1], (rtext l (rT l k a y).2.1 (rT l k a y).2.2).2.1, (rtext l (rT l k a y).2.1 (rT l k a y).2.2).2.2)
theorem rT_len (l : List Int) : ∀ k a y, (rT l k a y).1.length = k
  | 0, _, _ => rfl
  | k + 1, a, y => by simp [rT, rT_len l k a y]
def eS : ByteArray := ⟨#[]⟩
/-- A constant of texts that were read. -/
def mkC (kind n : Int) (ts : List ByteArray) : CD := ⟨kind, n, (ts[0]?).getD eS, (ts[1]?).getD eS, (ts[2]?).getD eS⟩
/-- What readEntry reads. -/
def rdN (l : List Int) (a : Nat) (y : Int) : Int × Nat × Int :=
  if textsN (beVal (tk l a y 1).1) = 0 then (IntKind.i32.wrap (beVal (tk l (tk l a y 1).2.1 (tk l a y 1).2.2 4).1), (tk l (tk l a y 1).2.1 (tk l a y 1).2.2 4).2.1, (tk l (tk l a y 1).2.1 (tk l a y 1).2.2 4).2.2)
  else (0, (tk l a y 1).2.1, (tk l a y 1).2.2)
def rdT (l : List Int) (a : Nat) (y : Int) : List ByteArray × Nat × Int := rT l (textsN (beVal (tk l a y 1).1)) (rdN l a y).2.1 (rdN l a y).2.2
def rdC (l : List Int) (a : Nat) (y : Int) : CD :=
  if textsB (beVal (tk l a y 1).1) = true then mkC (beVal (tk l a y 1).1) (rdN l a y).1 (rdT l a y).1 else mkC (beVal (tk l a y 1).1) 0 []
def rdE (l : List Int) (a : Nat) (y : Int) : Nat × Int :=
  if textsB (beVal (tk l a y 1).1) = true then ((rdT l a y).2.1, if rightB (rdC l a y) = true then (rdT l a y).2.2 else fl (rdT l a y).2.2 14)
  else ((tk l a y 1).2.1, fl (tk l a y 1).2.2 12)

theorem Only.fresh {pr : Nat} {w0 w : World} (h : Only pr w0 w) (o : Obj) : Only pr w0 (w.alloc o) :=
  h.trans (Only.of_below ((Below.refl _ _).alloc (Nat.le_refl _) _))
theorem Only.put {pr pc o : Nat} {w0 w : World} {u : Value} (h : Only pr w0 w) (hp : w0.heap.size ≤ pc) : Only pr w0 (w.setCell ⟨pc, o, none⟩ u) :=
  ⟨h.os, h.tape, h.output, by simpa [World.setCell] using h.size, fun k hk hne => (Below.heap_setCell _ _ _ _ (fun e => by simp only at e; omega)).trans (h.block k hk hne)⟩
theorem IsR.put {pr pc o : Nat} {w0 w : World} {v : Value} {l : List Int} {a0 a : Nat} {y0 y : Int} {u : Value} (h0 : IsR pr w0 v l a0 y0) (ho : Only pr w0 w) (h : IsR pr w v l a y) (hp : w0.heap.size ≤ pc) : IsR pr (w.setCell ⟨pc, o, none⟩ u) v l a y := by
  have hlt := h0.lt
  exact h0.move (ho.put hp) ((Below.heap_setCell _ _ _ _ (fun e => by simp only at e; omega)).trans h.blk) h.le
theorem beVal_one (bs : List Int) (h : AllBytes bs) (hl : bs.length ≤ 1) : 0 ≤ beVal bs ∧ beVal bs ≤ 255 := by
  match bs, hl with
  | [], _ => simp [beVal]
  | [a], _ => have := h a (by simp); simp [beVal]; omega
theorem beVal_four (bs : List Int) (h : AllBytes bs) (hl : bs.length ≤ 4) : 0 ≤ beVal bs ∧ beVal bs ≤ 4294967295 := by
  match bs, hl with
  | [], _ => simp [beVal]
  | [a], _ => have := h a (by simp); simp [beVal]; omega
  | [a, b], _ => have := h a (by simp); have := h b (by simp); simp [beVal]; omega
  | [a, b, c], _ => have := h a (by simp); have := h b (by simp); have := h c (by simp); simp [beVal]; omega
  | [a, b, c, d], _ => have := h a (by simp); have := h b (by simp); have := h c (by simp); have := h d (by simp); simp [beVal]; omega
theorem rnum1 (pr : Nat) (v : Value) (l : List Int) (a : Nat) (y : Int) (w : World) (h : IsR pr w v l a y) :
    Calls Tryz.prog 108 #[.pointer (some ⟨pr, 0, none⟩), .int .i64 1] w fun e w' => e = .returned (.int .i64 (beVal (tk l a y 1).1)) ∧ IsR pr w' v l (tk l a y 1).2.1 (tk l a y 1).2.2 ∧ Only pr w w' := by
  have hby : AllBytes l := by obtain ⟨_, _, _, _, _, h, _⟩ := h.view; exact h
  have h1 := rnum_any pr v l a y 1 w h
  rw [show min (max (1 : Int) 1) 8 = 1 by decide] at h1
  have hbv := beVal_one (tk l a y 1).1 (tk_bytes _ _ _ _ hby) (by have := (tk_len l a y 1).1; omega)
  rwa [show IntKind.i64.wrap (beVal (tk l a y 1).1) = beVal (tk l a y 1).1 from wraps_small _ (by omega) (by omega)] at h1
theorem rnum4 (pr : Nat) (v : Value) (l : List Int) (a : Nat) (y : Int) (w : World) (h : IsR pr w v l a y) :
    Calls Tryz.prog 108 #[.pointer (some ⟨pr, 0, none⟩), .int .i64 4] w fun e w' => e = .returned (.int .i64 (beVal (tk l a y 4).1)) ∧ IsR pr w' v l (tk l a y 4).2.1 (tk l a y 4).2.2 ∧ Only pr w w' := by
  have hby : AllBytes l := by obtain ⟨_, _, _, _, _, h, _⟩ := h.view; exact h
  have h1 := rnum_any pr v l a y 4 w h
  rw [show min (max (4 : Int) 1) 8 = 4 by decide] at h1
  have hbv := beVal_four (tk l a y 4).1 (tk_bytes _ _ _ _ hby) (by have := (tk_len l a y 4).1; omega)
  rwa [show IntKind.i64.wrap (beVal (tk l a y 4).1) = beVal (tk l a y 4).1 from wraps_small _ (by omega) (by omega)] at h1
theorem rnum2 (pr : Nat) (v : Value) (l : List Int) (a : Nat) (y : Int) (w : World) (h : IsR pr w v l a y) :
    Calls Tryz.prog 108 #[.pointer (some ⟨pr, 0, none⟩), .int .i64 2] w fun e w' => e = .returned (.int .i64 (beVal (tk l a y 2).1)) ∧ IsR pr w' v l (tk l a y 2).2.1 (tk l a y 2).2.2 ∧ Only pr w w' := by
  have hby : AllBytes l := by obtain ⟨_, _, _, _, _, h, _⟩ := h.view; exact h
  have h1 := rnum_any pr v l a y 2 w h
  rw [show min (max (2 : Int) 1) 8 = 2 by decide] at h1
  have hbv := beVal_two (tk l a y 2).1 (tk_bytes _ _ _ _ hby) (by have := (tk_len l a y 2).1; omega)
  rwa [show IntKind.i64.wrap (beVal (tk l a y 2).1) = beVal (tk l a y 2).1 from wraps_small _ (by omega) (by omega)] at h1

/-- The texts of a constant, as many as are read. -/
def tx (ts : List ByteArray) (i : Nat) : ByteArray := (ts[i]?).getD eS
end Go.Proofs.YthagaldpopnoeaaGreatDoor
