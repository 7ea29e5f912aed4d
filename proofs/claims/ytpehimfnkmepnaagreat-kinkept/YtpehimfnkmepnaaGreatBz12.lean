import Derived.Test.YtpehimfnkmepnaaGreatBz11
set_option maxRecDepth 8000
set_option maxHeartbeats 40000000
namespace Go.Proofs.YtpehimfnkmepnaaGreat.M
open Go.RowKit
def plc : List LN → Int → List Int → List Int
 | [], _, ps => ps
 | x :: r, p, ps => if 0 ≤ x.hr then plc r p (ps.set x.hr.toNat p) else plc r (p + (sz x.op : Nat)) ps
def zCo (σ : SG) : List Int := plc σ.ls 0 (List.replicate σ.labels 0)
def cod (ps : List Int) : List LN → Int → List IN
 | [], _ => []
 | x :: r, p => if 0 ≤ x.hr then cod ps r p else ⟨p, x.op, if 0 ≤ x.lb then (ps[x.lb.toNat]?).getD 0 else x.a, x.b⟩ :: cod ps r (p + (sz x.op : Nat))
def zBw (σ : SG) : List IN := cod (zCo σ) σ.ls 0
def fra (ts : List Int) : List LN → Int → List (Int × Bool) → List (Int × Bool)
 | [], _, fs => fs
 | x :: r, p, fs => if 0 ≤ x.hr then fra ts r p (if (fs[fs.length - 1]?).map (·.1) = some p then fs else fs ++ [(p, isIn ts x.hr)]) else fra ts r (p + (sz x.op : Nat)) fs
def zDi (σ : SG) : List (Int × Bool) := fra σ.ts σ.ls 0 []
theorem zLk (x : LN) (r : List LN) (p : Int) (ps : List Int) : plc (x :: r) p ps = if 0 ≤ x.hr then plc r p (ps.set x.hr.toNat p) else plc r (p + (sz x.op : Nat)) ps := rfl
theorem zFs (ps : List Int) (x : LN) (r : List LN) (p : Int) : cod ps (x :: r) p = if 0 ≤ x.hr then cod ps r p else ⟨p, x.op, if 0 ≤ x.lb then (ps[x.lb.toNat]?).getD 0 else x.a, x.b⟩ :: cod ps r (p + (sz x.op : Nat)) := rfl
theorem zJ9 (ts : List Int) (x : LN) (r : List LN) (p : Int) (fs : List (Int × Bool)) : fra ts (x :: r) p fs = if 0 ≤ x.hr then fra ts r p (if (fs[fs.length - 1]?).map (·.1) = some p then fs else fs ++ [(p, isIn ts x.hr)]) else fra ts r (p + (sz x.op : Nat)) fs := rfl
def FR1 (pl : Bool) (w : World) (y : FM) (z : Int × Bool) : Prop := y.at_ = z.1 ∧ (∃ g, y.lc = .slice (some ⟨g, 0, none⟩) (zB5 pl).length (zB5 pl).length ∧ w.heap[g]? = some (.cells (zB5 pl).toArray 9)) ∧ if z.2 then ∃ g, y.st = .slice (some ⟨g, 0, none⟩) 1 1 ∧ w.heap[g]? = some sThr else y.st = .slice none 0 0
def FRs (pl : Bool) (w : World) (fs : List FM) (zs : List (Int × Bool)) : Prop := fs.length = zs.length ∧ ∀ (j : Nat) y z, fs[j]? = some y → zs[j]? = some z → FR1 pl w y z
theorem FR1.same {pl : Bool} {w w' : World} {y : FM} {z : Int × Bool} (h : FR1 pl w y z) (hs : Same 9 w w') : FR1 pl w' y z := by
 obtain ⟨z1, z2⟩ := z
 obtain ⟨h1, ⟨g, h2, h3⟩, h4⟩ := h
 refine ⟨h1, ⟨g, h2, hs g _ h3⟩, ?_⟩
 cases z2
 · simpa using h4
 · simp only [if_true] at h4 ⊢
   obtain ⟨g, h5, h6⟩ := h4
   exact ⟨g, h5, hs g _ h6⟩
theorem FRs.same {pl : Bool} {w w' : World} {fs : List FM} {zs : List (Int × Bool)} (h : FRs pl w fs zs) (hs : Same 9 w w') : FRs pl w' fs zs := ⟨h.1, fun j y z h1 h2 => (h.2 j y z h1 h2).same hs⟩
theorem FRs.nil {pl : Bool} {w : World} : FRs pl w [] [] := ⟨rfl, fun j y z h => by simp at h⟩
theorem FRs.last {pl : Bool} {w : World} {fs : List FM} {zs : List (Int × Bool)} (h : FRs pl w fs zs) : (zs[zs.length - 1]?).map (·.1) = (fs[fs.length - 1]?).map (·.at_) := by
 rw [← h.1]
 rcases e : fs[fs.length - 1]? with _ | y
 · have : fs.length ≤ fs.length - 1 := List.getElem?_eq_none_iff.1 e
   rw [List.getElem?_eq_none (by rw [← h.1]; exact this)]; rfl
 · have hl := (List.getElem?_eq_some_iff.1 e).1
   obtain ⟨z, hz⟩ : ∃ z, zs[fs.length - 1]? = some z := ⟨zs[fs.length - 1]'(by rw [← h.1]; exact hl), List.getElem?_eq_getElem _⟩
   rw [hz]
   simp [(h.2 _ _ _ e hz).1]
theorem FRs.add {pl : Bool} {w : World} {fs : List FM} {zs : List (Int × Bool)} {y : FM} {z : Int × Bool} (h : FRs pl w fs zs) (h1 : FR1 pl w y z) : FRs pl w (fs ++ [y]) (zs ++ [z]) := by
 refine ⟨by simp [h.1], fun j a b ha hb => ?_⟩
 by_cases hj : j < fs.length
 · rw [List.getElem?_append_left hj] at ha
   rw [List.getElem?_append_left (by rw [← h.1]; exact hj)] at hb
   exact h.2 j a b ha hb
 · rw [List.getElem?_append_right (by omega)] at ha
   rw [List.getElem?_append_right (by rw [← h.1]; omega), ← h.1] at hb
   rcases e : j - fs.length with _ | m
   · rw [e] at ha hb
     simp at ha hb
     subst ha; subst hb; exact h1
   · rw [e] at ha; simp at ha
structure Refs (σ : SG) : Prop where
 ls : ∀ x ∈ σ.ls, x.lb < σ.labels ∧ x.hr < σ.labels
 hs : ∀ x ∈ σ.hs, (0 ≤ x.f ∧ x.f < σ.labels) ∧ (0 ≤ x.t ∧ x.t < σ.labels) ∧ 0 ≤ x.a ∧ x.a < σ.labels
theorem zJ3 {α : Type} {l : List α} {k : Nat} {x : α} (h : l[k]? = some x) : l.drop k = x :: l.drop (k + 1) := by
 obtain ⟨hk, e⟩ := List.getElem?_eq_some_iff.1 h
 subst e
 exact List.drop_eq_getElem_cons hk
theorem zIe : ∀ (l : List LN) (j : Nat) (x : LN) (i : Nat), l[j]? = some x → i < 6 → (zE7 l)[j * 6 + i]? = (lrow x)[i]?
 | [], _, _, _, h, _ => by simp at h
 | y :: l, 0, x, i, h, hi => by simp at h; subst h; unfold zE7; rw [List.flatMap_cons, Nat.zero_mul, Nat.zero_add, List.getElem?_append_left (by simp [lrow]; omega)]
 | y :: l, j + 1, x, i, h, hi => by
   have := zIe l j x i (by simpa using h) hi
   unfold zE7 at *
   rw [List.flatMap_cons, List.getElem?_append_right (by simp [lrow]; omega), show (j + 1) * 6 + i - (lrow y).length = j * 6 + i by simp [lrow]; omega]
   exact this
theorem zLu {w : World} {B : Nat} {v : Value} {l : List LN} (h : w.ownsRow B 181 6 v l.length (zE7 l)) {j : Nat} {x : LN} (hj : l[j]? = some x) :
 ∃ g cap, v = .slice (some ⟨g, 0, none⟩) l.length cap ∧ g < w.heap.size ∧ w.cell? ⟨g, j * 6, none⟩ = some (.int .i64 x.pl) ∧ w.cell? ⟨g, j * 6 + 1, none⟩ = some (.int .i64 x.op) ∧ w.cell? ⟨g, j * 6 + 2, none⟩ = some (.int .i64 x.a) ∧ w.cell? ⟨g, j * 6 + 3, none⟩ = some (.int .i64 x.b) ∧ w.cell? ⟨g, j * 6 + 4, none⟩ = some (.int .i64 x.lb) ∧ w.cell? ⟨g, j * 6 + 5, none⟩ = some (.int .i64 x.hr) := by
 have hlt := (List.getElem?_eq_some_iff.1 hj).1
 rcases h.2 with ⟨rfl, h0⟩ | ⟨g, cap, cur, rfl, _, hg, h1, h2, h3, h4⟩
 · rw [h0] at hlt; simp at hlt
 · have e : ∀ i, i < 6 → cur[j * 6 + i]? = (lrow x)[i]? := by
    intro i hi
    rw [← zIe l j x i hj hi, ← h4, List.getElem?_take, if_pos (by omega), Array.getElem?_toList]
   exact ⟨g, cap, rfl, (Array.getElem?_eq_some_iff.1 hg).1, zA1 hg _ (e 0 (by decide)), zA1 hg _ (e 1 (by decide)), zA1 hg _ (e 2 (by decide)), zA1 hg _ (e 3 (by decide)), zA1 hg _ (e 4 (by decide)), zA1 hg _ (e 5 (by decide))⟩
end Go.Proofs.YtpehimfnkmepnaaGreat.M
namespace Go.Proofs.YtpehimfnkmepnaaGreat
structure HN where
 f : Int
 t : Int
 a : Int
 ty : ByteArray
def hrow (x : HN) : List Value := [.int .i64 x.f, .int .i64 x.t, .int .i64 x.a, .string x.ty]
end Go.Proofs.YtpehimfnkmepnaaGreat
namespace Go.Proofs.YtpehimfnkmepnaaGreat
open Go.RowKit
theorem zEb.laid1 (w : World) (i : IN) : zEb (w.alloc (.cells #[.int .i64 i.pl, .int .i64 i.op, .int .i64 i.a, .int .i64 i.b] 179)) (.slice (some ⟨w.heap.size, 0, none⟩) 1 1) [i] := by
 refine ⟨_, _, rfl, Nat.le_refl _, by unfold maxLen; omega, .inr ⟨_, _, rfl, fun j x hj => ?_⟩⟩
 match j, hj with
 | 0, hj => simp at hj; subst hj; exact zLn w i
 | j + 1, hj => simp at hj
end Go.Proofs.YtpehimfnkmepnaaGreat
