/- rightField, rightMethod: walked. -/
import Derived.Test.YtknppdpcgdncdaaQCS
namespace Go.Proofs.Ytknppdpcgdncdaa.Q
open Go.RowKit D
set_option maxRecDepth 8000 in
set_option maxHeartbeats 2000000 in
theorem cloF_any (f o : FD) (B : Nat) (w : World) (c0 : w.cell? ⟨B, 0, none⟩ = some (.string f.nm)) (c1 : w.cell? ⟨B, 1, none⟩ = some (.string f.ds)) :
    Calls Try.prog 72 #[.agg #[.string o.nm, .string o.ds, .bool o.st], .pointer (some ⟨B, 0, none⟩)] w fun e w' => e = .returned (.bool (sameF f o)) ∧ Below w.heap.size w w' := by
  have a0 := fun x => cell_later (balloc w x) c0
  have a1 := fun x => cell_later (balloc w x) c1
  have B0 := balloc w (.cells #[.string o.nm, .string o.ds, .bool o.st] 36)
  unfold sameF
  obtain ⟨nm, ds, st⟩ := f
  obtain ⟨pm, ps, pt⟩ := o
  simp only at *
  cases h1 : pm.toList == nm.toList
  · go_enter Try.func72, Try.ntmps72
    go_wp2
    go_ret
    exact ⟨rfl, B0⟩
  · cases h2 : ps.toList == ds.toList <;>
    · go_enter Try.func72, Try.ntmps72
      go_wp2
      go_ret
      exact ⟨rfl, B0⟩

set_option maxRecDepth 8000 in
set_option maxHeartbeats 2000000 in
theorem cloM_any (f o : MD) (x1 x2 x3 : Option Addr) (y1 y2 y3 z1 z2 z3 : Nat) (B : Nat) (w : World) (c0 : w.cell? ⟨B, 0, none⟩ = some (.string f.nm)) (c1 : w.cell? ⟨B, 1, none⟩ = some (.string f.ds)) :
    Calls Try.prog 74 #[.agg #[.string o.nm, .string o.ds, .bool o.st, .bool o.nat, .int .i64 o.stk, .int .i64 o.loc, .slice x1 y1 z1, .slice x2 y2 z2, .slice x3 y3 z3], .pointer (some ⟨B, 0, none⟩)] w fun e w' => e = .returned (.bool (sameM f o)) ∧ Below w.heap.size w w' := by
  have a0 := fun x => cell_later (balloc w x) c0
  have a1 := fun x => cell_later (balloc w x) c1
  have B0 := balloc w (.cells #[.string o.nm, .string o.ds, .bool o.st, .bool o.nat, .int .i64 o.stk, .int .i64 o.loc, .slice x1 y1 z1, .slice x2 y2 z2, .slice x3 y3 z3] 41)
  unfold sameM
  obtain ⟨nm, ds, st, nat, stk, loc, code, hs, rs⟩ := f
  obtain ⟨pm, ps, pt, pnat, pstk, ploc, pcode, phs, prs⟩ := o
  simp only at *
  cases h1 : pm.toList == nm.toList
  · go_enter Try.func74, Try.ntmps74
    go_wp2
    go_ret
    exact ⟨rfl, B0⟩
  · cases h2 : ps.toList == ds.toList <;>
    · go_enter Try.func74, Try.ntmps74
      go_wp2
      go_ret
      exact ⟨rfl, B0⟩

theorem anyF (f : FD) (B : Nat) (ao : Option Addr) (c : Nat) (l : List FD) (w : World) (h : LAt 3 FieldR w ao c l) (c0 : w.cell? ⟨B, 0, none⟩ = some (.string f.nm)) (c1 : w.cell? ⟨B, 1, none⟩ = some (.string f.ds)) :
    Calls Try.prog 73 #[.slice ao l.length c, .func (.func 72) #[] #[.pointer (some ⟨B, 0, none⟩)]] w fun e w' => e = .returned (.bool (l.any (sameF f))) ∧ Below w.heap.size w w' := by
  have hbig := h.big
  obtain ⟨h1, h2, rows, h3, h4⟩ := h
  have := hasQ Try.hasF 3 Try.isAgg36 Try.sizeOf36 rows l.length (fun j hj => by rw [(h4 j l[j] (List.getElem?_eq_getElem hj)).1]; rfl) (fun j => sameF f (l.getD j ⟨⟨#[]⟩, ⟨#[]⟩, false⟩)) 72 #[.pointer (some ⟨B, 0, none⟩)] (enters_of Try.func72 (by kernel_rfl) rfl) ao c w (fun W j hj hW => by
    have e : l.getD j ⟨⟨#[]⟩, ⟨#[]⟩, false⟩ = l[j] := by simp [List.getD_eq_getElem?_getD, List.getElem?_eq_getElem hj]
    rw [e, (h4 j l[j] (List.getElem?_eq_getElem hj)).1]
    refine (cloF_any f l[j] B W (cell_later hW c0) (cell_later hW c1)).mono ?_
    rintro e w' ⟨rfl, hb⟩
    exact ⟨rfl, next hW hb⟩) hbig h3
  rw [anyN_list l _ (sameF f) (fun i x hx => by rw [List.getD_eq_getElem?_getD, hx]; rfl)] at this
  exact this
theorem anyM (f : MD) (B : Nat) (ao : Option Addr) (c : Nat) (l : List MD) (w : World) (h : LAt 9 MethR w ao c l) (c0 : w.cell? ⟨B, 0, none⟩ = some (.string f.nm)) (c1 : w.cell? ⟨B, 1, none⟩ = some (.string f.ds)) :
    Calls Try.prog 47 #[.slice ao l.length c, .func (.func 74) #[] #[.pointer (some ⟨B, 0, none⟩)]] w fun e w' => e = .returned (.bool (l.any (sameM f))) ∧ Below w.heap.size w w' := by
  have hbig := h.big
  obtain ⟨h1, h2, rows, h3, h4⟩ := h
  have := hasQ Try.hasM 9 Try.isAgg41 Try.sizeOf41 rows l.length (fun j hj => by obtain ⟨_, _, _, _, _, _, e, _⟩ := h4 j l[j] (List.getElem?_eq_getElem hj); rw [e]; rfl) (fun j => sameM f (l.getD j ⟨⟨#[]⟩, ⟨#[]⟩, false, false, 0, 0, [], [], []⟩)) 74 #[.pointer (some ⟨B, 0, none⟩)] (enters_of Try.func74 (by kernel_rfl) rfl) ao c w (fun W j hj hW => by
    have e : l.getD j ⟨⟨#[]⟩, ⟨#[]⟩, false, false, 0, 0, [], [], []⟩ = l[j] := by simp [List.getD_eq_getElem?_getD, List.getElem?_eq_getElem hj]
    obtain ⟨_, _, _, _, _, _, er, _⟩ := h4 j l[j] (List.getElem?_eq_getElem hj)
    rw [e, er]
    refine (cloM_any f l[j] _ _ _ _ _ _ _ _ _ B W (cell_later hW c0) (cell_later hW c1)).mono ?_
    rintro e w' ⟨rfl, hb⟩
    exact ⟨rfl, next hW hb⟩) hbig h3
  rw [anyN_list l _ (sameM f) (fun i x hx => by rw [List.getD_eq_getElem?_getD, hx]; rfl)] at this
  exact this

set_option maxRecDepth 8000 in
set_option maxHeartbeats 2000000 in
theorem field_right (f : FD) (ao : Option Addr) (c : Nat) (l : List FD) (w : World) (hs : f.ds.size ≤ 9223372036854775807) (h : LAt 3 FieldR w ao c l) :
    Calls Try.prog 64 #[.agg #[.string f.nm, .string f.ds, .bool f.st], .slice ao l.length c] w fun e w' => e = .returned (.int .i64 (fieldZ f l)) ∧ Below w.heap.size w w' := by
  have B0 := balloc w (.cells #[.string f.nm, .string f.ds, .bool f.st] 36)
  have hA := D.hidIt (anyF f w.heap.size ao c l (w.alloc (.cells #[.string f.nm, .string f.ds, .bool f.st] 36)) (h.below B0 (fun _ _ h => h)) (by simp) (by simp))
  have hN := fun W => D.hidIt (name_any f.nm W)
  have hF := fun W => D.hidIt (field_any f.ds W hs)
  unfold fieldZ bsB
  generalize l.any (sameF f) = x3 at *
  generalize nameB f.nm.data.toList = x1 at *
  generalize fieldB f.ds.data.toList = x2 at *
  clear h
  generalize l.length = n at *
  obtain ⟨nm, ds, st⟩ := f
  simp only at *
  cases x1
  · go_enter Try.func64, Try.ntmps64
    go_wp2_with fail
    refine (hN _).out.mono ?_
    rintro e w' ⟨rfl, hww⟩; cases hww
    go_wp2
    go_ret
    exact ⟨rfl, B0⟩
  go_enter Try.func64, Try.ntmps64
  go_wp2_with fail
  refine (hN _).out.mono ?_
  rintro e w' ⟨rfl, hww⟩; cases hww
  cases x2
  · go_wp2_with fail
    refine (hF _).out.mono ?_
    rintro e w' ⟨rfl, hww⟩; cases hww
    go_wp2
    go_ret
    exact ⟨rfl, B0⟩
  go_wp2_with fail
  refine (hF _).out.mono ?_
  rintro e w' ⟨rfl, hww⟩; cases hww
  cases x3 <;>
  · go_wp2_with fail
    refine hA.out.mono ?_
    rintro e w1 ⟨rfl, b1⟩
    go_wp2
    go_ret
    exact ⟨rfl, next B0 b1⟩
end Go.Proofs.Ytknppdpcgdncdaa.Q
