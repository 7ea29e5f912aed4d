/- Constants as the walks see them; isClass, isMember, isMethod, Right: walked. -/
import Derived.Test.YtknppdpcgdncdaaQDDL
import Derived.Deep.QuietTactic
import Derived.BigQuiet
namespace Go.Proofs.Ytknppdpcgdncdaa.Q
open Go.RowKit D
/-- One constant: its kind, its number, its three texts. -/
structure CD where
  kind : Int
  n : Int
  cls : ByteArray
  nm : ByteArray
  dsc : ByteArray
def CD.cells (c : CD) : List Value := [.int .i64 c.kind, .int .i32 c.n, .string c.cls, .string c.nm, .string c.dsc]
def CD.val (c : CD) : Value := .agg #[.int .i64 c.kind, .int .i32 c.n, .string c.cls, .string c.nm, .string c.dsc]
/-- What a machine can hold. -/
structure CD.Fits (c : CD) : Prop where
  c3 : c.cls.size ≤ 9223372036854775807
  c4 : c.nm.size ≤ 9223372036854775807
  c5 : c.dsc.size ≤ 9223372036854775807

abbrev bsB (s : ByteArray) : Bs := s.data.toList
def emptyB (s : ByteArray) : Bool := s.toList.isEmpty
def classB (s : ByteArray) : Bool := (elemZ (bsB s)).2 || nameB (bsB s)
def memberB (c : CD) : Bool := nameB (bsB c.cls) && nameB (bsB c.nm)
def methodB (s : ByteArray) : Bool := (meth (bsB s)).isSome && decide (s.size ≤ 256)
def rightB (c : CD) : Bool :=
  if c.kind = 3 then emptyB c.cls && emptyB c.nm && emptyB c.dsc
  else if c.kind = 7 then decide (c.n = 0) && classB c.cls && emptyB c.nm && emptyB c.dsc
  else if c.kind = 9 then decide (c.n = 0) && memberB c && fieldB (bsB c.dsc)
  else if c.kind = 10 then decide (c.n = 0) && memberB c && methodB c.dsc
  else false

set_option maxRecDepth 8000 in
set_option maxHeartbeats 1000000 in
theorem isClass_any (s : ByteArray) (w : World) (hs : s.size ≤ 9223372036854775807) :
    Calls Try.prog 69 #[.string s] w fun e w' => e = .returned (.bool (classB s)) ∧ w' = w := by
  have hE := D.hidIt (elem_any s w hs)
  have hN := D.hidIt (name_any s w)
  unfold classB bsB
  generalize (elemZ s.data.toList).1 = X at *
  generalize (elemZ s.data.toList).2 = a at *
  generalize nameB s.data.toList = b at *
  cases a
  · go_enter Try.func69, Try.ntmps69
    go_wp2_with fail
    refine hE.out.mono ?_
    rintro e w' ⟨rfl, hww⟩; cases hww
    go_wp2_with fail
    refine hN.out.mono ?_
    rintro e w' ⟨rfl, hww⟩; cases hww
    go_wp2
    go_ret
    exact ⟨by cases b <;> rfl, rfl⟩
  · go_enter Try.func69, Try.ntmps69
    go_wp2_with fail
    refine hE.out.mono ?_
    rintro e w' ⟨rfl, hww⟩; cases hww
    go_wp2
    go_ret
    exact ⟨rfl, rfl⟩

set_option maxRecDepth 8000 in
set_option maxHeartbeats 1000000 in
theorem isMember_any (c : CD) (w : World) :
    Calls Try.prog 70 #[c.val] w fun e w' => e = .returned (.bool (memberB c)) ∧ Below w.heap.size w w' := by
  have b1 : ∀ o, Below w.heap.size w (w.alloc o) := fun o => (Below.refl _ _).alloc (Nat.le_refl _) o
  have h1 := fun w => D.hidIt (name_any c.cls w)
  have h2 := fun w => D.hidIt (name_any c.nm w)
  unfold memberB bsB
  generalize nameB c.cls.data.toList = a at *
  generalize nameB c.nm.data.toList = b at *
  obtain ⟨kind, n, cls, nm, dsc⟩ := c
  unfold CD.val
  simp only at h1 h2 ⊢
  cases a
  · go_enter Try.func70, Try.ntmps70
    go_wp2_with fail
    refine (h1 _).out.mono ?_
    rintro e w' ⟨rfl, hww⟩; cases hww
    go_wp2
    go_ret
    exact ⟨rfl, b1 _⟩
  · go_enter Try.func70, Try.ntmps70
    go_wp2_with fail
    refine (h1 _).out.mono ?_
    rintro e w' ⟨rfl, hww⟩; cases hww
    go_wp2_with fail
    refine (h2 _).out.mono ?_
    rintro e w' ⟨rfl, hww⟩; cases hww
    go_wp2
    go_ret
    exact ⟨by cases b <;> rfl, b1 _⟩

set_option maxRecDepth 8000 in
set_option maxHeartbeats 1000000 in
theorem isMethod_any (s : ByteArray) (w : World) (hs : s.size ≤ 9223372036854775807) :
    Calls Try.prog 71 #[.string s] w fun e w' => e = .returned (.bool (methodB s)) ∧ Below w.heap.size w w' := by
  have hM := D.hidIt (method_any s w hs)
  go_enter Try.func71, Try.ntmps71
  go_wp2_with fail
  refine hM.out.mono ?_
  rintro e w' ⟨hb, ha⟩
  rcases ha with ⟨ps, r, v, hm, rfl, ho⟩ | ⟨hm, rfl⟩
  · have HM := D.hidIt hm
    clear hm
    by_cases h : s.size ≤ 256
    · have h' : (s.size : Int) ≤ 256 := by omega
      go_wp2
      go_ret
      exact ⟨by unfold methodB bsB; rw [HM.out, decide_eq_true h]; rfl, hb⟩
    · have h' : ¬ (s.size : Int) ≤ 256 := by omega
      go_wp2
      go_ret
      exact ⟨by unfold methodB bsB; rw [HM.out, decide_eq_false h]; show Ending.returned (.bool (decide ((s.size : Int) ≤ 256))) = _; rw [decide_eq_false (by omega)]; rfl, hb⟩
  · have HM := D.hidIt hm
    clear hm
    go_wp2
    go_ret
    exact ⟨by unfold methodB bsB; rw [HM.out]; rfl, hb⟩

theorem ret_b {a b : Bool} (h : a = b) : Ending.returned (.bool a) = .returned (.bool b) := by rw [h]

set_option maxRecDepth 8000 in
set_option maxHeartbeats 4000000 in
theorem right_any (c : CD) (w : World) (hf : c.Fits) :
    Calls Try.prog 63 #[c.val] w fun e w' => e = .returned (.bool (rightB c)) ∧ Below w.heap.size w w' := by
  have b1 : ∀ o, Below w.heap.size w (w.alloc o) := fun o => (Below.refl _ _).alloc (Nat.le_refl _) o
  have hC := fun w => D.hidIt (isClass_any c.cls w hf.c3)
  have hM := fun w => D.hidIt (isMember_any c w)
  have hD := fun w => D.hidIt (isMethod_any c.dsc w hf.c5)
  have hF := fun w => D.hidIt (field_any c.dsc w hf.c5)
  have HR : Hid (rightB c = rightB c) := rfl
  revert HR
  generalize hR : rightB c = R
  unfold rightB emptyB at hR
  intro _
  generalize classB c.cls = cb at *
  generalize memberB c = mb at *
  generalize methodB c.dsc = db at *
  generalize fieldB (bsB c.dsc) = fb at *
  obtain ⟨kind, n, cls, nm, dsc⟩ := c
  unfold CD.val at *
  simp only at hC hM hD hF hR ⊢
  have HR := D.hidIt hR
  clear hR hf
  by_cases k3 : kind = 3
  · subst k3
    go_enter Try.func63, Try.ntmps63
    go_wp2
    all_goals (go_ret; refine ⟨ret_b ?_, b1 _⟩; rw [← HR.out]; simp_all)
  · by_cases k7 : kind = 7
    · subst k7
      by_cases h0 : n = 0
      · subst h0
        cases cb
        · go_enter Try.func63, Try.ntmps63
          go_wp2_with fail
          refine (hC _).out.mono ?_
          rintro e w' ⟨rfl, hww⟩; cases hww
          go_wp2
          all_goals (go_ret; refine ⟨ret_b ?_, b1 _⟩; rw [← HR.out]; simp_all)
        · go_enter Try.func63, Try.ntmps63
          go_wp2_with fail
          refine (hC _).out.mono ?_
          rintro e w' ⟨rfl, hww⟩; cases hww
          go_wp2
          all_goals (go_ret; refine ⟨ret_b ?_, b1 _⟩; rw [← HR.out]; simp_all)
      · go_enter Try.func63, Try.ntmps63
        go_wp2
        all_goals (go_ret; refine ⟨ret_b ?_, b1 _⟩; rw [← HR.out]; simp_all)
    · by_cases k9 : kind = 9
      · subst k9
        by_cases h0 : n = 0
        · subst h0
          cases mb
          · go_enter Try.func63, Try.ntmps63
            go_wp2_with fail
            refine (hM _).out.mono ?_
            rintro e w2 ⟨rfl, b2⟩
            have BB := (b1 _).trans (b2.mono (by simp))
            go_wp2
            all_goals (go_ret; refine ⟨ret_b ?_, BB⟩; rw [← HR.out]; simp_all)
          · go_enter Try.func63, Try.ntmps63
            go_wp2_with fail
            refine (hM _).out.mono ?_
            rintro e w2 ⟨rfl, b2⟩
            have BB := (b1 _).trans (b2.mono (by simp))
            have c4 : w2.cell? ⟨w.heap.size, 4, none⟩ = some (.string dsc) := cell_later b2 (by rw [cell_of_row _ _ 4 _ 83 (0, 0) (heap_alloc_new w _)]; rfl)
            go_wp2_with fail
            refine (hF _).out.mono ?_
            rintro e w' ⟨rfl, hww⟩; cases hww
            go_wp2
            all_goals (go_ret; refine ⟨ret_b ?_, BB⟩; rw [← HR.out]; simp_all)
        · go_enter Try.func63, Try.ntmps63
          go_wp2
          all_goals (go_ret; refine ⟨ret_b ?_, b1 _⟩; rw [← HR.out]; simp_all)
      · by_cases k10 : kind = 10
        · subst k10
          by_cases h0 : n = 0
          · subst h0
            cases mb
            · go_enter Try.func63, Try.ntmps63
              go_wp2_with fail
              refine (hM _).out.mono ?_
              rintro e w2 ⟨rfl, b2⟩
              have BB := (b1 _).trans (b2.mono (by simp))
              go_wp2
              all_goals (go_ret; refine ⟨ret_b ?_, BB⟩; rw [← HR.out]; simp_all)
            · go_enter Try.func63, Try.ntmps63
              go_wp2_with fail
              refine (hM _).out.mono ?_
              rintro e w2 ⟨rfl, b2⟩
              have c4 : w2.cell? ⟨w.heap.size, 4, none⟩ = some (.string dsc) := cell_later b2 (by rw [cell_of_row _ _ 4 _ 83 (0, 0) (heap_alloc_new w _)]; rfl)
              go_wp2_with fail
              refine (hD _).out.mono ?_
              rintro e w3 ⟨rfl, b3⟩
              have hs2 := b2.size
              have BB := (b1 _).trans ((b2.mono (by simp)).trans (b3.mono (by simp at hs2; omega)))
              go_wp2
              all_goals (go_ret; refine ⟨ret_b ?_, BB⟩; rw [← HR.out]; simp_all)
          · go_enter Try.func63, Try.ntmps63
            go_wp2
            all_goals (go_ret; refine ⟨ret_b ?_, b1 _⟩; rw [← HR.out]; simp_all)
        · go_enter Try.func63, Try.ntmps63
          go_wp2
          all_goals (go_ret; refine ⟨ret_b ?_, b1 _⟩; rw [← HR.out]; simp_all)
end Go.Proofs.Ytknppdpcgdncdaa.Q
