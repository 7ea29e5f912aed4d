/- The document's own Right: walked. -/
import Derived.Test.YtjnaiekdbigikaaDoorPI
import Derived.Deep.CutRange
import Derived.Test.YtjnaiekdbigikaaDoorDRM
namespace Go.Proofs.YtjnaiekdbigikaaDoor
open Go.RowKit

/-- Sizes for which the document's own Method keeps what it reads. -/
structure CD.Small (c : CD) : Prop where
  c3 : c.cls.size ≤ 1073741824
  c4 : c.nm.size ≤ 1073741824
  c5 : c.dsc.size ≤ 1073741824

def arrayB (s : ByteArray) : Bool := decide (D.fieldB (bsB s) = true ∧ (bsB s)[0]? = some 91)
theorem elem_array (s : ByteArray) : (D.elemZ (bsB s)).2 = arrayB s := by
  unfold D.elemZ arrayB
  by_cases h : D.fieldB (bsB s) = true ∧ (bsB s)[0]? = some 91
  · rw [if_pos h, decide_eq_true h]
  · rw [if_neg h, decide_eq_false h]
theorem class_or (s : ByteArray) : classB s = (D.nameB (bsB s) || arrayB s) := by
  unfold classB
  rw [elem_array, Bool.or_comm]

set_option maxRecDepth 8000 in
set_option maxHeartbeats 8000000 in
theorem rright_any (c : CD) (w : World) (hf : c.Small) :
    Calls Tryd.prog 22 #[c.val] w fun e w' => e = .returned (.bool (rightB c)) ∧ Below w.heap.size w w' := by
  have s3 := hf.c3
  have s4 := hf.c4
  have s5 := hf.c5
  have b1 : ∀ o, Below w.heap.size w (w.alloc o) := fun o => (Below.refl _ _).alloc (Nat.le_refl _) o
  have hbx := box_at w c
  have HM := fun w => D.hidIt (D.rmethod_any c.dsc w hf.c5)
  have HN3 := fun w => D.hidIt (D.rname_any c.cls w (by omega))
  have HN4 := fun w => D.hidIt (D.rname_any c.nm w (by omega))
  have HF3 := fun w => D.hidIt (D.rfield_any c.cls w (by omega))
  have HF5 := fun w => D.hidIt (D.rfield_any c.dsc w (by omega))
  have hA : ∀ h : 0 < c.cls.size, arrayB c.cls = (D.fieldB (bsB c.cls) && decide (c.cls[0].toNat = 91)) := by
    intro h
    unfold arrayB
    by_cases e : c.cls[0].toNat = 91
    · have := (D.at0 c.cls h 91 (by omega)).2 e
      rw [decide_eq_true e]
      simp only [show (bsB c.cls)[0]? = some 91 from this, and_true, Bool.and_true]
      cases D.fieldB (bsB c.cls) <;> rfl
    · rw [decide_eq_false e]
      have : ¬ (bsB c.cls)[0]? = some 91 := fun h2 => e ((D.at0 c.cls h 91 (by omega)).1 h2)
      rw [Bool.and_false]
      exact decide_eq_false (fun h2 => this h2.2)
  have hA0 : ¬ 0 < c.cls.size → arrayB c.cls = false := by
    intro h
    unfold arrayB
    have : (bsB c.cls)[0]? = none := List.getElem?_eq_none (by unfold bsB; rw [← D.size_len]; omega)
    simp [this]
  generalize hR : rightB c = R
  unfold rightB memberB methodB emptyB at hR
  rw [class_or] at hR
  have HA := D.hidIt (And.intro hA hA0)
  have HR := D.hidIt hR
  clear hR hA hA0
  generalize hMM : D.meth (bsB c.dsc) = MM at *
  generalize hN3v : D.nameB (bsB c.cls) = n3 at *
  generalize D.nameB (bsB c.nm) = n4 at *
  generalize hF3v : D.fieldB (bsB c.cls) = f3 at *
  generalize D.fieldB (bsB c.dsc) = f5 at *
  generalize arrayB c.cls = ar at *
  have hMM' := D.hidIt hMM
  clear hMM hN3v hF3v
  obtain ⟨kind, n, cls, nm, dsc⟩ := c
  unfold CD.val at *
  simp only at HN3 HN4 HF3 HF5 HM HR HA s3 s4 s5 hMM' ⊢
  go_enter Tryd.func22, Tryd.ntmps22
  go_wp2_with fail
  refine (HM _).out.mono ?_
  rintro e w2 ⟨b2, ha⟩
  have BB := (b1 _).trans (b2.mono (by simp))
  have hbx2 := hbx.below b2
  obtain ⟨c0, c1, c2, c3, c4⟩ := hbx2
  simp only at c0 c1 c2 c3 c4
  have hM2 : ∃ v s, e = .returned (.tuple #[v, .string s, .bool MM.isSome]) := by
    rcases ha with ⟨ps, r, v, hm, rfl, ho⟩ | ⟨hm, rfl⟩
    · have : MM = some (ps, r) := hMM'.out.symm.trans hm
      rw [this]; exact ⟨_, _, rfl⟩
    · have : MM = none := hMM'.out.symm.trans hm
      rw [this]; exact ⟨_, _, rfl⟩
  obtain ⟨v, s, rfl⟩ := hM2
  clear ha hMM' HM b2 hbx hf
  generalize MM.isSome = mb at *
  go_upto_region 2 with fail
  go_cut [6] from 14 to 28 (fun s6 wx => s6 = .bool ar ∧ wx = w2)
  case first =>
    by_cases h0 : 0 < cls.size
    · have h0' : (0 : Int) < (cls.size : Int) := by omega
      have hA := HA.out.1 h0
      by_cases e : cls[0].toNat = 91
      · have eb : ((cls[0].toNat : Int) == 91) = true := by simp; omega
        rw [decide_eq_true e, Bool.and_true] at hA
        have HAA := D.hidIt hA
        clear hA
        go_wp2_with fail
        refine (HF3 _).out.mono ?_
        rintro e w' ⟨rfl, hww⟩; cases hww
        go_wp2
        go_meet
        exact ⟨by rw [HAA.out], rfl⟩
      · have eb : ((cls[0].toNat : Int) == 91) = false := by simp; omega
        rw [decide_eq_false e, Bool.and_false] at hA
        have HAA := D.hidIt hA
        clear hA
        go_wp2
        go_meet
        exact ⟨by rw [HAA.out], rfl⟩
    · have h0' : ¬ (0 : Int) < (cls.size : Int) := by omega
      have HAA := D.hidIt (HA.out.2 h0)
      go_wp2
      go_meet
      exact ⟨by rw [HAA.out], rfl⟩
  case rest =>
    obtain ⟨rfl, hwc⟩ := hcut
    subst hwc
    clear HA HF3
    by_cases k3 : kind = 3
    · subst k3
      go_wp2
      all_goals (go_ret; refine ⟨ret_b ?_, BB⟩; rw [← HR.out]; simp_all)
    · by_cases k7 : kind = 7
      · subst k7
        by_cases h0 : n = 0
        · subst h0
          go_wp2_with fail
          refine (HN3 _).out.mono ?_
          rintro e w' ⟨rfl, hww⟩; cases hww
          cases n3
          · cases ar
            · go_wp2
              all_goals (go_ret; refine ⟨ret_b ?_, BB⟩; rw [← HR.out]; simp_all)
            · go_wp2
              all_goals (go_ret; refine ⟨ret_b ?_, BB⟩; rw [← HR.out]; simp_all)
          · go_wp2
            all_goals (go_ret; refine ⟨ret_b ?_, BB⟩; rw [← HR.out]; simp_all)
        · go_wp2
          all_goals (go_ret; refine ⟨ret_b ?_, BB⟩; rw [← HR.out]; simp_all)
      · by_cases k9 : kind = 9
        · subst k9
          by_cases h0 : n = 0
          · subst h0
            go_wp2_with fail
            refine (HN3 _).out.mono ?_
            rintro e w' ⟨rfl, hww⟩; cases hww
            cases n3
            · go_wp2
              all_goals (go_ret; refine ⟨ret_b ?_, BB⟩; rw [← HR.out]; simp_all)
            · go_wp2_with fail
              refine (HN4 _).out.mono ?_
              rintro e w' ⟨rfl, hww⟩; cases hww
              cases n4
              · go_wp2
                all_goals (go_ret; refine ⟨ret_b ?_, BB⟩; rw [← HR.out]; simp_all)
              · go_wp2_with fail
                refine (HF5 _).out.mono ?_
                rintro e w' ⟨rfl, hww⟩; cases hww
                go_wp2
                all_goals (go_ret; refine ⟨ret_b ?_, BB⟩; rw [← HR.out]; simp_all)
          · go_wp2
            all_goals (go_ret; refine ⟨ret_b ?_, BB⟩; rw [← HR.out]; simp_all)
        · by_cases k10 : kind = 10
          · subst k10
            by_cases h0 : n = 0
            · subst h0
              go_wp2_with fail
              refine (HN3 _).out.mono ?_
              rintro e w' ⟨rfl, hww⟩; cases hww
              cases n3
              · go_wp2
                all_goals (go_ret; refine ⟨ret_b ?_, BB⟩; rw [← HR.out]; simp_all)
              · go_wp2_with fail
                refine (HN4 _).out.mono ?_
                rintro e w' ⟨rfl, hww⟩; cases hww
                cases n4
                · go_wp2
                  all_goals (go_ret; refine ⟨ret_b ?_, BB⟩; rw [← HR.out]; simp_all)
                · cases mb
                  · go_wp2
                    all_goals (go_ret; refine ⟨ret_b ?_, BB⟩; rw [← HR.out]; simp_all)
                  · by_cases hd : dsc.size ≤ 256
                    · have hd' : (dsc.size : Int) ≤ 256 := by omega
                      go_wp2
                      all_goals (go_ret; refine ⟨ret_b ?_, BB⟩; rw [← HR.out]; simp [hd])
                    · have hd' : ¬ (dsc.size : Int) ≤ 256 := by omega
                      go_wp2
                      all_goals (go_ret; refine ⟨ret_b ?_, BB⟩; rw [← HR.out]; simp [hd, hd'])
            · go_wp2
              all_goals (go_ret; refine ⟨ret_b ?_, BB⟩; rw [← HR.out]; simp_all)
          · go_wp2
            all_goals (go_ret; refine ⟨ret_b ?_, BB⟩; rw [← HR.out]; simp_all)
end Go.Proofs.YtjnaiekdbigikaaDoor
