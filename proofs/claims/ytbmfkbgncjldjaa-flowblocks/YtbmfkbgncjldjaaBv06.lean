/- Texts RR PA PG PH RG MA. -/
import Derived.Test.YtbmfkbgncjldjaaBv05
import Derived.Deep.CutRange
import Derived.Deep.RegionLaw
import Derived.Deep.AppendLies
import Derived.Deep.QuietTactic
import Derived.BigQuiet
import Derived.WalkKit
import Derived.WalkSpells
import Derived.WalkLawsBesides
import Derived.Maps.AppendAt
namespace Go.Proofs.Ytbmfkbgncjldjaa.P3
open Go.RowKit
structure CD.Small (c : CD) : Prop where
  c3 : c.cls.size ≤ 1073741824
  c4 : c.nm.size ≤ 1073741824
  c5 : c.dsc.size ≤ 1073741824

def arrayB (s : ByteArray) : Bool := decide (D.fieldB (bsB s) = true ∧ (bsB s)[0]? = some 91)
theorem elem_array (s : ByteArray) : (D.elemZ (bsB s)).2 = arrayB s := by
  unfold D.elemZ arrayB
  by_cases h : D.fieldB (bsB s) = true ∧ (bsB s)[0]? = some 91
  · rw [if_pos h, decide_eq_true h]
  · rw [if_neg h, decide_eq_false h]
theorem class_or (s : ByteArray) : classB s = (D.nameB (bsB s) || arrayB s) := by
  unfold classB
  rw [elem_array, Bool.or_comm]

set_option maxRecDepth 8000 in
set_option maxHeartbeats 8000000 in
theorem rright_any (c : CD) (w : World) (hf : c.Small) :
    Calls Try.prog 125 #[c.val] w fun e w' => e = .returned (.bool (rightB c)) ∧ Below w.heap.size w w' := by
  have s3 := hf.c3
  have s4 := hf.c4
  have s5 := hf.c5
  have b1 : ∀ o, Below w.heap.size w (w.alloc o) := fun o => (Below.refl _ _).alloc (Nat.le_refl _) o
  have hbx := box_at w c
  have HM := fun w => D.hidIt (D.rmethod_any c.dsc w hf.c5)
  have HN3 := fun w => D.hidIt (D.rname_any c.cls w (by omega))
  have HN4 := fun w => D.hidIt (D.rname_any c.nm w (by omega))
  have HF3 := fun w => D.hidIt (D.rfield_any c.cls w (by omega))
  have HF5 := fun w => D.hidIt (D.rfield_any c.dsc w (by omega))
  have hA : ∀ h : 0 < c.cls.size, arrayB c.cls = (D.fieldB (bsB c.cls) && decide (c.cls[0].toNat = 91)) := by
    intro h
    unfold arrayB
    by_cases e : c.cls[0].toNat = 91
    · have := (D.at0 c.cls h 91 (by omega)).2 e
      rw [decide_eq_true e]
      simp only [show (bsB c.cls)[0]? = some 91 from this, and_true, Bool.and_true]
      cases D.fieldB (bsB c.cls) <;> rfl
    · rw [decide_eq_false e]
      have : ¬ (bsB c.cls)[0]? = some 91 := fun h2 => e ((D.at0 c.cls h 91 (by omega)).1 h2)
      rw [Bool.and_false]
      exact decide_eq_false (fun h2 => this h2.2)
  have hA0 : ¬ 0 < c.cls.size → arrayB c.cls = false := by
    intro h
    unfold arrayB
    have : (bsB c.cls)[0]? = none := List.getElem?_eq_none (by unfold bsB; rw [← D.size_len]; omega)
    simp [this]
  generalize hR : rightB c = R
  unfold rightB memberB methodB emptyB at hR
  rw [class_or] at hR
  have HA := D.hidIt (And.intro hA hA0)
  have HR := D.hidIt hR
  clear hR hA hA0
  generalize hMM : D.meth (bsB c.dsc) = MM at *
  generalize hN3v : D.nameB (bsB c.cls) = n3 at *
  generalize D.nameB (bsB c.nm) = n4 at *
  generalize hF3v : D.fieldB (bsB c.cls) = f3 at *
  generalize D.fieldB (bsB c.dsc) = f5 at *
  generalize arrayB c.cls = ar at *
  have hMM' := D.hidIt hMM
  clear hMM hN3v hF3v
  obtain ⟨kind, n, cls, nm, dsc⟩ := c
  unfold CD.val at *
  simp only at HN3 HN4 HF3 HF5 HM HR HA s3 s4 s5 hMM' ⊢
  go_enter Try.func125, Try.ntmps125
  go_wp2_with fail
  refine (HM _).out.mono ?_
  rintro e w2 ⟨b2, ha⟩
  have BB := (b1 _).trans (b2.mono (by simp))
  have hbx2 := hbx.below b2
  obtain ⟨c0, c1, c2, c3, c4⟩ := hbx2
  simp only at c0 c1 c2 c3 c4
  have hM2 : ∃ v s, e = .returned (.tuple #[v, .string s, .bool MM.isSome]) := by
    rcases ha with ⟨ps, r, v, hm, rfl, ho⟩ | ⟨hm, rfl⟩
    · have : MM = some (ps, r) := hMM'.out.symm.trans hm
      rw [this]; exact ⟨_, _, rfl⟩
    · have : MM = none := hMM'.out.symm.trans hm
      rw [this]; exact ⟨_, _, rfl⟩
  obtain ⟨v, s, rfl⟩ := hM2
  clear ha hMM' HM b2 hbx hf
  generalize MM.isSome = mb at *
  go_upto_region 2 with fail
  go_cut [6] from 14 to 28 (fun s6 wx => s6 = .bool ar ∧ wx = w2)
  case first =>
    by_cases h0 : 0 < cls.size
    · have h0' : (0 : Int) < (cls.size : Int) := by omega
      have hA := HA.out.1 h0
      by_cases e : cls[0].toNat = 91
      · have eb : ((cls[0].toNat : Int) == 91) = true := by simp; omega
        rw [decide_eq_true e, Bool.and_true] at hA
        have HAA := D.hidIt hA
        clear hA
        go_wp2_with fail
        refine (HF3 _).out.mono ?_
        rintro e w' ⟨rfl, hww⟩; cases hww
        go_wp2
        go_meet
        exact ⟨by rw [HAA.out], rfl⟩
      · have eb : ((cls[0].toNat : Int) == 91) = false := by simp; omega
        rw [decide_eq_false e, Bool.and_false] at hA
        have HAA := D.hidIt hA
        clear hA
        go_wp2
        go_meet
        exact ⟨by rw [HAA.out], rfl⟩
    · have h0' : ¬ (0 : Int) < (cls.size : Int) := by omega
      have HAA := D.hidIt (HA.out.2 h0)
      go_wp2
      go_meet
      exact ⟨by rw [HAA.out], rfl⟩
  case rest =>
    obtain ⟨rfl, hwc⟩ := hcut
    subst hwc
    clear HA HF3
    by_cases k3 : kind = 3
    · subst k3
      go_wp2
      all_goals (go_ret; refine ⟨ret_b ?_, BB⟩; rw [← HR.out]; simp_all)
    · by_cases k7 : kind = 7
      · subst k7
        by_cases h0 : n = 0
        · subst h0
          go_wp2_with fail
          refine (HN3 _).out.mono ?_
          rintro e w' ⟨rfl, hww⟩; cases hww
          cases n3
          · cases ar
            · go_wp2
              all_goals (go_ret; refine ⟨ret_b ?_, BB⟩; rw [← HR.out]; simp_all)
            · go_wp2
              all_goals (go_ret; refine ⟨ret_b ?_, BB⟩; rw [← HR.out]; simp_all)
          · go_wp2
            all_goals (go_ret; refine ⟨ret_b ?_, BB⟩; rw [← HR.out]; simp_all)
        · go_wp2
          all_goals (go_ret; refine ⟨ret_b ?_, BB⟩; rw [← HR.out]; simp_all)
      · by_cases k9 : kind = 9
        · subst k9
          by_cases h0 : n = 0
          · subst h0
            go_wp2_with fail
            refine (HN3 _).out.mono ?_
            rintro e w' ⟨rfl, hww⟩; cases hww
            cases n3
            · go_wp2
              all_goals (go_ret; refine ⟨ret_b ?_, BB⟩; rw [← HR.out]; simp_all)
            · go_wp2_with fail
              refine (HN4 _).out.mono ?_
              rintro e w' ⟨rfl, hww⟩; cases hww
              cases n4
              · go_wp2
                all_goals (go_ret; refine ⟨ret_b ?_, BB⟩; rw [← HR.out]; simp_all)
              · go_wp2_with fail
                refine (HF5 _).out.mono ?_
                rintro e w' ⟨rfl, hww⟩; cases hww
                go_wp2
                all_goals (go_ret; refine ⟨ret_b ?_, BB⟩; rw [← HR.out]; simp_all)
          · go_wp2
            all_goals (go_ret; refine ⟨ret_b ?_, BB⟩; rw [← HR.out]; simp_all)
        · by_cases k10 : kind = 10
          · subst k10
            by_cases h0 : n = 0
            · subst h0
              go_wp2_with fail
              refine (HN3 _).out.mono ?_
              rintro e w' ⟨rfl, hww⟩; cases hww
              cases n3
              · go_wp2
                all_goals (go_ret; refine ⟨ret_b ?_, BB⟩; rw [← HR.out]; simp_all)
              · go_wp2_with fail
                refine (HN4 _).out.mono ?_
                rintro e w' ⟨rfl, hww⟩; cases hww
                cases n4
                · go_wp2
                  all_goals (go_ret; refine ⟨ret_b ?_, BB⟩; rw [← HR.out]; simp_all)
                · cases mb
                  · go_wp2
                    all_goals (go_ret; refine ⟨ret_b ?_, BB⟩; rw [← HR.out]; simp_all)
                  · by_cases hd : dsc.size ≤ 256
                    · have hd' : (dsc.size : Int) ≤ 256 := by omega
                      go_wp2
                      all_goals (go_ret; refine ⟨ret_b ?_, BB⟩; rw [← HR.out]; simp [hd])
                    · have hd' : ¬ (dsc.size : Int) ≤ 256 := by omega
                      go_wp2
                      all_goals (go_ret; refine ⟨ret_b ?_, BB⟩; rw [← HR.out]; simp [hd, hd'])
            · go_wp2
              all_goals (go_ret; refine ⟨ret_b ?_, BB⟩; rw [← HR.out]; simp_all)
          · go_wp2
            all_goals (go_ret; refine ⟨ret_b ?_, BB⟩; rw [← HR.out]; simp_all)
end Go.Proofs.Ytbmfkbgncjldjaa.P3
namespace Go.Proofs.Ytbmfkbgncjldjaa.P3
open Go.RowKit
def addZ (l : List CD) (c : CD) : List CD × Int × Int :=
  if rightB c = true then
    match idxO c l with
    | some k => (l, (k : Int), 0)
    | none => if 256 ≤ l.length then ([], 0, 4) else (l ++ [c], (l.length : Int), 0)
  else ([], 0, 14)
theorem addZ_no {l : List CD} {c : CD} (h : rightB c = false) : addZ l c = ([], 0, 14) := by unfold addZ; rw [if_neg (by simp [h])]
theorem addZ_has {l : List CD} {c : CD} {k : Nat} (h : rightB c = true) (hk : idxO c l = some k) : addZ l c = (l, (k : Int), 0) := by unfold addZ; rw [if_pos h, hk]
theorem addZ_full {l : List CD} {c : CD} (h : rightB c = true) (hk : idxO c l = none) (hl : 256 ≤ l.length) : addZ l c = ([], 0, 4) := by unfold addZ; rw [if_pos h, hk]; simp [hl]
theorem addZ_more {l : List CD} {c : CD} (h : rightB c = true) (hk : idxO c l = none) (hl : ¬ 256 ≤ l.length) : addZ l c = (l ++ [c], (l.length : Int), 0) := by unfold addZ; rw [if_pos h, hk]; simp [hl]

theorem own_base {w : World} {B B' s n : Nat} {e : TypeId} {v : Value} {xs : List Value} (h : w.ownsRow B e s v n xs) (hB : B' ≤ B) : w.ownsRow B' e s v n xs := by
  refine ⟨h.1, ?_⟩
  rcases h.2 with x | ⟨g, cap, cur, e, hb, r⟩
  · exact .inl x
  · exact .inr ⟨g, cap, cur, e, by omega, r⟩

end Go.Proofs.Ytbmfkbgncjldjaa.P3
namespace Go.Proofs.Ytbmfkbgncjldjaa.P3
open Go.RowKit
end Go.Proofs.Ytbmfkbgncjldjaa.P3
namespace Go.Proofs.Ytbmfkbgncjldjaa.P3
open Go.RowKit
theorem crun_append_view (w : World) (ty : TypeId) (B : Nat) (v vb : Value) (n : Nat) (xs : List Value) (lb : List CD) (hown : w.ownsRow B 153 5 v n xs) (hv : CView w vb lb) (hlen : (n + lb.length) * 64 ≤ 140737488355328) (hB : B ≤ w.heap.size) :
    ∃ v' w', (Builtin.append_ #[60, 60] ty #[v, vb]).run Try.prog w = .ok v' w' ∧ w'.ownsRow B 153 5 v' (n + lb.length) (xs ++ ccells lb) ∧ w.grownBy w' v.ownBlock ∧ (v'.ownBlock = v.ownBlock ∨ v'.ownBlock = some w.heap.size) := by
  obtain ⟨i0, hi, hz0, hz1, hz2⟩ := info_parts Try.info153
  obtain ⟨ao, cap, rfl, hc, hm, _, hl⟩ := hv
  rcases hl with rfl | ⟨g, off, rfl, hl⟩
  · refine ⟨v, w, ?_, by simpa [ccells] using hown, ⟨rfl, rfl, rfl, Nat.le_refl _, fun _ _ _ => rfl⟩, .inl rfl⟩
    rcases hown.2 with ⟨rfl, rfl⟩ | ⟨g, cap, cur, rfl, hbg, hg, hnc, hcm, hcs, htake⟩
    · cases ao <;> simp [Builtin.append_, run_underlying Try.underlying60, sizeOf, typeInfo, hi, Builtin.lenOf, Builtin.firstCells, loadCells, loadCellsFrom]
    · cases ao <;> simp [Builtin.append_, run_underlying Try.underlying60, sizeOf, typeInfo, hi, Builtin.lenOf, Builtin.firstCells, loadCells, loadCellsFrom, hnc, storeCells]
  · obtain ⟨v', w', hr, ho, hg, _, hat⟩ := run_append_own_at (P := Try.prog) w B 60 ty 153 i0 zeroC.val 5 64 Try.underlying60 hi hz0 hz1 hz2 rfl (by decide) v n xs hown ⟨g, off, none⟩ lb.length cap (ccells lb) (ccells_len lb) hl.cells (ccells_one lb) (by unfold maxLen; omega) (by omega) hB
    exact ⟨v', w', hr, ho, hg, hat⟩

theorem wpList_cappend_view {w : World} {ops : Array Oper} {rest : List Oper} {o : Oper} {a : Act} {Q : Exit → Act → World → Prop} (hgd : o.guard = none) (s x : Operand)
    (ho : o.op = .call { callee := .builtin .append, args := #[s, x], argTypes := #[60, 60] })
    (B : Nat) (v vb : Value) (n : Nat) (xs : List Value) (lb : List CD) (hs : a.eval s = v) (hown : w.ownsRow B 153 5 v n xs) (hx : a.eval x = vb) (hv : CView w vb lb)
    (hlen : (n + lb.length) * 64 ≤ 140737488355328) (hB : B ≤ w.heap.size)
    (h : ∀ v' w', w'.ownsRow B 153 5 v' (n + lb.length) (xs ++ ccells lb) → w.grownBy w' v.ownBlock → (v'.ownBlock = v.ownBlock ∨ v'.ownBlock = some w.heap.size) → wpList Try.prog ops Q rest (a.put o.dst v') w') :
    wpList Try.prog ops Q (o :: rest) a w := by
  refine wpList_plain hgd fun K hK => ?_
  obtain ⟨v', w', hr, h2, h3, h4⟩ := crun_append_view w o.type B v vb n xs lb hown hv hlen hB
  unfold Oper.wp execOp
  simp only [ho, resolve, invoke, builtin, Sem.run_bind, Sem.run_pure, Result.andThen_ok, List.map_toArray, List.map_cons, List.map_nil, hs, hx, hr]
  exact hK _ _ (h v' w' h2 h3 h4)
end Go.Proofs.Ytbmfkbgncjldjaa.P3
namespace Go.Proofs.Ytbmfkbgncjldjaa.P3
open Go.RowKit
theorem ceq_comm (c d : CD) : ceq c d = ceq d c := by
  cases h : ceq c d with
  | true => have := (ceq_iff c d).1 h; subst this; exact h.symm
  | false =>
    cases h2 : ceq d c with
    | true => have := (ceq_iff d c).1 h2; subst this; rw [h] at h2; cases h2
    | false => rfl

set_option maxRecDepth 8000 in
set_option maxHeartbeats 4000000 in
theorem radd_any (v : Value) (l : List CD) (c : CD) (w : World) (hv : CView w v l) (hc : c.Small) (hlen : l.length * 64 ≤ 70368744177664) :
    Calls Try.prog 119 #[v, c.val] w fun e w' => Below w.heap.size w w' ∧ ∃ v', e = .returned (.tuple #[v', .int .i64 (addZ l c).2.1, .int .i64 (addZ l c).2.2]) ∧ w'.ownsRow w.heap.size 153 5 v' (addZ l c).1.length (ccells (addZ l c).1) := by
  obtain ⟨i0, hi, hz0, hz1, hz2⟩ := info_parts Try.info153
  have hbx := box_at w c
  have b1 : Below w.heap.size w (w.alloc (.cells #[.int .i64 c.kind, .int .i32 c.n, .string c.cls, .string c.nm, .string c.dsc] 153)) := (Below.refl _ _).alloc (Nat.le_refl _) _
  have hv1 := hv.below b1
  have HR := fun w => D.hidIt (rright_any c w hc)
  have hz1' : (w.alloc (.cells #[.int .i64 c.kind, .int .i32 c.n, .string c.cls, .string c.nm, .string c.dsc] 153)).heap.size = w.heap.size + 1 := by simp
  cases hr : rightB c with
  | false =>
    rw [addZ_no hr]
    rw [hr] at HR
    clear hr
    unfold CD.val at *
    go_enter Try.func119, Try.ntmps119
    go_wp2_with fail
    refine (HR _).out.mono ?_
    rintro e w2 ⟨rfl, b2⟩
    go_wp2
    go_ret3
    exact ⟨b1.trans (b2.mono (by omega)), _, rfl, World.ownsRow_nil _ _ _ _⟩
  | true =>
    rw [hr] at HR
    have HRT := D.hidIt hr
    have HZ : Hid (addZ l c = addZ l c) := rfl
    generalize hAZ : addZ l c = AZ at *
    have HAZ := D.hidIt hAZ
    have HEQ : Hid (∀ d wx, (binOp .eql 153 d.val c.val).run Try.prog wx = .ok (.bool (ceq d c)) wx) := fun d wx => run_ceq wx d c
    clear hr hAZ HZ
    obtain ⟨ao, cap, rfl, _, hm, hok, _⟩ := id hv1
    unfold maxLen at hm
    have hcz : Hid (ccells l ++ [.int .i64 c.kind, .int .i32 c.n, .string c.cls, .string c.nm, .string c.dsc] = ccells (l ++ [c])) := by show _ = _; rw [ccells_append]; rfl
    unfold CD.val at HR HEQ ⊢
    go_enter Try.func119, Try.ntmps119
    go_wp2_with fail
    refine (HR _).out.mono ?_
    rintro e w2 ⟨rfl, b2⟩
    have hs2 := b2.size
    rw [hz1'] at hs2
    have hv2 := hv1.below b2
    have hbx2 := hbx.below b2
    have B2 := b1.trans (b2.mono (by omega))
    have ba : Below w2.heap.size w2 (w2.alloc (.cells #[] 153)) := (Below.refl _ _).alloc (Nat.le_refl _) _
    have hown0 : (w2.alloc (.cells #[] 153)).ownsRow w2.heap.size 153 5 (.slice (some ⟨w2.heap.size, 0, none⟩) 0 0) 0 [] := World.ownsRow_made w2 #[] 0 (Nat.le_refl _) (by unfold maxLen; omega) rfl
    have hv2a := hv2.below ba
    go_wp2_with (at_builtin; refine wpList_cappend_view rfl _ _ rfl w2.heap.size _ _ _ _ l rfl hown0 rfl hv2a (by omega) (by simp) ?_; intro v3 w3 o3 g3 _)
    rw [Nat.zero_add, List.nil_append] at o3
    have B3 : Below w2.heap.size w2 w3 := ba.grown g3 (by simp) (fun k hk => (hown0.lt k hk).1)
    have z3 := B3.size
    have hv3 := hv2.below B3
    have hbx3 := hbx2.below B3
    have B3w := B2.trans (B3.mono (by omega))
    obtain ⟨ao3, cap3, rfl⟩ := cown_slice o3
    clear hbx2 hv2 hv2a hown0 g3 ba hbx hv1 b2 b1
    obtain ⟨_, _, ee, _, _, _, hl⟩ := id hv3
    cases ee
    go_wp2
    go_loopw [8] (fun i wr => ∃ k q : Nat, k ≤ l.length ∧ i = .int .i64 (k : Int) ∧ wr = w3.drewN q ∧ Hid (∀ x ∈ l.take k, ceq c x = false)) (fun i _ => l.length - (intOf i).toNat)
    case atStart => exact ⟨0, 0, by omega, rfl, rfl, fun x hx => by simp at hx⟩
    case round =>
      obtain ⟨k, q, hk, rfl, rfl, HN⟩ := hrel
      by_cases hlt : k < l.length
      · obtain ⟨g, off, rfl, hla⟩ : ∃ g off, ao = some ⟨g, off, none⟩ ∧ CLies w3 g off l := by
          rcases hl with e | h
          · rw [e] at hlt; simp at hlt
          · exact h
        have HL : Hid (l[k]? = some l[k]) := by show _ = _; simp [hlt]
        have hd := hla k l[k] (by simp [hlt])
        have h1 : (k : Int) < (l.length : Int) := by omega
        have he := HEQ.out l[k]
        clear hla hl
        generalize l[k] = d at *
        obtain ⟨d0, d1, d2, d3, d4⟩ := hd
        obtain ⟨c0, c1, c2, c3, c4⟩ := id hbx3
        generalize hcd : ceq d c = b at *
        have HCD := D.hidIt hcd
        clear hcd
        cases b
        · go_wp2
          go_quiet (fail)
          go_wp2
          refine ⟨⟨k + 1, _, by omega, by go_num, rfl, ?_⟩, by simp [intOf]; omega⟩
          intro x hx
          rw [List.take_add_one, HL.out] at hx
          rcases List.mem_append.1 hx with hx | hx
          · exact HN.out x hx
          · simp at hx; subst hx; rw [ceq_comm]; exact HCD.out
        · go_wp2
          go_quiet (fail)
          go_wp2
          go_ret3
          have e : AZ = (l, (k : Int), 0) := by
            rw [← HAZ.out]
            exact addZ_has HRT.out (idxO_some HL.out (by rw [ceq_comm]; exact HCD.out) HN.out)
          rw [e]
          exact ⟨below_drewN (below_drewN B3w _) _, _, rfl, own_base o3 (by omega)⟩
      · have h1 : ¬ (k : Int) < (l.length : Int) := by omega
        have HI : Hid (idxO c l = none) := idxO_none (fun x hx => HN.out x (by rw [List.take_of_length_le (by omega)]; exact hx))
        obtain ⟨c0, c1, c2, c3, c4⟩ := id hbx3
        by_cases h256 : 256 ≤ l.length
        · have h256' : (256 : Int) ≤ (l.length : Int) := by omega
          go_wp2
          go_ret3
          have e : AZ = ([], 0, 4) := by rw [← HAZ.out]; exact addZ_full HRT.out HI.out h256
          rw [e]
          exact ⟨below_drewN B3w _, _, rfl, World.ownsRow_nil _ _ _ _⟩
        · have h256' : ¬ (256 : Int) ≤ (l.length : Int) := by omega
          have o3q : (w3.drewN q).ownsRow w2.heap.size 153 5 (.slice ao3 l.length cap3) l.length (ccells l) := o3
          have B3q := below_drewN B3w q
          have z3q : w2.heap.size ≤ (w3.drewN q).heap.size := z3
          have C3q : CAt (w3.drewN q) w.heap.size 0 c := hbx3.block rfl
          clear c0 c1 c2 c3 c4
          obtain ⟨c0, c1, c2, c3, c4⟩ := id C3q
          generalize w3.drewN q = w4 at *
          go_wp2_with (at_builtin; refine wpList_append_own_at _ rfl _ _ 60 rfl w2.heap.size 153 i0 _ 5 64 Try.underlying60 hi hz0 hz1 hz2 rfl (by decide) _ _ _ rfl (o3q.alloc _) _ 1 1 [.int .i64 c.kind, .int .i32 c.n, .string c.cls, .string c.nm, .string c.dsc] rfl rfl ?q1 ?q2 ?q3 ?q4 ?q5 ?q6)
          case q2 => exact ⟨rfl, rfl, rfl, rfl, rfl⟩
          case q3 => unfold maxLen; omega
          case q4 => omega
          case q5 => omega
          intro v5 w5 o5 g5 _ _
          have B5 : Below w.heap.size w w5 := (B3q.alloc (by omega) _).grown g5 (by simp; omega) (fun k hk => by have := (o3q.lt k hk).1; omega)
          have O5 := own_base (B' := w.heap.size) o5 (by omega)
          rw [hcz.out] at O5
          go_wp2
          go_ret3
          have e : AZ = (l ++ [c], (l.length : Int), 0) := by rw [← HAZ.out]; exact addZ_more HRT.out HI.out h256
          rw [e]
          refine ⟨B5, _, rfl, ?_⟩
          rw [List.length_append]
          exact O5
end Go.Proofs.Ytbmfkbgncjldjaa.P3
namespace Go.Proofs.Ytbmfkbgncjldjaa.M
open Go.RowKit

theorem hidIt {p : Prop} (h : p) : Hid p := h
theorem ret_int {k : IntKind} {a b : Int} (h : a = b) : Ending.returned (.int k a) = .returned (.int k b) := by rw [h]
theorem below_alloc (w : World) (o : Obj) : Below w.heap.size w (w.alloc o) := (Below.refl _ _).alloc (Nat.le_refl _) o
theorem below_drewN {B : Nat} {w W : World} (h : Below B w W) (q : Nat) : Below B w (W.drewN q) := ⟨h.os, h.tape, h.output, h.size, h.block⟩
theorem cell_row {w : World} {b : Nat} {cs : Array Value} {T : TypeId} (h : w.heap[b]? = some (.cells cs T (0, 0))) (j : Nat) {v : Value} (hv : cs[j]? = some v) : w.cell? ⟨b, j, none⟩ = some v := by
  rw [cell_of_row w b j _ T (0, 0) h]; exact hv
theorem frozen_row {w : World} {b : Nat} {cs : Array Value} {T : TypeId} (hb : w.heap[b]? = some (.cells cs T (0, 0))) (j : Nat) : w.frozen? ⟨b, j, none⟩ = false := by
  simp [World.frozen?, hb]
theorem set_row {w : World} {g j : Nat} {cur : Array Value} {T : TypeId} {u : Value} (h : w.heap[g]? = some (.cells cur T (0, 0))) : (w.setCell ⟨g, j, none⟩ u).heap[g]? = some (.cells (cur.setIfInBounds j u) T (0, 0)) := by
  simp only [World.setCell, Array.getElem?_modify, if_pos, h, Option.map_some]
  try simp
theorem other_block {w : World} {k k' : Nat} {cs cs' : Array Value} {T T' : TypeId} {f f' : Nat × Nat} (h : w.heap[k]? = some (.cells cs T f)) (h' : w.heap[k']? = some (.cells cs' T' f')) (hT : T ≠ T') : k ≠ k' := by
  rintro rfl
  rw [h] at h'
  cases h'
  exact hT rfl
theorem own_slice {w : World} {B e s n : Nat} {v : Value} {xs : List Value} (h : w.ownsRow B e s v n xs) : ∃ ao cap, v = .slice ao n cap := by
  rcases h.2 with ⟨rfl, rfl⟩ | ⟨g, cap, cur, rfl, _⟩
  · exact ⟨_, _, rfl⟩
  · exact ⟨_, _, rfl⟩

def Same (T : TypeId) (w w' : World) : Prop := ∀ (g : Nat) (cur : Array Value), w.heap[g]? = some (.cells cur T (0, 0)) → w'.heap[g]? = some (.cells cur T (0, 0))
theorem Same.refl (T : TypeId) (w : World) : Same T w w := fun _ _ h => h
theorem Same.trans {T : TypeId} {a b c : World} (h : Same T a b) (k : Same T b c) : Same T a c := fun g cur hg => k g cur (h g cur hg)
theorem Same.of_below {T : TypeId} {w w' : World} (h : Below w.heap.size w w') : Same T w w' := fun g _ hg => (h.block g (Array.getElem?_eq_some_iff.1 hg).1).trans hg
theorem Same.of_set {T : TypeId} {w : World} {k o U : Nat} {cs : Array Value} {u : Value} (h : w.heap[k]? = some (.cells cs U (0, 0))) (hT : T ≠ U) : Same T w (w.setCell ⟨k, o, none⟩ u) := fun g cur hg => by
  rw [Below.heap_setCell _ _ _ _ (other_block hg h hT)]; exact hg
theorem Same.of_grown {w w' : World} {B U s n : Nat} {v : Value} {xs : List Value} (own : w.ownsRow B U s v n xs) (h : w.grownBy w' v.ownBlock) {T : TypeId} (hT : T ≠ U) : Same T w w' := fun g cur hg => by
  have hlt := (Array.getElem?_eq_some_iff.1 hg).1
  have hne : some g ≠ v.ownBlock := by
    intro e
    rcases own.2 with ⟨rfl, _⟩ | ⟨g', _, _, rfl, _, h1, _⟩
    · cases e
    · cases e
      rw [h1] at hg
      cases hg
      exact hT rfl
  exact (h.block g hlt hne).trans hg
theorem own_same {w w' : World} {B T s n : Nat} {v : Value} {xs : List Value} (h : w.ownsRow B T s v n xs) (k : Same T w w') : w'.ownsRow B T s v n xs := by
  refine ⟨h.1, ?_⟩
  rcases h.2 with x | ⟨g, cap, cur, rfl, hB, hg, r⟩
  · exact .inl x
  · exact .inr ⟨g, cap, cur, rfl, hB, k g cur hg, r⟩

structure Kq (B pr : Nat) (w w' : World) : Prop where
  os : w'.os = w.os
  tape : w'.tape = w.tape
  output : w'.output = w.output
  size : w.heap.size ≤ w'.heap.size
  block : ∀ k, k < B → k ≠ pr → w'.heap[k]? = w.heap[k]?
theorem Kq.refl (B pr : Nat) (w : World) : Kq B pr w w := ⟨rfl, rfl, rfl, Nat.le_refl _, fun _ _ _ => rfl⟩
theorem Kq.trans {B pr : Nat} {a b c : World} (h : Kq B pr a b) (k : Kq B pr b c) : Kq B pr a c := ⟨k.os.trans h.os, k.tape.trans h.tape, k.output.trans h.output, Nat.le_trans h.size k.size, fun i hi hp => (k.block i hi hp).trans (h.block i hi hp)⟩
theorem Kq.of_below {B pr C : Nat} {w w' : World} (h : Below C w w') (hB : B ≤ C) : Kq B pr w w' := ⟨h.os, h.tape, h.output, h.size, fun k hk _ => h.block k (by omega)⟩
theorem Kq.drew {B pr : Nat} {w w' : World} (h : Kq B pr w w') (q : Nat) : Kq B pr w (w'.drewN q) := ⟨h.os, h.tape, h.output, h.size, h.block⟩
theorem Kq.set {B pr k o : Nat} {w w' : World} {u : Value} (h : Kq B pr w w') (hk : B ≤ k ∨ k = pr) : Kq B pr w (w'.setCell ⟨k, o, none⟩ u) :=
  ⟨h.os, h.tape, h.output, by simpa [World.setCell] using h.size, fun i hi hp => by rw [Below.heap_setCell _ _ _ _ (by show i ≠ k; omega)]; exact h.block i hi hp⟩
theorem Kq.grown {B pr : Nat} {w w1 w' : World} {g : Option Nat} (h : Kq B pr w w1) (k : w1.grownBy w' g) (hB : B ≤ w1.heap.size) (hg : ∀ x, g = some x → B ≤ x) : Kq B pr w w' :=
  ⟨k.os.trans h.os, k.tape.trans h.tape, k.output.trans h.output, Nat.le_trans h.size k.size, fun i hi hp => (k.block i (by omega) (fun e => by have := hg i e.symm; omega)).trans (h.block i hi hp)⟩

def NV (B pr : Nat) (w : World) (v : Value) (l : List Int) : Prop :=
  ∃ ao cap, v = .slice ao l.length cap ∧ l.length ≤ cap ∧ cap ≤ maxLen ∧ (∀ x ∈ l, -9223372036854775808 ≤ x ∧ x ≤ 9223372036854775807) ∧ (l = [] ∨ ∃ g off, ao = some ⟨g, off, none⟩ ∧ g < B ∧ g < pr ∧ ∀ j x, l[j]? = some x → w.cell? ⟨g, off + j, none⟩ = some (.int .i64 x))
theorem NV.kq {B pr : Nat} {w w' : World} {v : Value} {l : List Int} (h : NV B pr w v l) (k : Kq B pr w w') : NV B pr w' v l := by
  obtain ⟨ao, cap, e, hc, hm, hx, hl⟩ := h
  refine ⟨ao, cap, e, hc, hm, hx, ?_⟩
  rcases hl with h | ⟨g, off, e, hg, hp, hl⟩
  · exact .inl h
  · exact .inr ⟨g, off, e, hg, hp, fun j x hj => (World.cell?_of_block (a := ⟨g, off + j, none⟩) (k.block g hg (Nat.ne_of_lt hp))).trans (hl j x hj)⟩

structure LN where
  pl : Int
  op : Int
  a : Int
  b : Int
  lb : Int
  hr : Int
def lrow (x : LN) : List Value := [.int .i64 x.pl, .int .i64 x.op, .int .i64 x.a, .int .i64 x.b, .int .i64 x.lb, .int .i64 x.hr]
def lcells (l : List LN) : List Value := l.flatMap lrow
theorem lcells_append (a b : List LN) : lcells (a ++ b) = lcells a ++ lcells b := by simp [lcells]
structure TR where
  f : Int
  t : Int
  a : Int
def trow (x : TR) : List Value := [.int .i64 x.f, .int .i64 x.t, .int .i64 x.a]
def tcells (l : List TR) : List Value := l.flatMap trow
theorem tcells_append (a b : List TR) : tcells (a ++ b) = tcells a ++ tcells b := by simp [tcells]
def ncells (l : List Int) : List Value := l.map (Value.int .i64)
theorem ncells_append (a b : List Int) : ncells (a ++ b) = ncells a ++ ncells b := by simp [ncells]
abbrev CD := P3.CD
abbrev ccells (l : List CD) : List Value := P3.ccells l
structure MS where
  vr : Value
  rl : List Int
  at_ : Nat
  vp : Value
  pool : List CD
  vl : Value
  ls : List LN
  vh : Value
  hs : List TR
  vt : Value
  ts : List Int
  labels : Nat
  left : Int
  depth : Nat
  plain : Bool
def mblk (pr : Nat) (s : MS) : Array Value := #[.pointer (some ⟨pr, 0, none⟩), s.vp, s.vl, .int .i64 s.labels, .bool s.plain, .int .i64 s.left, .int .i64 s.depth, s.vh, s.vt, .slice none 0 0]
structure MkP (B pr pm : Nat) (s : MS) (w : World) : Prop where
  blk : w.heap[pm]? = some (.cells (mblk pr s) 128 (0, 0))
  rec_ : w.heap[pr]? = some (.cells #[s.vr, .int .i64 s.at_] 113 (0, 0))
  rl : NV B pr w s.vr s.rl
  p : w.ownsRow 0 153 5 s.vp s.pool.length (ccells s.pool)
  l : w.ownsRow B 148 6 s.vl s.ls.length (lcells s.ls)
  h : w.ownsRow B 159 3 s.vh s.hs.length (tcells s.hs)
  t : w.ownsRow B 3 1 s.vt s.ts.length (ncells s.ts)
  hpm : B ≤ pm
  hpr : pr < B
  at_le : s.at_ ≤ s.rl.length
structure Stands (w w' : World) : Prop where
  t83 : Same 113 w w'
  t106 : Same 153 w w'
  t101 : Same 148 w w'
  t113 : Same 159 w w'
  t3 : Same 3 w w'
theorem MkP.stands {B pr pm : Nat} {s : MS} {w w' : World} (h : MkP B pr pm s w) (k : Kq B pr w w') (q : Stands w w') (h93 : Same 128 w w') : MkP B pr pm s w' :=
  ⟨h93 _ _ h.blk, q.t83 _ _ h.rec_, h.rl.kq k, own_same h.p q.t106, own_same h.l q.t101, own_same h.h q.t113, own_same h.t q.t3, h.hpm, h.hpr, h.at_le⟩
theorem MkP.lt {B pr pm : Nat} {s : MS} {w : World} (h : MkP B pr pm s w) : pm < w.heap.size ∧ B ≤ w.heap.size := by
  have := (Array.getElem?_eq_some_iff.1 h.blk).1
  have := h.hpm
  omega
theorem MkP.below {B pr pm : Nat} {s : MS} {w w' : World} (h : MkP B pr pm s w) (hb : Below w.heap.size w w') : MkP B pr pm s w' :=
  h.stands (Kq.of_below hb h.lt.2) ⟨Same.of_below hb, Same.of_below hb, Same.of_below hb, Same.of_below hb, Same.of_below hb⟩ (Same.of_below hb)
theorem MkP.drew {B pr pm : Nat} {s : MS} {w : World} (h : MkP B pr pm s w) (q : Nat) : MkP B pr pm s (w.drewN q) := ⟨h.blk, h.rec_, h.rl, h.p, h.l, h.h, h.t, h.hpm, h.hpr, h.at_le⟩
theorem MkP.set {B pr pm : Nat} {s s' : MS} {w : World} (h : MkP B pr pm s w) (o : Nat) (u : Value) (hs : (mblk pr s).setIfInBounds o u = mblk pr s')
    (e1 : s'.vr = s.vr) (e2 : s'.rl = s.rl) (e3 : s'.at_ = s.at_) (e4 : s'.vp = s.vp) (e5 : s'.pool = s.pool) (e6 : s'.vl = s.vl) (e7 : s'.ls = s.ls) (e8 : s'.vh = s.vh) (e9 : s'.hs = s.hs) (e10 : s'.vt = s.vt) (e11 : s'.ts = s.ts) :
    MkP B pr pm s' (w.setCell ⟨pm, o, none⟩ u) := by
  have S : ∀ T, T ≠ 128 → Same T w (w.setCell ⟨pm, o, none⟩ u) := fun T hT => Same.of_set h.blk hT
  refine ⟨by rw [set_row h.blk, hs], ?_, ?_, ?_, ?_, ?_, ?_, h.hpm, h.hpr, by rw [e2, e3]; exact h.at_le⟩
  · rw [e1, e3]; exact S 113 (by decide) _ _ h.rec_
  · rw [e1, e2]; exact h.rl.kq ((Kq.refl B pr w).set (.inl h.hpm))
  · rw [e4, e5]; exact own_same h.p (S 153 (by decide))
  · rw [e6, e7]; exact own_same h.l (S 148 (by decide))
  · rw [e8, e9]; exact own_same h.h (S 159 (by decide))
  · rw [e10, e11]; exact own_same h.t (S 3 (by decide))
theorem MkP.putL {B pr pm : Nat} {s : MS} {w w1 : World} {o : Obj} {v1 : Value} {x : LN} (h : MkP B pr pm s w) (hg : (w.alloc o).grownBy w1 s.vl.ownBlock) (ho : w1.ownsRow B 148 6 v1 (s.ls.length + 1) (lcells s.ls ++ lrow x)) :
    w1.heap[pm]? = some (.cells (mblk pr s) 128 (0, 0)) ∧ MkP B pr pm { s with vl := v1, ls := s.ls ++ [x] } (w1.setCell ⟨pm, 2, none⟩ v1) ∧ Kq B pr w (w1.setCell ⟨pm, 2, none⟩ v1) := by
  have hA := h.below (below_alloc w o)
  have S : ∀ T, T ≠ 148 → Same T (w.alloc o) w1 := fun T hT => Same.of_grown hA.l hg hT
  have hb := S 128 (by decide) _ _ hA.blk
  have S2 : ∀ T, T ≠ 128 → Same T w1 (w1.setCell ⟨pm, 2, none⟩ v1) := fun T hT => Same.of_set hb hT
  have hBz := h.lt.2
  have K1 : Kq B pr w w1 := (Kq.of_below (below_alloc w o) hBz).grown hg (by simp; omega) (fun k e => (hA.l.lt k e).1)
  have K2 : Kq B pr w (w1.setCell ⟨pm, 2, none⟩ v1) := K1.set (.inl h.hpm)
  refine ⟨hb, ⟨?_, (S2 113 (by decide)) _ _ ((S 113 (by decide)) _ _ hA.rec_), h.rl.kq K2, own_same hA.p ((S 153 (by decide)).trans (S2 153 (by decide))), ?_, own_same hA.h ((S 159 (by decide)).trans (S2 159 (by decide))), own_same hA.t ((S 3 (by decide)).trans (S2 3 (by decide))), h.hpm, h.hpr, h.at_le⟩, K2⟩
  · rw [set_row hb]; rfl
  · rw [show ({ s with vl := v1, ls := s.ls ++ [x] } : MS).ls = s.ls ++ [x] from rfl, lcells_append, List.length_append]
    exact own_same (by simpa [lcells] using ho) (S2 148 (by decide))
theorem infoL : (Try.prog.info? 148).map (fun i => (i.zero, i.size, i.bytes)) = some (some (.agg #[.int .i64 0, .int .i64 0, .int .i64 0, .int .i64 0, .int .i64 0, .int .i64 0]), 6, 48) := by kernel_rfl
theorem lrow_one (x : LN) : ∀ u ∈ lrow x, u.oneCell' = true := by
  intro u hu
  simp [lrow] at hu
  rcases hu with rfl | rfl | rfl | rfl | rfl | rfl <;> rfl
theorem wpList_lappend {w : World} {ops : Array Oper} {rest : List Oper} {o : Oper} {a : Act} {Q : Exit → Act → World → Prop} (hgd : o.guard = none) (s x : Operand)
    (ho : o.op = .call { callee := .builtin .append, args := #[s, x], argTypes := #[125, 125] })
    (B : Nat) (v : Value) (n : Nat) (xs : List Value) (y : LN) (hs : a.eval s = v) (hown : w.ownsRow B 148 6 v n xs) (hx : a.eval x = .slice (some ⟨w.heap.size, 0, none⟩) 1 1)
    (hlen : n ≤ 1000000) (hB : B ≤ w.heap.size)
    (h : ∀ v' w', w'.ownsRow B 148 6 v' (n + 1) (xs ++ lrow y) → (w.alloc (.cells (lrow y).toArray 148)).grownBy w' v.ownBlock → wpList Try.prog ops Q rest (a.put o.dst v') w') :
    wpList Try.prog ops Q (o :: rest) a (w.alloc (.cells (lrow y).toArray 148)) := by
  obtain ⟨i0, hi, hz0, hz1, hz2⟩ := info_parts infoL
  refine wpList_plain hgd fun K hK => ?_
  have hown' : (w.alloc (.cells (lrow y).toArray 148)).ownsRow B 148 6 v n xs := own_same hown (Same.of_below (below_alloc w _))
  obtain ⟨v', w', hr, h2, h3, _, h4⟩ := run_append_own_at (P := Try.prog) (w.alloc (.cells (lrow y).toArray 148)) B 125 o.type 148 i0 _ 6 48 Try.underlying125 hi hz0 hz1 hz2 rfl (by decide) v n xs hown' ⟨w.heap.size, 0, none⟩ 1 1 (lrow y) rfl
    (fun j u hj => by
      have e : (⟨w.heap.size, 0, none⟩ : Addr).add j = ⟨w.heap.size, j, none⟩ := by unfold Addr.add; split <;> simp_all
      rw [e]
      exact cell_row (heap_alloc_new w _) j (by simpa using hj)) (lrow_one y) (by unfold maxLen; omega) (by omega) (by simp; omega)
  unfold Oper.wp execOp
  simp only [ho, resolve, invoke, builtin, Sem.run_bind, Sem.run_pure, Result.andThen_ok, List.map_toArray, List.map_cons, List.map_nil, hs, hx, hr]
  exact hK _ _ (h v' w' h2 h3)
structure SG where
  pool : List CD
  ls : List LN
  labels : Nat
  left : Int
  hs : List TR
  ts : List Int
def MS.sg (s : MS) : SG := ⟨s.pool, s.ls, s.labels, s.left, s.hs, s.ts⟩
def SG.put (σ : SG) (op a b : Int) : SG := { σ with ls := σ.ls ++ [⟨0, op, a, b, -1, -1⟩], left := σ.left - 1 }
def SG.jump (σ : SG) (op lbl : Int) : SG := { σ with ls := σ.ls ++ [⟨0, op, 0, 0, lbl, -1⟩], left := σ.left - 1 }
def SG.here (σ : SG) (lbl : Int) : SG := { σ with ls := σ.ls ++ [⟨0, -1, 0, 0, -1, lbl⟩] }
def SG.mark (σ : SG) : SG := { σ with labels := σ.labels + 1 }
def SG.add (σ : SG) (c : CD) : SG := { σ with pool := (P3.addZ σ.pool c).1 }
def SG.ix (σ : SG) (c : CD) : Int := (P3.addZ σ.pool c).2.1
end Go.Proofs.Ytbmfkbgncjldjaa.M
