import Derived.Test.YtpehimfnkmepnaaGreatBz02
import Derived.Deep.CutRange
set_option maxRecDepth 8000
set_option maxHeartbeats 40000000
namespace Go.Proofs.YtpehimfnkmepnaaGreat.P3
open Go.RowKit
structure CD.Small (c : CD) : Prop where
 c3 : c.cls.size ≤ 1073741824
 c4 : c.nm.size ≤ 1073741824
 c5 : c.dsc.size ≤ 1073741824
def zG8 (s : ByteArray) : Bool := decide (D.zB8 (bsB s) = true ∧ (bsB s)[0]? = some 91)
theorem zMe (s : ByteArray) : (D.zF3 (bsB s)).2 = zG8 s := by
 unfold D.zF3 zG8
 by_cases h : D.zB8 (bsB s) = true ∧ (bsB s)[0]? = some 91
 · rw [if_pos h, decide_eq_true h]
 · rw [if_neg h, decide_eq_false h]
theorem zQv (s : ByteArray) : zEw s = (D.zB9 (bsB s) || zG8 s) := by
 unfold zEw
 rw [zMe, Bool.or_comm]
theorem zMf (c : CD) (w : World) (hf : c.Small) :
 Calls Tryz.prog 122 #[c.val] w fun e w' => e = .returned (.bool (zBd c)) ∧ Below w.heap.size w w' := by
 have s3 := hf.c3
 have s4 := hf.c4
 have s5 := hf.c5
 have b1 : ∀ o, Below w.heap.size w (w.alloc o) := fun o => (Below.refl _ _).alloc (Nat.le_refl _) o
 have hbx := zLn w c
 have HM := fun w => D.zA0 (D.zKe c.dsc w hf.c5)
 have HN3 := fun w => D.zA0 (D.zHs c.cls w (by omega))
 have HN4 := fun w => D.zA0 (D.zHs c.nm w (by omega))
 have HF3 := fun w => D.zA0 (D.zG0 c.cls w (by omega))
 have HF5 := fun w => D.zA0 (D.zG0 c.dsc w (by omega))
 have hA : ∀ h : 0 < c.cls.size, zG8 c.cls = (D.zB8 (bsB c.cls) && decide (c.cls[0].toNat = 91)) := by
  intro h
  unfold zG8
  by_cases e : c.cls[0].toNat = 91
  · have := (D.at0 c.cls h 91 (by omega)).2 e
    rw [decide_eq_true e]
    simp only [show (bsB c.cls)[0]? = some 91 from this, and_true, Bool.and_true]
    cases D.zB8 (bsB c.cls) <;> rfl
  · rw [decide_eq_false e]
    have : ¬ (bsB c.cls)[0]? = some 91 := fun h2 => e ((D.at0 c.cls h 91 (by omega)).1 h2)
    rw [Bool.and_false]
    exact decide_eq_false (fun h2 => this h2.2)
 have hA0 : ¬ 0 < c.cls.size → zG8 c.cls = false := by
  intro h
  unfold zG8
  have : (bsB c.cls)[0]? = none := List.getElem?_eq_none (by unfold bsB; rw [← D.zAb]; omega)
  simp [this]
 generalize hR : zBd c = R
 unfold zBd zD9 zBj zCn at hR
 rw [zQv] at hR
 have HA := D.zA0 (And.intro hA hA0)
 have HR := D.zA0 hR
 clear hR hA hA0
 generalize hMM : D.meth (bsB c.dsc) = MM at *
 generalize hN3v : D.zB9 (bsB c.cls) = n3 at *
 generalize D.zB9 (bsB c.nm) = n4 at *
 generalize hF3v : D.zB8 (bsB c.cls) = f3 at *
 generalize D.zB8 (bsB c.dsc) = f5 at *
 generalize zG8 c.cls = ar at *
 have hMM' := D.zA0 hMM
 clear hMM hN3v hF3v
 obtain ⟨kind, n, cls, nm, dsc⟩ := c
 unfold CD.val at *
 simp only at HN3 HN4 HF3 HF5 HM HR HA s3 s4 s5 hMM' ⊢
 go_enter Tryz.func122, Tryz.ntmps122
 go_wp2_with fail
 refine (HM _).out.mono ?_
 rintro e w2 ⟨b2, ha⟩
 have BB := (b1 _).trans (b2.mono (by simp))
 have hbx2 := hbx.below b2
 obtain ⟨c0, c1, c2, c3, c4⟩ := hbx2
 simp only at c0 c1 c2 c3 c4
 have hM2 : ∃ v s, e = .returned (.tuple #[v, .string s, .bool MM.isSome]) := by
  rcases ha with ⟨ps, r, v, hm, rfl, ho⟩ | ⟨hm, rfl⟩
  · have : MM = some (ps, r) := hMM'.out.symm.trans hm
    rw [this]; exact ⟨_, _, rfl⟩
  · have : MM = none := hMM'.out.symm.trans hm
    rw [this]; exact ⟨_, _, rfl⟩
 obtain ⟨v, s, rfl⟩ := hM2
 clear ha hMM' HM b2 hbx hf
 generalize MM.isSome = mb at *
 go_upto_region 2 with fail
 go_cut [6] from 14 to 28 (fun s6 wx => s6 = .bool ar ∧ wx = w2)
 case first =>
  by_cases h0 : 0 < cls.size
  · have h0' : (0 : Int) < (cls.size : Int) := by omega
    have hA := HA.out.1 h0
    by_cases e : cls[0].toNat = 91
    · have eb : ((cls[0].toNat : Int) == 91) = true := by simp; omega
      rw [decide_eq_true e, Bool.and_true] at hA
      have HAA := D.zA0 hA
      clear hA
      go_wp2_with fail
      refine (HF3 _).out.mono ?_
      rintro e w' ⟨rfl, hww⟩; cases hww
      go_wp2
      go_meet
      exact ⟨by rw [HAA.out], rfl⟩
    · have eb : ((cls[0].toNat : Int) == 91) = false := by simp; omega
      rw [decide_eq_false e, Bool.and_false] at hA
      have HAA := D.zA0 hA
      clear hA
      go_wp2
      go_meet
      exact ⟨by rw [HAA.out], rfl⟩
  · have h0' : ¬ (0 : Int) < (cls.size : Int) := by omega
    have HAA := D.zA0 (HA.out.2 h0)
    go_wp2
    go_meet
    exact ⟨by rw [HAA.out], rfl⟩
 case rest =>
  obtain ⟨rfl, hwc⟩ := hcut
  subst hwc
  clear HA HF3
  by_cases k3 : kind = 3
  · subst k3
    go_wp2
    all_goals (go_ret; refine ⟨zCe ?_, BB⟩; rw [← HR.out]; simp_all)
  · by_cases k7 : kind = 7
    · subst k7
      by_cases h0 : n = 0
      · subst h0
        go_wp2_with fail
        refine (HN3 _).out.mono ?_
        rintro e w' ⟨rfl, hww⟩; cases hww
        cases n3
        · cases ar
          · go_wp2
            all_goals (go_ret; refine ⟨zCe ?_, BB⟩; rw [← HR.out]; simp_all)
          · go_wp2
            all_goals (go_ret; refine ⟨zCe ?_, BB⟩; rw [← HR.out]; simp_all)
        · go_wp2
          all_goals (go_ret; refine ⟨zCe ?_, BB⟩; rw [← HR.out]; simp_all)
      · go_wp2
        all_goals (go_ret; refine ⟨zCe ?_, BB⟩; rw [← HR.out]; simp_all)
    · by_cases k9 : kind = 9
      · subst k9
        by_cases h0 : n = 0
        · subst h0
          go_wp2_with fail
          refine (HN3 _).out.mono ?_
          rintro e w' ⟨rfl, hww⟩; cases hww
          cases n3
          · go_wp2
            all_goals (go_ret; refine ⟨zCe ?_, BB⟩; rw [← HR.out]; simp_all)
          · go_wp2_with fail
            refine (HN4 _).out.mono ?_
            rintro e w' ⟨rfl, hww⟩; cases hww
            cases n4
            · go_wp2
              all_goals (go_ret; refine ⟨zCe ?_, BB⟩; rw [← HR.out]; simp_all)
            · go_wp2_with fail
              refine (HF5 _).out.mono ?_
              rintro e w' ⟨rfl, hww⟩; cases hww
              go_wp2
              all_goals (go_ret; refine ⟨zCe ?_, BB⟩; rw [← HR.out]; simp_all)
        · go_wp2
          all_goals (go_ret; refine ⟨zCe ?_, BB⟩; rw [← HR.out]; simp_all)
      · by_cases k10 : kind = 10
        · subst k10
          by_cases h0 : n = 0
          · subst h0
            go_wp2_with fail
            refine (HN3 _).out.mono ?_
            rintro e w' ⟨rfl, hww⟩; cases hww
            cases n3
            · go_wp2
              all_goals (go_ret; refine ⟨zCe ?_, BB⟩; rw [← HR.out]; simp_all)
            · go_wp2_with fail
              refine (HN4 _).out.mono ?_
              rintro e w' ⟨rfl, hww⟩; cases hww
              cases n4
              · go_wp2
                all_goals (go_ret; refine ⟨zCe ?_, BB⟩; rw [← HR.out]; simp_all)
              · cases mb
                · go_wp2
                  all_goals (go_ret; refine ⟨zCe ?_, BB⟩; rw [← HR.out]; simp_all)
                · by_cases hd : dsc.size ≤ 256
                  · have hd' : (dsc.size : Int) ≤ 256 := by omega
                    go_wp2
                    all_goals (go_ret; refine ⟨zCe ?_, BB⟩; rw [← HR.out]; simp [hd])
                  · have hd' : ¬ (dsc.size : Int) ≤ 256 := by omega
                    go_wp2
                    all_goals (go_ret; refine ⟨zCe ?_, BB⟩; rw [← HR.out]; simp [hd, hd'])
          · go_wp2
            all_goals (go_ret; refine ⟨zCe ?_, BB⟩; rw [← HR.out]; simp_all)
        · go_wp2
          all_goals (go_ret; refine ⟨zCe ?_, BB⟩; rw [← HR.out]; simp_all)
def addZ (l : List CD) (c : CD) : List CD × Int × Int :=
 if zBd c = true then
  match idxO c l with
  | some k => (l, (k : Int), 0)
  | none => if 256 ≤ l.length then ([], 0, 4) else (l ++ [c], (l.length : Int), 0)
 else ([], 0, 14)
theorem zRf {l : List CD} {c : CD} (h : zBd c = false) : addZ l c = ([], 0, 14) := by unfold addZ; rw [if_neg (by simp [h])]
theorem zQq {l : List CD} {c : CD} {k : Nat} (h : zBd c = true) (hk : idxO c l = some k) : addZ l c = (l, (k : Int), 0) := by unfold addZ; rw [if_pos h, hk]
theorem zOv {l : List CD} {c : CD} (h : zBd c = true) (hk : idxO c l = none) (hl : 256 ≤ l.length) : addZ l c = ([], 0, 4) := by unfold addZ; rw [if_pos h, hk]; simp [hl]
theorem zO3 {l : List CD} {c : CD} (h : zBd c = true) (hk : idxO c l = none) (hl : ¬ 256 ≤ l.length) : addZ l c = (l ++ [c], (l.length : Int), 0) := by unfold addZ; rw [if_pos h, hk]; simp [hl]
theorem zLp {w : World} {B B' s n : Nat} {e : TypeId} {v : Value} {xs : List Value} (h : w.ownsRow B e s v n xs) (hB : B' ≤ B) : w.ownsRow B' e s v n xs := by
 refine ⟨h.1, ?_⟩
 rcases h.2 with x | ⟨g, cap, cur, e, hb, r⟩
 · exact .inl x
 · exact .inr ⟨g, cap, cur, e, by omega, r⟩
theorem zGj (w : World) (ty : TypeId) (B : Nat) (v vb : Value) (n : Nat) (xs : List Value) (lb : List CD) (hown : w.ownsRow B 112 5 v n xs) (hv : zGk w vb lb) (hlen : (n + lb.length) * 64 ≤ 140737488355328) (hB : B ≤ w.heap.size) :
 ∃ v' w', (Builtin.append_ #[27, 27] ty #[v, vb]).run Tryz.prog w = .ok v' w' ∧ w'.ownsRow B 112 5 v' (n + lb.length) (xs ++ zB2 lb) ∧ w.grownBy w' v.ownBlock ∧ (v'.ownBlock = v.ownBlock ∨ v'.ownBlock = some w.heap.size) := by
 obtain ⟨i0, hi, hz0, hz1, hz2⟩ := info_parts Tryz.info112
 obtain ⟨ao, cap, rfl, hc, hm, _, hl⟩ := hv
 rcases hl with rfl | ⟨g, off, rfl, hl⟩
 · refine ⟨v, w, ?_, by simpa [zB2] using hown, ⟨rfl, rfl, rfl, Nat.le_refl _, fun _ _ _ => rfl⟩, .inl rfl⟩
   rcases hown.2 with ⟨rfl, rfl⟩ | ⟨g, cap, cur, rfl, hbg, hg, hnc, hcm, hcs, htake⟩
   · cases ao <;> simp [Builtin.append_, run_underlying Tryz.underlying27, sizeOf, typeInfo, hi, Builtin.lenOf, Builtin.firstCells, loadCells, loadCellsFrom]
   · cases ao <;> simp [Builtin.append_, run_underlying Tryz.underlying27, sizeOf, typeInfo, hi, Builtin.lenOf, Builtin.firstCells, loadCells, loadCellsFrom, hnc, storeCells]
 · obtain ⟨v', w', hr, ho, hg, _, hat⟩ := run_append_own_at (P := Tryz.prog) w B 27 ty 112 i0 zP0.val 5 64 Tryz.underlying27 hi hz0 hz1 hz2 rfl (by decide) v n xs hown ⟨g, off, none⟩ lb.length cap (zB2 lb) (zI9 lb) hl.cells (zN4 lb) (by unfold maxLen; omega) (by omega) hB
   exact ⟨v', w', hr, ho, hg, hat⟩
theorem zF7 {w : World} {ops : Array Oper} {rest : List Oper} {o : Oper} {a : Act} {Q : Exit → Act → World → Prop} (hgd : o.guard = none) (s x : Operand)
 (ho : o.op = .call { callee := .builtin .append, args := #[s, x], argTypes := #[27, 27] })
 (B : Nat) (v vb : Value) (n : Nat) (xs : List Value) (lb : List CD) (hs : a.eval s = v) (hown : w.ownsRow B 112 5 v n xs) (hx : a.eval x = vb) (hv : zGk w vb lb)
 (hlen : (n + lb.length) * 64 ≤ 140737488355328) (hB : B ≤ w.heap.size)
 (h : ∀ v' w', w'.ownsRow B 112 5 v' (n + lb.length) (xs ++ zB2 lb) → w.grownBy w' v.ownBlock → (v'.ownBlock = v.ownBlock ∨ v'.ownBlock = some w.heap.size) → wpList Tryz.prog ops Q rest (a.put o.dst v') w') :
 wpList Tryz.prog ops Q (o :: rest) a w := by
 refine wpList_plain hgd fun K hK => ?_
 obtain ⟨v', w', hr, h2, h3, h4⟩ := zGj w o.type B v vb n xs lb hown hv hlen hB
 unfold Oper.wp execOp
 simp only [ho, resolve, invoke, builtin, Sem.run_bind, Sem.run_pure, Result.andThen_ok, List.map_toArray, List.map_cons, List.map_nil, hs, hx, hr]
 exact hK _ _ (h v' w' h2 h3 h4)
theorem zM8 (c d : CD) : ceq c d = ceq d c := by
 cases h : ceq c d with
 | true => have := (zOo c d).1 h; subst this; exact h.symm
 | false =>
   cases h2 : ceq d c with
   | true => have := (zOo d c).1 h2; subst this; rw [h] at h2; cases h2
   | false => rfl
theorem zQa (v : Value) (l : List CD) (c : CD) (w : World) (hv : zGk w v l) (hc : c.Small) (hlen : l.length * 64 ≤ 70368744177664) :
 Calls Tryz.prog 165 #[v, c.val] w fun e w' => Below w.heap.size w w' ∧ ∃ v', e = .returned (.tuple #[v', .int .i64 (addZ l c).2.1, .int .i64 (addZ l c).2.2]) ∧ w'.ownsRow w.heap.size 112 5 v' (addZ l c).1.length (zB2 (addZ l c).1) := by
 obtain ⟨i0, hi, hz0, hz1, hz2⟩ := info_parts Tryz.info112
 have hbx := zLn w c
 have b1 : Below w.heap.size w (w.alloc (.cells #[.int .i64 c.kind, .int .i32 c.n, .string c.cls, .string c.nm, .string c.dsc] 112)) := (Below.refl _ _).alloc (Nat.le_refl _) _
 have hv1 := hv.below b1
 have HR := fun w => D.zA0 (zMf c w hc)
 have hz1' : (w.alloc (.cells #[.int .i64 c.kind, .int .i32 c.n, .string c.cls, .string c.nm, .string c.dsc] 112)).heap.size = w.heap.size + 1 := by simp
 cases hr : zBd c with
 | false =>
   rw [zRf hr]
   rw [hr] at HR
   clear hr
   unfold CD.val at *
   go_enter Tryz.func165, Tryz.ntmps165
   go_wp2_with fail
   refine (HR _).out.mono ?_
   rintro e w2 ⟨rfl, b2⟩
   go_wp2
   go_ret3
   exact ⟨b1.trans (b2.mono (by omega)), _, rfl, World.ownsRow_nil _ _ _ _⟩
 | true =>
   rw [hr] at HR
   have HRT := D.zA0 hr
   have HZ : Hid (addZ l c = addZ l c) := rfl
   generalize hAZ : addZ l c = AZ at *
   have HAZ := D.zA0 hAZ
   have HEQ : Hid (∀ d wx, (binOp .eql 112 d.val c.val).run Tryz.prog wx = .ok (.bool (ceq d c)) wx) := fun d wx => zRw wx d c
   clear hr hAZ HZ
   obtain ⟨ao, cap, rfl, _, hm, hok, _⟩ := id hv1
   unfold maxLen at hm
   have hcz : Hid (zB2 l ++ [.int .i64 c.kind, .int .i32 c.n, .string c.cls, .string c.nm, .string c.dsc] = zB2 (l ++ [c])) := by show _ = _; rw [zIn]; rfl
   unfold CD.val at HR HEQ ⊢
   go_enter Tryz.func165, Tryz.ntmps165
   go_wp2_with fail
   refine (HR _).out.mono ?_
   rintro e w2 ⟨rfl, b2⟩
   have hs2 := b2.size
   rw [hz1'] at hs2
   have hv2 := hv1.below b2
   have hbx2 := hbx.below b2
   have B2 := b1.trans (b2.mono (by omega))
   have ba : Below w2.heap.size w2 (w2.alloc (.cells #[] 112)) := (Below.refl _ _).alloc (Nat.le_refl _) _
   have hown0 : (w2.alloc (.cells #[] 112)).ownsRow w2.heap.size 112 5 (.slice (some ⟨w2.heap.size, 0, none⟩) 0 0) 0 [] := World.ownsRow_made w2 #[] 0 (Nat.le_refl _) (by unfold maxLen; omega) rfl
   have hv2a := hv2.below ba
   go_wp2_with (at_builtin; refine zF7 rfl _ _ rfl w2.heap.size _ _ _ _ l rfl hown0 rfl hv2a (by omega) (by simp) ?_; intro v3 w3 o3 g3 _)
   rw [Nat.zero_add, List.nil_append] at o3
   have B3 : Below w2.heap.size w2 w3 := ba.grown g3 (by simp) (fun k hk => (hown0.lt k hk).1)
   have z3 := B3.size
   have hv3 := hv2.below B3
   have hbx3 := hbx2.below B3
   have B3w := B2.trans (B3.mono (by omega))
   obtain ⟨ao3, cap3, rfl⟩ := zMa o3
   clear hbx2 hv2 hv2a hown0 g3 ba hbx hv1 b2 b1
   obtain ⟨_, _, ee, _, _, _, hl⟩ := id hv3
   cases ee
   go_wp2
   go_loopw [8] (fun i wr => ∃ k q : Nat, k ≤ l.length ∧ i = .int .i64 (k : Int) ∧ wr = w3.drewN q ∧ Hid (∀ x ∈ l.take k, ceq c x = false)) (fun i _ => l.length - (intOf i).toNat)
   case atStart => exact ⟨0, 0, by omega, rfl, rfl, fun x hx => by simp at hx⟩
   case round =>
    obtain ⟨k, q, hk, rfl, rfl, HN⟩ := hrel
    by_cases hlt : k < l.length
    · obtain ⟨g, off, rfl, hla⟩ : ∃ g off, ao = some ⟨g, off, none⟩ ∧ zC7 w3 g off l := by
       rcases hl with e | h
       · rw [e] at hlt; simp at hlt
       · exact h
      have HL : Hid (l[k]? = some l[k]) := by show _ = _; simp [hlt]
      have hd := hla k l[k] (by simp [hlt])
      have h1 : (k : Int) < (l.length : Int) := by omega
      have he := HEQ.out l[k]
      clear hla hl
      generalize l[k] = d at *
      obtain ⟨d0, d1, d2, d3, d4⟩ := hd
      obtain ⟨c0, c1, c2, c3, c4⟩ := id hbx3
      generalize hcd : ceq d c = b at *
      have HCD := D.zA0 hcd
      clear hcd
      cases b
      · go_wp2
        go_quiet (fail)
        go_wp2
        refine ⟨⟨k + 1, _, by omega, by go_num, rfl, ?_⟩, by simp [intOf]; omega⟩
        intro x hx
        rw [List.take_add_one, HL.out] at hx
        rcases List.mem_append.1 hx with hx | hx
        · exact HN.out x hx
        · simp at hx; subst hx; rw [zM8]; exact HCD.out
      · go_wp2
        go_quiet (fail)
        go_wp2
        go_ret3
        have e : AZ = (l, (k : Int), 0) := by
         rw [← HAZ.out]
         exact zQq HRT.out (zOc HL.out (by rw [zM8]; exact HCD.out) HN.out)
        rw [e]
        exact ⟨zA5 (zA5 B3w _) _, _, rfl, zLp o3 (by omega)⟩
    · have h1 : ¬ (k : Int) < (l.length : Int) := by omega
      have HI : Hid (idxO c l = none) := zNm (fun x hx => HN.out x (by rw [List.take_of_length_le (by omega)]; exact hx))
      obtain ⟨c0, c1, c2, c3, c4⟩ := id hbx3
      by_cases h256 : 256 ≤ l.length
      · have h256' : (256 : Int) ≤ (l.length : Int) := by omega
        go_wp2
        go_ret3
        have e : AZ = ([], 0, 4) := by rw [← HAZ.out]; exact zOv HRT.out HI.out h256
        rw [e]
        exact ⟨zA5 B3w _, _, rfl, World.ownsRow_nil _ _ _ _⟩
      · have h256' : ¬ (256 : Int) ≤ (l.length : Int) := by omega
        have o3q : (w3.drewN q).ownsRow w2.heap.size 112 5 (.slice ao3 l.length cap3) l.length (zB2 l) := o3
        have B3q := zA5 B3w q
        have z3q : w2.heap.size ≤ (w3.drewN q).heap.size := z3
        have C3q : CAt (w3.drewN q) w.heap.size 0 c := hbx3.block rfl
        clear c0 c1 c2 c3 c4
        obtain ⟨c0, c1, c2, c3, c4⟩ := id C3q
        generalize w3.drewN q = w4 at *
        go_wp2_with (at_builtin; refine wpList_append_own_at _ rfl _ _ 27 rfl w2.heap.size 112 i0 _ 5 64 Tryz.underlying27 hi hz0 hz1 hz2 rfl (by decide) _ _ _ rfl (o3q.alloc _) _ 1 1 [.int .i64 c.kind, .int .i32 c.n, .string c.cls, .string c.nm, .string c.dsc] rfl rfl ?q1 ?q2 ?q3 ?q4 ?q5 ?q6)
        case q2 => exact ⟨rfl, rfl, rfl, rfl, rfl⟩
        case q3 => unfold maxLen; omega
        case q4 => omega
        case q5 => omega
        intro v5 w5 o5 g5 _ _
        have B5 : Below w.heap.size w w5 := (B3q.alloc (by omega) _).grown g5 (by simp; omega) (fun k hk => by have := (o3q.lt k hk).1; omega)
        have O5 := zLp (B' := w.heap.size) o5 (by omega)
        rw [hcz.out] at O5
        go_wp2
        go_ret3
        have e : AZ = (l ++ [c], (l.length : Int), 0) := by rw [← HAZ.out]; exact zO3 HRT.out HI.out h256
        rw [e]
        refine ⟨B5, _, rfl, ?_⟩
        rw [List.length_append]
        exact O5
end Go.Proofs.YtpehimfnkmepnaaGreat.P3
