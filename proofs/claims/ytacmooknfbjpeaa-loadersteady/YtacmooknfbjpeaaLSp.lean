/- LoaderSteady, pure: who agrees has one id. -/
import Derived.Test.YtacmooknfbjpeaaLIp
import Derived.Test.YtacmooknfbjpeaaLDn
namespace Go.Proofs.Ytacmooknfbjpeaa.J
open Go.RowKit Go.MapKept Go.ChangeMaps
set_option linter.unusedVariables false
variable {S S' : Ls}

theorem ba_of {a b : ByteArray} (h : (a == b) = true) : a = b := by
  cases a
  cases b
  exact congrArg ByteArray.mk (eq_of_beq (α := Array UInt8) h)
/-- Those that agree on a name have one id for it. -/
def Agr (S : Ls) : Prop := ∀ nm (i j : Nat) c d, i < S.each.length → j < S.each.length → S.rt nm i = S.rt nm j → S.ldN i nm = some c → S.ldN j nm = some d → c.1 = d.1
/-- No offer has a super. -/
def Pln (S : Ls) : Prop := ∀ (i : Nat) s o, S.ofN i s = some o → o.1 = ⟨#[]⟩
theorem ldN_add (S : Ls) (p : Int) (i : Nat) (nm : ByteArray) : (S.add p).ldN i nm = S.ldN i nm := by
  unfold Ls.ldN Ls.add
  simp only []
  by_cases h : i < S.each.length
  · rw [List.getElem?_append_left h]
  · rw [List.getElem?_append_right (by omega), List.getElem?_eq_none (show S.each.length ≤ i by omega)]
    cases h2 : i - S.each.length with
    | zero => rfl
    | succ k => rfl
theorem ofN_add (S : Ls) (p : Int) (i : Nat) (nm : ByteArray) : (S.add p).ofN i nm = S.ofN i nm := by
  unfold Ls.ofN Ls.add
  simp only []
  by_cases h : i < S.each.length
  · rw [List.getElem?_append_left h]
  · rw [List.getElem?_append_right (by omega), List.getElem?_eq_none (show S.each.length ≤ i by omega)]
    cases h2 : i - S.each.length with
    | zero => rfl
    | succ k => rfl
theorem setN_get {i : Nat} {x y : Ln} (hx : S.each[i]? = some x) (j : Nat) : (S.setN i y).each[j]? = if i = j then some y else S.each[j]? := by
  have := (List.getElem?_eq_some_iff.1 hx).1
  unfold Ls.setN
  simp only [List.getElem?_set]
  split
  · first | rfl | rw [if_pos (by omega)]
  · rfl
theorem alook_end {α : Type} (s t : ByteArray) (x y : α) : ∀ l : List (ByteArray × α), alook (l ++ [(s, x)]) t = some y → alook l t = some y ∨ (t = s ∧ y = x)
  | [], h => by
    have h2 : (if t == s then some x else none) = some y := h
    split at h2
    · rename_i e
      cases h2
      exact .inr ⟨ba_of e, rfl⟩
    · cases h2
  | p :: l, h => by
    have h2 : (if t == p.1 then some p.2 else alook (l ++ [(s, x)]) t) = some y := h
    unfold alook
    split at h2
    · rename_i e
      rw [if_pos e]
      exact .inl h2
    · rename_i e
      rw [if_neg e]
      exact alook_end s t x y l h2
theorem alook_snoc2 {α : Type} (s : ByteArray) (x : α) : ∀ (l : List (ByteArray × α)), alook l s = none → alook (l ++ [(s, x)]) s = some x := alook_snoc s x
theorem putLd_ldN {n i : Nat} {s nm : ByteArray} {c d : Int × Int} (h : (S.putLd n s c).ldN i nm = some d) : S.ldN i nm = some d ∨ (i = n ∧ nm = s ∧ d = c) := by
  unfold Ls.ldN at h ⊢
  rw [putLd_at] at h
  by_cases e : n = i
  · subst e
    rw [if_pos rfl] at h
    cases hx : S.each[n]? with
    | none => rw [hx] at h; cases h
    | some x =>
      rw [hx] at h
      rcases alook_end _ _ _ _ _ h with h2 | ⟨h2, h3⟩
      · exact .inl h2
      · exact .inr ⟨rfl, h2, h3⟩
  · rw [if_neg e] at h
    exact .inl h
theorem putLd_ps (n : Nat) (s : ByteArray) (c : Int × Int) : (S.putLd n s c).ps = S.ps := (Ext.putLd S n s c).ps
theorem rt_ps (h : S'.ps = S.ps) (nm : ByteArray) (i : Nat) : S'.rt nm i = S.rt nm i := by unfold Ls.rt; rw [h]
theorem toldK_none {nm : ByteArray} {r : Nat} : ∀ k, toldK S nm r k = none → ∀ i, i < k → S.rt nm i = r → S.ldN i nm = none
  | 0, _, i, hi, _ => by omega
  | k + 1, h, i, hi, hr => by
    unfold toldK at h
    cases h1 : toldK S nm r k with
    | some x => rw [h1] at h; cases h
    | none =>
      rw [h1] at h
      by_cases e : i = k
      · subst e
        simp only [if_pos hr, Option.map_eq_none_iff] at h
        exact h
      · exact toldK_none k h1 i (by omega) hr
theorem toldK_of {nm : ByteArray} {r : Nat} {x : Int} : ∀ k, toldK S nm r k = some x → ∃ (i : Nat) (c : Int × Int), i < k ∧ S.rt nm i = r ∧ S.ldN i nm = some c ∧ c.1 = x
  | 0, h => by cases h
  | k + 1, h => by
    unfold toldK at h
    cases h1 : toldK S nm r k with
    | some y =>
      rw [h1] at h
      cases h
      obtain ⟨i, c, a, b⟩ := toldK_of k h1
      exact ⟨i, c, by omega, b⟩
    | none =>
      rw [h1] at h
      simp only at h
      split at h
      · rename_i hr
        obtain ⟨c, hc, e⟩ := Option.map_eq_some_iff.1 h
        exact ⟨k, c, by omega, hr, hc, e⟩
      · cases h
/-- What is told is what each of them has. -/
theorem told_all (h : Agr S) {i j : Nat} {nm : ByteArray} {d : Int × Int} (hj : j < S.each.length) (hr : S.rt nm j = S.rt nm i) (hd : S.ldN j nm = some d) : S.told i nm = some d.1 := by
  unfold Ls.told
  cases ht : toldK S nm (S.rt nm i) S.each.length with
  | none => rw [toldK_none _ ht j hj hr] at hd; cases hd
  | some x =>
    obtain ⟨k, c, hk, hkr, hc, rfl⟩ := toldK_of _ ht
    rw [h nm k j c d hk hj (hkr.trans hr.symm) hc hd]
theorem Agr.put (h : Agr S) {n : Nat} {s : ByteArray} {c : Int × Int} (hn : n < S.each.length) (ht : S.told n s = none ∨ S.told n s = some c.1) : Agr (S.putLd n s c) := by
  intro nm i j c1 d1 hi hj hr hc hd
  rw [putLd_len] at hi hj
  rw [rt_ps (putLd_ps n s c), rt_ps (putLd_ps n s c)] at hr
  have one : ∀ (k : Nat) (d : Int × Int), k < S.each.length → S.rt s k = S.rt s n → S.ldN k s = some d → d.1 = c.1 := fun k d hk hkr hkd => by
    have := told_all h hk hkr hkd
    rcases ht with e | e
    · rw [e] at this; cases this
    · rw [e] at this; exact (Option.some.inj this).symm
  have qc := putLd_ldN hc
  have qd := putLd_ldN hd
  clear hc hd
  rcases qc with hc | ⟨e1, e2, e3⟩
  · rcases qd with hd | ⟨f1, f2, f3⟩
    · exact h nm i j c1 d1 hi hj hr hc hd
    · subst f1 f2 f3
      exact one i c1 hi hr hc
  · subst e1 e2 e3
    rcases qd with hd | ⟨f1, f2, f3⟩
    · exact (one j d1 hj hr.symm hd).symm
    · rw [f3]
theorem Agr.grantL (s : ByteArray) (c : Int × Int) : ∀ (L : List Int) (S : Ls), (∀ x ∈ L, ∃ k : Nat, x = (k : Int) ∧ k < S.each.length) → Agr S → Agr (J.grantL s c L S).1
  | [], S, _, h => h
  | n :: L, S, hL, h => by
    obtain ⟨k, rfl, hk⟩ := hL n (List.mem_cons_self ..)
    have step : ∀ (ht : S.told k s = none ∨ S.told k s = some c.1), Agr (J.grantL s c L (if (S.ldN k s).isSome then S else S.putLd k s c)).1 := fun ht => by
      refine Agr.grantL s c L _ (fun x hx => ?_) ?_
      · obtain ⟨q, e, hq⟩ := hL x (List.mem_cons_of_mem _ hx)
        refine ⟨q, e, ?_⟩
        split
        · exact hq
        · rw [putLd_len]; exact hq
      · split
        · exact h
        · exact h.put hk ht
    unfold J.grantL
    rw [Int.toNat_natCast]
    cases ht : S.told k s with
    | none => exact step (.inl ht)
    | some id =>
      simp only []
      split
      · rename_i e
        exact step (.inr (by rw [ht, e]))
      · exact h
/-- Who was granted has it. -/
theorem grantL_has (s : ByteArray) (c : Int × Int) : ∀ (L : List Int) (S : Ls), (∀ x ∈ L, ∃ k : Nat, x = (k : Int) ∧ k < S.each.length) → (J.grantL s c L S).2 = 0 → ∀ x ∈ L, ∃ d, (J.grantL s c L S).1.ldN x.toNat s = some d
  | [], S, _, _, x, hx => by simp at hx
  | n :: L, S, hL, h0, x, hx => by
    obtain ⟨k, rfl, hk⟩ := hL n (List.mem_cons_self ..)
    have hS1 : ∃ d, (if (S.ldN k s).isSome then S else S.putLd k s c).ldN k s = some d := by
      split
      · rename_i h; exact Option.isSome_iff_exists.1 h
      · rename_i h
        refine ⟨c, ?_⟩
        obtain ⟨y, hy⟩ : ∃ y, S.each[k]? = some y := ⟨_, List.getElem?_eq_getElem hk⟩
        have hn : alook y.ld s = none := by
          unfold Ls.ldN at h
          rw [hy] at h
          simpa using h
        unfold Ls.ldN
        rw [putLd_at, if_pos rfl, hy]
        exact alook_snoc2 s c y.ld hn
    have hL2 : ∀ x ∈ L, ∃ q : Nat, x = (q : Int) ∧ q < (if (S.ldN k s).isSome then S else S.putLd k s c).each.length := fun x hx => by
      obtain ⟨q, e, hq⟩ := hL x (List.mem_cons_of_mem _ hx)
      refine ⟨q, e, ?_⟩
      split
      · exact hq
      · rw [putLd_len]; exact hq
    have step : (J.grantL s c L (if (S.ldN k s).isSome then S else S.putLd k s c)).2 = 0 → ∃ d, (J.grantL s c L (if (S.ldN k s).isSome then S else S.putLd k s c)).1.ldN x.toNat s = some d := fun h0 => by
      rcases List.mem_cons.1 hx with rfl | hx
      · obtain ⟨d, hd⟩ := hS1
        exact ⟨d, (Ext.grantL s c L _).ld _ _ _ (by rw [Int.toNat_natCast]; exact hd)⟩
      · exact grantL_has s c L _ hL2 h0 x hx
    unfold J.grantL at h0 ⊢
    rw [Int.toNat_natCast] at h0 ⊢
    cases ht : S.told k s with
    | none =>
      rw [ht] at h0
      exact step h0
    | some id =>
      rw [ht] at h0
      simp only [] at h0 ⊢
      split at h0
      · rename_i e
        rw [if_pos e]
        exact step h0
      · simp at h0
theorem upL_self (S : Ls) (t f n : Nat) (l : List Int) (h : S.upL t (f + 1) n = some l) : (n : Int) ∈ l := by
  unfold Ls.upL at h
  split at h
  · cases h; simp
  · split at h
    · split at h
      · cases h
      · rw [Option.map_eq_some_iff] at h
        obtain ⟨r, _, rfl⟩ := h
        simp
    · cases h
def ParOk (S : Ls) : Prop := ∀ (i : Nat) x, S.each[i]? = some x → -1 ≤ x.par ∧ x.par < (i : Int)
/-- Load where no offer has a super. -/
theorem load_plain (hp : ParOk S) (hpl : Pln S) (n : Int) (nm : ByteArray) : ∃ r, S.loadR n nm = some r ∧ Ext S r.1 ∧ (Agr S → Agr r.1) ∧ (r.2.2.2 = 0 → S.hasB n = true ∧ ∃ c, r.1.ldN n.toNat nm = some c ∧ c.1 = r.2.1) := by
  unfold Ls.loadR
  cases hh : S.hasB n with
  | false => exact ⟨_, rfl, Ext.refl S, fun h => h, fun h => by cases h⟩
  | true =>
    obtain ⟨i, x, rfl, hi, hx⟩ := has_lt hh
    rw [Int.toNat_natCast, if_pos rfl]
    have key : S.wish 50 i nm [] [] = some ([], 0) ∧ (S.ldN i nm).isSome = true ∨ S.wish 50 i nm [] [] = some ([], 22) ∨ ∃ k, S.wish 50 i nm [] [] = some ([⟨nm, k, i⟩], 0) ∧ ∃ l, S.upL k 17 i = some l := by
      unfold Ls.wish
      by_cases h1 : (S.ldN i nm).isSome = true
      · rw [if_pos h1]
        exact .inl ⟨rfl, h1⟩
      · rw [if_neg h1]
        rcases first_in S i nm with hf | ⟨k, hk, hkl, hko⟩
        · rw [if_pos hf]
          exact .inr (.inl rfl)
        · rw [if_neg (by omega), hk, Int.toNat_natCast]
          refine .inr (.inr ⟨k, ?_, first_up S hk⟩)
          by_cases h2 : (S.ldN k nm).isSome = true
          · rw [if_pos h2]; rfl
          · rw [if_neg h2, if_neg (by simp [dmem])]
            obtain ⟨o, ho⟩ : ∃ o, S.ofN k nm = some o := by
              rcases hko with h | h
              · exact Option.isSome_iff_exists.1 h
              · exact absurd h h2
            rw [ho]
            simp only []
            rw [if_pos (hpl k nm o ho)]
            rfl
    rcases key with ⟨e, h1⟩ | e | ⟨k, e, l, hl⟩
    · rw [e]
      simp only [if_true, List.reverse_nil, grants]
      refine ⟨_, rfl, Ext.refl S, fun h => h, fun _ => ⟨by simp, ?_⟩⟩
      obtain ⟨c, hc⟩ := Option.isSome_iff_exists.1 h1
      exact ⟨c, hc, by rw [hc]; rfl⟩
    · rw [e]
      simp only [show ¬ (22 : Int) = 0 by omega, if_false]
      exact ⟨_, rfl, Ext.refl S, fun h => h, fun h => by cases h⟩
    · rw [e]
      have hg : grants ([⟨nm, k, i⟩] : List Wi).reverse S = J.grantL nm (S.clsOf k nm) l.reverse S := by
        show grants [⟨nm, k, i⟩] S = _
        have h1 : S.grant ⟨nm, k, i⟩ = J.grantL nm (S.clsOf k nm) l.reverse S := by
          unfold Ls.grant
          simp only []
          rw [hl]
        rw [← h1]
        exact grants_snoc ⟨nm, k, i⟩ [] S rfl
      have hin := upL_in hp k 17 i l hi hl
      have hin2 : ∀ x ∈ l.reverse, ∃ k : Nat, x = (k : Int) ∧ k < S.each.length := fun x hx => hin.2 x (List.mem_reverse.1 hx)
      simp only [if_true]
      rw [hg]
      by_cases h0 : (J.grantL nm (S.clsOf k nm) l.reverse S).2 = 0
      · rw [if_pos h0]
        refine ⟨_, rfl, Ext.grantL _ _ _ _, fun h => h.grantL _ _ _ _ hin2, fun _ => ⟨by simp, ?_⟩⟩
        obtain ⟨d, hd⟩ := grantL_has _ _ _ _ hin2 h0 (i : Int) (List.mem_reverse.2 (upL_self S k 16 i l hl))
        rw [Int.toNat_natCast] at hd
        exact ⟨d, hd, by rw [hd]; rfl⟩
      · rw [if_neg h0]
        exact ⟨_, rfl, Ext.grantL _ _ _ _, fun h => h.grantL _ _ _ _ hin2, fun h => absurd h h0⟩
/-- How roots go when two agree. -/
theorem alook_upd (nm nm' : ByteArray) (f : List Nat → List Nat) : ∀ l, alook (updP l nm f) nm' = if nm' == nm then (alook l nm').map f else alook l nm'
  | [] => by unfold updP alook; split <;> rfl
  | p :: l => by
    unfold updP
    by_cases h1 : (nm == p.1) = true
    · rw [if_pos h1]
      have e := ba_of h1
      subst e
      unfold alook
      by_cases h2 : (nm' == p.1) = true
      · rw [if_pos h2, if_pos h2, if_pos h2]; rfl
      · rw [if_neg h2, if_neg h2, if_neg h2]
    · rw [if_neg h1]
      have ih := alook_upd nm nm' f l
      unfold alook
      by_cases h2 : (nm' == p.1) = true
      · rw [if_pos h2, if_pos h2]
        have h3 : ¬ (nm' == nm) = true := fun h => by
          rw [ba_of h2] at h
          have := ba_of h
          rw [this] at h1
          exact h1 (ba_refl _)
        rw [if_neg h3]
      · rw [if_neg h2, if_neg h2, ih]
def RlOk (S : Ls) : Prop := ∀ nm R, alook S.ps nm = some R → R.length = 16
theorem join_rt (hr : RlOk S) {i j : Nat} {nm nm' : ByteArray} {k : Nat} (hk : k < 16) (hi : i < 16) (hj : j < 16) : (S.join i j nm).rt nm' k = if nm' = nm then (if S.rt nm k = S.rt nm i then S.rt nm j else S.rt nm k) else S.rt nm' k := by
  unfold Ls.join
  unfold Ls.rt
  simp only [alook_upd]
  by_cases e : nm' = nm
  · subst e
    rw [if_pos (ba_refl _), if_pos rfl]
    unfold Ls.with
    cases h : alook S.ps nm' with
    | some R =>
      simp only []
      rw [h]
      simp only [Option.map_some]
      exact rtN_join (by rw [hr nm' R h]; exact hk)
    | none =>
      simp only []
      rw [alook_snoc nm' _ _ h]
      simp only [Option.map_some]
      have hid : ∀ q, q < 16 → rtN (List.range 16) q = q := fun q hq => by unfold rtN; rw [List.getElem?_range hq]; rfl
      rw [rtN_join (by simp; exact hk), hid k hk, hid i hi, hid j hj]
  · have hb : ¬ (nm' == nm) = true := fun h => e (ba_of h)
    rw [if_neg hb, if_neg e]
    unfold Ls.with
    cases h : alook S.ps nm with
    | some R => rfl
    | none =>
      simp only []
      have : ∀ l : List (ByteArray × List Nat), alook (l ++ [(nm, List.range 16)]) nm' = alook l nm' := by
        intro l
        induction l with
        | nil =>
          show (if nm' == nm then _ else _) = _
          rw [if_neg hb]
          first | done | rfl
        | cons p l ih =>
          show (if nm' == p.1 then _ else alook (l ++ [(nm, List.range 16)]) nm') = if nm' == p.1 then _ else alook l nm'
          rw [ih]
      rw [this]
theorem Agr.join (h : Agr S) (hr : RlOk S) (hf : S.each.length ≤ 16) {i j : Nat} (hi : i < S.each.length) (hj : j < S.each.length) {nm : ByteArray} (hc : S.clash i j nm = false) : Agr (S.join i j nm) := by
  intro nm' a b c d ha hb hrt hca hdb
  have ha' : a < S.each.length := ha
  have hb' : b < S.each.length := hb
  have hca' : S.ldN a nm' = some c := hca
  have hdb' : S.ldN b nm' = some d := hdb
  rw [join_rt hr (by omega) (by omega) (by omega), join_rt hr (by omega) (by omega) (by omega)] at hrt
  by_cases e : nm' = nm
  · subst e
    rw [if_pos rfl, if_pos rfl] at hrt
    have cl : ∀ (a b : Nat) c d, a < S.each.length → b < S.each.length → S.ldN a nm' = some c → S.ldN b nm' = some d → S.rt nm' a = S.rt nm' i → S.rt nm' b = S.rt nm' j → c.1 = d.1 := fun a b c d ha hb h1 h2 h3 h4 => by
      have t1 := told_all h ha h3 h1
      have t2 := told_all h hb h4 h2
      unfold Ls.clash at hc
      rw [t1, t2] at hc
      simpa using hc
    by_cases h1 : S.rt nm' a = S.rt nm' i
    · rw [if_pos h1] at hrt
      by_cases h2 : S.rt nm' b = S.rt nm' i
      · exact h nm' a b c d ha' hb' (h1.trans h2.symm) hca' hdb'
      · rw [if_neg h2] at hrt
        exact cl a b c d ha' hb' hca' hdb' h1 hrt.symm
    · rw [if_neg h1] at hrt
      by_cases h2 : S.rt nm' b = S.rt nm' i
      · rw [if_pos h2] at hrt
        exact (cl b a d c hb' ha' hdb' hca' h2 hrt).symm
      · rw [if_neg h2] at hrt
        exact h nm' a b c d ha' hb' hrt hca' hdb'
  · rw [if_neg e, if_neg e] at hrt
    exact h nm' a b c d ha' hb' hrt hca' hdb'
/-- What LoaderSteady holds between two calls: what was had, who has agreed. -/
structure Sdy (S : Ls) (had pac : List (Int × Int × ByteArray)) : Prop where
  agr : Agr S
  pln : Pln S
  had : ∀ g ∈ had, ∃ c, S.ldd g.1 g.2.2 = some c ∧ c.1 = g.2.1
  pac : ∀ p ∈ pac, S.hasB p.1 = true ∧ S.hasB p.2.1 = true ∧ S.rt p.2.2 p.1.toNat = S.rt p.2.2 p.2.1.toNat
variable {had pac : List (Int × Int × ByteArray)}
theorem ldd_of {n : Int} {nm : ByteArray} (h : ∀ i, S'.ldN i nm = S.ldN i nm) : S'.ldd n nm = S.ldd n nm := by unfold Ls.ldd; rw [h]
theorem ldN_lt {i : Nat} {nm : ByteArray} {c : Int × Int} (h : S.ldN i nm = some c) : i < S.each.length := by
  unfold Ls.ldN at h
  cases hx : S.each[i]? with
  | none => rw [hx] at h; cases h
  | some x => exact (List.getElem?_eq_some_iff.1 hx).1
theorem Sdy.child (h : Sdy S had pac) (p : Int) : Sdy (S.child p).1 had pac := by
  unfold Ls.child
  split
  · split
    · exact h
    · refine ⟨fun nm i j c d _ _ hr hc hd => ?_, fun i s o ho => ?_, fun g hg => ?_, fun q hq => ?_⟩
      · simp only [ldN_add] at hc hd
        exact h.agr nm i j c d (ldN_lt hc) (ldN_lt hd) hr hc hd
      · simp only [ofN_add] at ho
        exact h.pln i s o ho
      · simp only [ldd_of (ldN_add S p · g.2.2)]
        exact h.had g hg
      · obtain ⟨a, b, c⟩ := h.pac q hq
        have up : ∀ n, S.hasB n = true → (S.add p).hasB n = true := fun n hn => by
          unfold Ls.hasB at hn ⊢
          have := of_decide_eq_true hn
          refine decide_eq_true ⟨this.1, ?_⟩
          have h2 : (S.add p).each.length = S.each.length + 1 := by simp [Ls.add]
          omega
        exact ⟨up _ a, up _ b, c⟩
  · exact h
theorem Sdy.offer (h : Sdy S had pac) (n : Int) (nm : ByteArray) (id : Int) : Sdy (S.offer n nm ⟨#[]⟩ id).1 had pac := by
  unfold Ls.offer
  split
  · cases hx : S.each[n.toNat]? with
    | none => exact h
    | some x =>
      simp only []
      cases ha : alook x.of nm with
      | some _ => exact h
      | none =>
        simp only []
        have hl : ∀ i s, (S.setN n.toNat { x with of := x.of ++ [(nm, ⟨#[]⟩, id)] }).ldN i s = S.ldN i s := fun i s => by
          unfold Ls.ldN
          rw [setN_get hx]
          by_cases e : n.toNat = i
          · rw [if_pos e, ← e, hx]
          · rw [if_neg e]
        have hlen : (S.setN n.toNat { x with of := x.of ++ [(nm, ⟨#[]⟩, id)] }).each.length = S.each.length := by simp [Ls.setN]
        refine ⟨fun s i j c d hi hj hr hc hd => ?_, fun i s o ho => ?_, fun g hg => ?_, fun q hq => ?_⟩
        · rw [hl] at hc hd
          exact h.agr s i j c d (ldN_lt hc) (ldN_lt hd) hr hc hd
        · unfold Ls.ofN at ho
          rw [setN_get hx] at ho
          by_cases e : n.toNat = i
          · rw [if_pos e] at ho
            rcases alook_end _ _ _ _ _ ho with h2 | ⟨_, h2⟩
            · refine h.pln i s o ?_
              unfold Ls.ofN
              rw [← e, hx]
              exact h2
            · rw [h2]
          · rw [if_neg e] at ho
            exact h.pln i s o ho
        · rw [ldd_of (hl · g.2.2)]
          exact h.had g hg
        · obtain ⟨a, b, c⟩ := h.pac q hq
          refine ⟨?_, ?_, c⟩
          · unfold Ls.hasB; rw [hlen]; exact a
          · unfold Ls.hasB; rw [hlen]; exact b
  · exact h
theorem Sdy.ext (h : Sdy S had pac) (e : Ext S S') (ha : Agr S') : Sdy S' had pac := by
  refine ⟨ha, fun i s o ho => h.pln i s o (by rw [← e.ofN]; exact ho), fun g hg => ?_, fun q hq => ?_⟩
  · obtain ⟨c, hc, h2⟩ := h.had g hg
    refine ⟨c, ?_, h2⟩
    unfold Ls.ldd at hc ⊢
    split
    · rename_i h0
      rw [if_pos h0] at hc
      exact e.ld _ _ _ hc
    · rename_i h0
      rw [if_neg h0] at hc
      cases hc
  · obtain ⟨a, b, c⟩ := h.pac q hq
    refine ⟨?_, ?_, by rw [rt_ps e.ps, rt_ps e.ps]; exact c⟩
    · unfold Ls.hasB; rw [e.len]; exact a
    · unfold Ls.hasB; rw [e.len]; exact b
theorem Sdy.load (h : Sdy S had pac) (hp : ParOk S) (n : Int) (nm : ByteArray) : ∃ r, S.loadR n nm = some r ∧ Sdy r.1 had pac ∧ (r.2.2.2 = 0 → Sdy r.1 (had ++ [(n, r.2.1, nm)]) pac) := by
  obtain ⟨r, hr, e, ha, h0⟩ := load_plain hp h.pln n nm
  have h1 := h.ext e (ha h.agr)
  refine ⟨r, hr, h1, fun hz => ⟨h1.agr, h1.pln, fun g hg => ?_, h1.pac⟩⟩
  rcases List.mem_append.1 hg with hg | hg
  · exact h1.had g hg
  · rw [List.mem_singleton.1 hg]
    obtain ⟨hb, c, hc, h2⟩ := h0 hz
    refine ⟨c, ?_, h2⟩
    obtain ⟨i, x, rfl, _⟩ := has_lt hb
    rw [Int.toNat_natCast] at hc
    show r.1.ldd (i : Int) nm = some c
    rw [ldd_nat]
    exact hc
theorem Sdy.agree (h : Sdy S had pac) (hr : RlOk S) (hf : S.each.length ≤ 16) (a b : Int) (nm : ByteArray) : Sdy (S.agree a b nm).1 had pac ∧ ((S.agree a b nm).2 = 0 → Sdy (S.agree a b nm).1 had (pac ++ [(a, b, nm)])) := by
  unfold Ls.agree
  cases hab : S.hasB a && S.hasB b with
  | false => exact ⟨h, fun e => by cases e⟩
  | true =>
    simp only [if_true]
    rw [Bool.and_eq_true] at hab
    obtain ⟨ha, hb⟩ := hab
    obtain ⟨i, x, rfl, hi, _⟩ := has_lt ha
    obtain ⟨j, y, rfl, hj, _⟩ := has_lt hb
    simp only [Int.toNat_natCast]
    cases hc : S.clash i j nm with
    | true => exact ⟨h, fun e => by cases e⟩
    | false =>
      simp only [Bool.false_eq_true, if_false]
      have base : Sdy (S.join i j nm) had pac := by
        refine ⟨h.agr.join hr hf hi hj hc, h.pln, h.had, fun q hq => ?_⟩
        obtain ⟨u, v, c⟩ := h.pac q hq
        refine ⟨u, v, ?_⟩
        obtain ⟨k, _, e1, hk, _⟩ := has_lt u
        obtain ⟨m, _, e2, hm, _⟩ := has_lt v
        rw [e1, e2, Int.toNat_natCast, Int.toNat_natCast] at c ⊢
        rw [join_rt hr (by omega) (by omega) (by omega), join_rt hr (by omega) (by omega) (by omega)]
        split
        · rename_i e
          rw [e] at c
          rw [c]
        · exact c
      refine ⟨base, fun _ => ⟨base.agr, base.pln, base.had, fun q hq => ?_⟩⟩
      rcases List.mem_append.1 hq with hq | hq
      · exact base.pac q hq
      · rw [List.mem_singleton.1 hq]
        refine ⟨ha, hb, ?_⟩
        simp only [Int.toNat_natCast]
        rw [join_rt hr (by omega) (by omega) (by omega), join_rt hr (by omega) (by omega) (by omega)]
        simp only [if_true]
        split <;> rfl
/-- Two that have agreed never have unlike ids. -/
theorem Sdy.two (h : Sdy S had pac) {p : Int × Int × ByteArray} (hp : p ∈ pac) {c d : Int × Int} (hc : S.ldd p.1 p.2.2 = some c) (hd : S.ldd p.2.1 p.2.2 = some d) : c.1 = d.1 := by
  obtain ⟨u, v, e⟩ := h.pac p hp
  obtain ⟨k, _, e1, hk, _⟩ := has_lt u
  obtain ⟨m, _, e2, hm, _⟩ := has_lt v
  rw [e1, e2, Int.toNat_natCast, Int.toNat_natCast] at e
  rw [e1, ldd_nat] at hc
  rw [e2, ldd_nat] at hd
  exact h.agr _ k m c d hk hm e hc hd
theorem Sdy.start : Sdy (Ls.empty.add (-1)) [] [] := by
  refine ⟨fun nm i j c d _ _ _ hc _ => ?_, fun i s o ho => ?_, fun g hg => by simp at hg, fun g hg => by simp at hg⟩
  · rw [ldN_add] at hc
    unfold Ls.ldN Ls.empty at hc
    simp at hc
  · rw [ofN_add] at ho
    unfold Ls.ofN Ls.empty at ho
    simp at ho
theorem LoV.rlOk {n0 : Nat} {w : World} {H : LB} (h : LoV n0 w H S) : RlOk S := fun nm R e => by
  obtain ⟨i, nm', h1, _⟩ := upd_at nm S.ps R e
  obtain ⟨_, L, u, _⟩ := h.prs i _ h1
  exact u.rl
end Go.Proofs.Ytacmooknfbjpeaa.J
