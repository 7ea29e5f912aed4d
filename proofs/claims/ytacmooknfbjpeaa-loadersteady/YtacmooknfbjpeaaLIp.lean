/- Load, pure. -/
import Derived.Test.YtacmooknfbjpeaaLGn
namespace Go.Proofs.Ytacmooknfbjpeaa.J
open Go.RowKit Go.MapKept Go.ChangeMaps
set_option linter.unusedVariables false
variable {S S' S'' : Ls}

/-- More is loaded, and nothing else. -/
structure Ext (S S' : Ls) : Prop where
  len : S'.each.length = S.each.length
  par : ∀ i : Nat, (S'.each[i]?).map Ln.par = (S.each[i]?).map Ln.par
  of : ∀ i : Nat, (S'.each[i]?).map Ln.of = (S.each[i]?).map Ln.of
  ps : S'.ps = S.ps
  ld : ∀ (i : Nat) s c, S.ldN i s = some c → S'.ldN i s = some c
theorem Ext.refl (S : Ls) : Ext S S := ⟨rfl, fun _ => rfl, fun _ => rfl, rfl, fun _ _ _ h => h⟩
theorem Ext.trans (h : Ext S S') (k : Ext S' S'') : Ext S S'' := ⟨k.len.trans h.len, fun i => (k.par i).trans (h.par i), fun i => (k.of i).trans (h.of i), k.ps.trans h.ps, fun i s c e => k.ld i s c (h.ld i s c e)⟩
theorem alook_app {α : Type} (s : ByteArray) (m : List (ByteArray × α)) : ∀ (l : List (ByteArray × α)) (c : α), alook l s = some c → alook (l ++ m) s = some c
  | [], c, h => by simp [alook] at h
  | p :: l, c, h => by
    unfold alook at h
    show (if s == p.1 then some p.2 else alook (l ++ m) s) = some c
    split at h
    · rename_i hs; rw [if_pos hs]; exact h
    · rename_i hs; rw [if_neg hs]; exact alook_app s m l c h
theorem putLd_at (S : Ls) (i : Nat) (s : ByteArray) (c : Int × Int) (j : Nat) : (S.putLd i s c).each[j]? = if i = j then (S.each[i]?).map (fun x => { x with ld := x.ld ++ [(s, c)] }) else S.each[j]? := by
  unfold Ls.putLd
  cases hx : S.each[i]? with
  | none =>
    simp only [Option.map_none]
    split
    · rename_i e; rw [← e]; exact hx
    · rfl
  | some x =>
    have hl := (List.getElem?_eq_some_iff.1 hx).1
    unfold Ls.setN
    simp only [List.getElem?_set, Option.map_some]
    split
    · first | rfl | rw [if_pos (by omega)]
    · rfl
theorem Ext.putLd (S : Ls) (i : Nat) (s : ByteArray) (c : Int × Int) : Ext S (S.putLd i s c) := by
  refine ⟨putLd_len S i s c, fun j => ?_, fun j => ?_, ?_, fun j s' c' e => ?_⟩
  · rw [putLd_at]
    split
    · rename_i e; subst e; cases S.each[i]? <;> rfl
    · rfl
  · rw [putLd_at]
    split
    · rename_i e; subst e; cases S.each[i]? <;> rfl
    · rfl
  · unfold Ls.putLd
    split <;> rfl
  · unfold Ls.ldN at e ⊢
    rw [putLd_at]
    by_cases e2 : i = j
    · subst e2
      rw [if_pos rfl]
      cases hx : S.each[i]? with
      | none => rw [hx] at e; cases e
      | some x => rw [hx] at e; exact alook_app s' _ _ _ e
    · rw [if_neg e2]
      exact e
theorem Ext.grantL (s : ByteArray) (c : Int × Int) : ∀ (L : List Int) (S : Ls), Ext S (grantL s c L S).1
  | [], S => Ext.refl S
  | n :: L, S => by
    have h1 : Ext S (if (S.ldN n.toNat s).isSome then S else S.putLd n.toNat s c) := by
      split
      · exact Ext.refl S
      · exact Ext.putLd S _ s c
    unfold J.grantL
    cases S.told n.toNat s with
    | none => exact h1.trans (Ext.grantL s c L _)
    | some id =>
      simp only []
      split
      · exact h1.trans (Ext.grantL s c L _)
      · exact Ext.refl S
theorem Ext.upL (h : Ext S S') (t : Nat) : ∀ (f n : Nat), S'.upL t f n = S.upL t f n
  | 0, n => rfl
  | f + 1, n => by
    unfold Ls.upL
    split
    · rfl
    · have hp := h.par n
      cases e1 : S.each[n]? with
      | none => rw [e1] at hp; cases e2 : S'.each[n]? with
        | none => rfl
        | some y => rw [e2] at hp; simp at hp
      | some x => rw [e1] at hp; cases e2 : S'.each[n]? with
        | none => rw [e2] at hp; simp at hp
        | some y =>
          rw [e2] at hp
          simp only [Option.map_some, Option.some.injEq] at hp
          simp only [hp, Ext.upL h t f]
theorem Ext.ofN (h : Ext S S') (i : Nat) (s : ByteArray) : S'.ofN i s = S.ofN i s := by
  have hp := h.of i
  unfold Ls.ofN
  cases e1 : S.each[i]? with
  | none => rw [e1] at hp; cases e2 : S'.each[i]? with
    | none => rfl
    | some y => rw [e2] at hp; simp at hp
  | some x => rw [e1] at hp; cases e2 : S'.each[i]? with
    | none => rw [e2] at hp; simp at hp
    | some y =>
      rw [e2] at hp
      simp only [Option.map_some, Option.some.injEq] at hp
      simp only [hp]
def Ls.Good (S : Ls) (x : Wi) : Prop := x.fi < S.each.length ∧ x.dn < S.each.length ∧ (∃ l, S.upL x.fi 17 x.dn = some l) ∧ ((S.ofN x.fi x.nm).isSome = true ∨ (S.ldN x.fi x.nm).isSome = true)
theorem Ls.Good.ext {x : Wi} (g : S.Good x) (h : Ext S S') : S'.Good x := by
  obtain ⟨a, b, c, d⟩ := g
  refine ⟨by rw [h.len]; exact a, by rw [h.len]; exact b, by rw [h.upL]; exact c, ?_⟩
  rw [h.ofN]
  rcases d with d | d
  · exact .inl d
  · obtain ⟨y, hy⟩ := Option.isSome_iff_exists.1 d
    exact .inr (by rw [h.ld _ _ _ hy]; rfl)
theorem firstF_up (S : Ls) (s : ByteArray) : ∀ (f : Nat) (n acc : Int), S.firstF s f n acc = acc ∨ ∃ (k : Nat) (l : List Int), S.firstF s f n acc = (k : Int) ∧ 0 ≤ n ∧ S.upL k f n.toNat = some l
  | 0, n, acc => .inl rfl
  | f + 1, n, acc => by
    unfold Ls.firstF
    split
    · exact .inl rfl
    · rename_i hn
      cases hx : S.each[n.toNat]? with
      | none => exact .inl rfl
      | some x =>
        simp only []
        rcases firstF_up S s f x.par (if (alook x.of s).isSome || (alook x.ld s).isSome then n else acc) with h | ⟨k, l, h, h2, h3⟩
        · rw [h]
          split
          · refine .inr ⟨n.toNat, [(n.toNat : Int)], by omega, by omega, ?_⟩
            unfold Ls.upL
            rw [if_pos rfl]
          · exact .inl rfl
        · refine .inr ⟨k, ?_⟩
          unfold Ls.upL
          by_cases e : n.toNat = k
          · exact ⟨_, h, by omega, by rw [if_pos e]⟩
          · rw [if_neg e, hx]
            simp only []
            rw [if_neg (show ¬ x.par < 0 by omega), h3]
            exact ⟨_, h, by omega, rfl⟩
theorem first_up (S : Ls) {n k : Nat} {s : ByteArray} (h : S.first n s = (k : Int)) : ∃ l, S.upL k 17 n = some l := by
  rcases firstF_up S s 17 n (-1) with e | ⟨k', l, e, _, e2⟩
  · unfold Ls.first at h; rw [e] at h; omega
  · unfold Ls.first at h
    rw [e] at h
    obtain rfl : k' = k := by omega
    exact ⟨l, e2⟩
theorem wish_good (S : Ls) : ∀ (f n : Nat) (s : ByteArray) (acc : List Wi) (df : List (Nat × ByteArray)) (l : List Wi) (e : Int), n < S.each.length → (∀ x ∈ acc, S.Good x) → S.wish f n s acc df = some (l, e) → (∀ x ∈ l, S.Good x)
  | 0, n, s, acc, df, l, e, hn, ha, h => by simp [Ls.wish] at h
  | f + 1, n, s, acc, df, l, e, hn, ha, h => by
    unfold Ls.wish at h
    split at h
    · cases h; exact ha
    · split at h
      · cases h; exact fun x hx => by simp at hx
      · rename_i h1 h2
        rcases first_in S n s with hf | ⟨k, hk, hkl, hko⟩
        · exact absurd hf h2
        · rw [hk, Int.toNat_natCast] at h
          have hg : S.Good ⟨s, k, n⟩ := ⟨hkl, hn, first_up S hk, hko⟩
          have ha2 : ∀ x ∈ acc ++ [(⟨s, k, n⟩ : Wi)], S.Good x := fun x hx => by
            rcases List.mem_append.1 hx with hx | hx
            · exact ha x hx
            · rw [List.mem_singleton.1 hx]; exact hg
          split at h
          · cases h; exact ha2
          · split at h
            · cases h; exact fun x hx => by simp at hx
            · split at h
              · cases h
              · split at h
                · cases h; exact ha2
                · exact wish_good S f _ _ _ _ l e hkl ha2 h
theorem wish_len (S : Ls) : ∀ (f n : Nat) (s : ByteArray) (acc : List Wi) (df : List (Nat × ByteArray)) (l : List Wi) (e : Int), S.wish f n s acc df = some (l, e) → l.length ≤ acc.length + f
  | 0, n, s, acc, df, l, e, h => by simp [Ls.wish] at h
  | f + 1, n, s, acc, df, l, e, h => by
    unfold Ls.wish at h
    split at h
    · cases h; omega
    · split at h
      · cases h; simp
      · split at h
        · cases h; simp <;> omega
        · split at h
          · cases h; simp
          · split at h
            · cases h
            · split at h
              · cases h; simp <;> omega
              · have := wish_len S f _ _ _ _ l e h
                simp at this
                omega
def Ls.grant (S : Ls) (x : Wi) : Ls × Int := match S.upL x.fi 17 x.dn with
  | some l => J.grantL x.nm (S.clsOf x.fi x.nm) l.reverse S
  | none => (S, 0)
def grants : List Wi → Ls → Ls × Int
  | [], S => (S, 0)
  | x :: L, S => if (S.grant x).2 = 0 then grants L (S.grant x).1 else S.grant x
theorem Ext.grant (S : Ls) (x : Wi) : Ext S (S.grant x).1 := by
  unfold Ls.grant
  split
  · exact Ext.grantL _ _ _ _
  · exact Ext.refl S
theorem Ext.grants : ∀ (L : List Wi) (S : Ls), Ext S (grants L S).1
  | [], S => Ext.refl S
  | x :: L, S => by
    unfold J.grants
    split
    · exact (Ext.grant S x).trans (Ext.grants L _)
    · exact Ext.grant S x
theorem grants_snoc (x : Wi) : ∀ (L : List Wi) (S : Ls), (grants L S).2 = 0 → grants (L ++ [x]) S = (grants L S).1.grant x
  | [], S, _ => by
    show (if (S.grant x).2 = 0 then ((S.grant x).1, 0) else S.grant x) = S.grant x
    split
    · rename_i h; rw [← h]
    · rfl
  | y :: L, S, h => by
    simp only [List.cons_append, grants] at h ⊢
    split
    · rename_i h1
      rw [if_pos h1] at h
      rw [grants_snoc x L _ h]
    · rename_i h1
      rw [if_neg h1] at h
      exact absurd h h1
theorem grants_err (M : List Wi) : ∀ (L : List Wi) (S : Ls), (grants L S).2 ≠ 0 → grants (L ++ M) S = grants L S
  | [], S, h => absurd rfl h
  | y :: L, S, h => by
    simp only [List.cons_append, grants] at h ⊢
    split
    · rename_i h1
      rw [if_pos h1] at h
      exact grants_err M L _ h
    · rfl
/-- What Load answers: the id, who defined it, why not. -/
def Ls.loadR (S : Ls) (n : Int) (nm : ByteArray) : Option (Ls × Int × Int × Int) :=
  if S.hasB n then match S.wish 50 n.toNat nm [] [] with
    | none => none
    | some (zs, e) =>
      if e = 0 then (if (grants zs.reverse S).2 = 0 then some ((grants zs.reverse S).1, (((grants zs.reverse S).1.ldN n.toNat nm).getD (0, 0)).1, (((grants zs.reverse S).1.ldN n.toNat nm).getD (0, 0)).2, 0) else some ((grants zs.reverse S).1, 0, 0, (grants zs.reverse S).2))
      else some (S, 0, 0, e)
  else some (S, 0, 0, 1)
theorem upL_good {l : List Wi} (h : ∀ x ∈ l, S.Good x) : ∀ x ∈ l.reverse, S.Good x := fun x hx => h x (List.mem_reverse.1 hx)
end Go.Proofs.Ytacmooknfbjpeaa.J
