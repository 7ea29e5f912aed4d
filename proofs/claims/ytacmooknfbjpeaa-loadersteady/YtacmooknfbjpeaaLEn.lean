/- first, line: walked. -/
import Derived.Test.YtacmooknfbjpeaaLDn
import Derived.Test.YtacmooknfbjpeaaLEr
namespace Go.Proofs.Ytacmooknfbjpeaa.J
open Go.RowKit Go.MapKept Go.ChangeMaps
set_option linter.unusedVariables false
variable {n0 : Nat} {w : World} {H : LB} {S : Ls}

/-- Of the loaders from n up, the last one that has loaded a name or offers it. -/
def Ls.firstF (S : Ls) (nm : ByteArray) : Nat → Int → Int → Int
  | 0, _, acc => acc
  | f + 1, n, acc => if n < 0 then acc else match S.each[n.toNat]? with
    | some x => S.firstF nm f x.par (if (alook x.of nm).isSome || (alook x.ld nm).isSome then n else acc)
    | none => acc
def Ls.first (S : Ls) (n : Nat) (nm : ByteArray) : Int := S.firstF nm 17 n (-1)
/-- The loaders from n up to t. -/
def Ls.upL (S : Ls) (t : Nat) : Nat → Nat → Option (List Int)
  | 0, _ => none
  | f + 1, n => if n = t then some [(n : Int)] else match S.each[n]? with
    | some x => if x.par < 0 then none else (S.upL t f x.par.toNat).map fun l => (n : Int) :: l
    | none => none
set_option maxRecDepth 8000 in
set_option maxHeartbeats 4000000 in
theorem first_any (h : LoV n0 w H S) {i : Nat} (hi : i < S.each.length) (nm : ByteArray) : Calls Try.prog 41 #[H.ptr, .int .i64 (i : Int), .string nm] w fun e w' => e = .returned (.int .i64 (S.first i nm)) ∧ Below w.heap.size w w' := by
  have HV := hidIt h
  have hf := h.few
  have GL : Hid (∀ (W : World) (k : Nat), LoV n0 W H S → Calls Try.prog 40 #[.pointer (some ⟨H.hb, 0, none⟩), .int .i64 (k : Int), .string nm] W fun e w' => e = .returned (.bool (S.ldN k nm).isSome) ∧ Below W.heap.size W w') := hidIt fun W k hW => by
    have := loaded_any hW (k : Int) nm
    rw [ldd_nat] at this
    exact this
  clear h
  unfold LB.ptr Ls.first
  generalize hR : S.firstF nm 17 (i : Int) (-1) = R at *
  have HR := hidIt hR
  clear hR
  go_enter Try.func41, Try.ntmps41
  go_wp2_with fail
  go_loopw [1, 7] (fun iv jv wr => ∃ (n acc : Int) (f : Nat), iv = .int .i64 n ∧ jv = .int .i64 acc ∧ -1 ≤ n ∧ n < S.each.length ∧ n < f ∧ S.firstF nm f n acc = R ∧ Below w.heap.size w wr) (fun iv _ _ => (intOf iv + 1).toNat)
  case atStart => exact ⟨(i : Int), -1, 17, rfl, rfl, by omega, by omega, by omega, HR.out, Below.refl _ _⟩
  case round =>
    clear HR
    obtain ⟨n, acc, f, rfl, rfl, h1, h2, h3, hR, hb⟩ := hrel
    have hv := HV.out.below hb
    by_cases hn : n = -1
    · subst hn
      have hR2 : acc = R := by
        cases f with
        | zero => exact hR
        | succ f => unfold Ls.firstF at hR; rwa [if_pos (by omega)] at hR
      subst hR2
      have HB := hidIt hb
      clear hv hb
      go_wp2_with fail
      go_ret
      exact ⟨rfl, HB.out⟩
    · obtain ⟨k, rfl⟩ : ∃ k : Nat, n = (k : Int) := ⟨n.toNat, by omega⟩
      obtain ⟨x, hx⟩ : ∃ x, S.each[k]? = some x := ⟨_, List.getElem?_eq_getElem (by omega)⟩
      obtain ⟨f, rfl⟩ : ∃ g, f = g + 1 := ⟨f - 1, by omega⟩
      unfold Ls.firstF at hR
      rw [if_neg (by omega), Int.toNat_natCast, hx] at hR
      simp only at hR
      have hne : ((k : Int) != -1) = true := by simp
      obtain ⟨g, cap, ev, hc, hg, k0, k1, k2, m1, m2⟩ := hv.row hx
      have c0 := hv.c0
      rw [ev] at c0
      have hlk := m1.look2 Try.underlying61 Try.underlying9 (zero_off wr) nm
      rw [slook_map] at hlk
      have hv0 : ∃ z : ByteArray × Int, ((alook x.of nm).map offV).getD (.agg #[.string ⟨#[]⟩, .int .i64 0]) = .agg #[.string z.1, .int .i64 z.2] := by
        cases e : alook x.of nm with
        | none => exact ⟨(⟨#[]⟩, 0), rfl⟩
        | some z => exact ⟨z, rfl⟩
      obtain ⟨z, hz⟩ := hv0
      rw [hz, Option.isSome_map] at hlk
      have hp := hv.par k x hx
      have g1 := hidIt (fun W (hW : Below wr.heap.size wr W) => GL.out W k (hv.below hW))
      have hld : S.ldN k nm = alook x.ld nm := by unfold Ls.ldN; rw [hx]
      rw [hld] at g1
      have CB : Hid (∀ W, Below wr.heap.size wr W → W.cell? ⟨H.hb, 0, none⟩ = some (.slice (some ⟨g, 0, none⟩) S.each.length cap) ∧ W.cell? ⟨g, k * 3, none⟩ = some (.int .i64 x.par)) := hidIt fun W hW => ⟨(hW.cell (hv.lt (.inl rfl)).2).trans c0, (hW.cell hg).trans k0⟩
      have HB := hidIt hb
      have hl2 : ∀ m : Int, m < (k : Int) → m < S.each.length := fun m hm => by omega
      have HL2 := hidIt hl2
      clear hv hb hz hld m1 m2 ev hl2 GL
      cases hp1 : (alook x.of nm).isSome <;> cases hq1 : (alook x.ld nm).isSome
      all_goals
        rw [hp1, hq1] at hR
        rw [hp1] at hlk
        rw [hq1] at g1
        have HR := hidIt hR
        clear hR hp1 hq1
        generalize x.par = pr at *
        generalize S.each.length = m at *
        have hk' : (k : Int) < (m : Int) := by omega
        have B0 := hidIt (balloc wr (.cells #[.string z.1, .int .i64 z.2] 66))
        obtain ⟨a0, a1⟩ := CB.out _ B0.out
        go_wp2_with (go_at_call 40; refine (g1.out _ (balloc _ _)).mono ?_; rintro e w1 ⟨rfl, hb1⟩; have B1 := hidIt ((balloc wr _).trans (hb1.mono (by simp))); obtain ⟨d0, d1⟩ := CB.out _ B1.out; clear hb1)
        first
          | exact ⟨⟨pr, _, f, rfl, rfl, hp.1, HL2.out _ hp.2, by omega, HR.out, HB.out.trans (B1.out.mono HB.out.size)⟩, by simp [intOf]; omega⟩
          | exact ⟨⟨pr, _, f, rfl, rfl, hp.1, HL2.out _ hp.2, by omega, HR.out, HB.out.trans (B0.out.mono HB.out.size)⟩, by simp [intOf]; omega⟩
set_option maxRecDepth 8000 in
set_option maxHeartbeats 4000000 in
theorem line_any (h : LoV n0 w H S) {t n : Nat} {l : List Int} (hl : S.upL t 17 n = some l) (hn : n < S.each.length) : Calls Try.prog 43 #[H.ptr, .int .i64 (t : Int), .int .i64 (n : Int)] w fun e w' => ∃ v, e = .returned v ∧ NOwn w' w.heap.size v l.reverse ∧ Below w.heap.size w w' := by
  have HV := hidIt h
  have hf := h.few
  have GR : Hid (∀ (W : World) (v : Value), NOwn W w.heap.size v l → l.length ≤ 100000 → Calls Try.prog 45 #[v] W fun e w' => (∃ u, e = .returned u) ∧ NOwn w' w.heap.size v l.reverse ∧ Below w.heap.size W w') := hidIt fun W v a b => reverse_any a b
  have H0 : Hid (NOwn (w.alloc (.cells #[.int .i64 (n : Int)] 3)) w.heap.size (.slice (some ⟨w.heap.size, 0, none⟩) 1 1) [(n : Int)]) := hidIt ⟨rfl, .inr ⟨w.heap.size, 1, #[.int .i64 (n : Int)], rfl, Nat.le_refl _, heap_alloc_new w _, Nat.le_refl _, by unfold maxLen; omega, rfl, rfl⟩⟩
  have HL : Hid (S.upL t 17 n = some l) := hidIt hl
  clear h hl
  unfold LB.ptr
  go_enter Try.func43, Try.ntmps43
  go_wp2_with fail
  have HB0 := hidIt (balloc w (.cells #[.int .i64 (n : Int)] 3))
  generalize w.alloc (.cells #[.int .i64 (n : Int)] 3) = w0 at *
  go_loopw [2, 7] (fun iv lv wr => ∃ (i f : Nat) (done : List Int) (rest : List Int), iv = .int .i64 (i : Int) ∧ i < S.each.length ∧ done.length + f = 17 ∧ S.upL t f i = some ((i : Int) :: rest) ∧ l = done ++ (i : Int) :: rest ∧ NOwn wr w.heap.size lv (done ++ [(i : Int)]) ∧ Below w.heap.size w wr) (fun iv _ _ => (intOf iv).toNat)
  case atStart =>
    have hu := HL.out
    have : ∃ rest, l = (n : Int) :: rest := by
      unfold Ls.upL at hu
      split at hu
      · cases hu; exact ⟨[], rfl⟩
      · split at hu
        · split at hu
          · cases hu
          · rw [Option.map_eq_some_iff] at hu
            obtain ⟨r, _, e⟩ := hu
            exact ⟨r, e.symm⟩
        · cases hu
    obtain ⟨rest, e⟩ := this
    exact ⟨n, 17, [], rest, rfl, hn, by simp, by rw [hu, e], e, H0.out, HB0.out⟩
  case round =>
    clear H0 HB0
    obtain ⟨i, f, dn, rest, rfl, hi, hlen, hu, hl2, ho, hb⟩ := hrel
    obtain ⟨f, rfl⟩ : ∃ g, f = g + 1 := by
      cases f with
      | zero => simp [Ls.upL] at hu
      | succ g => exact ⟨g, rfl⟩
    unfold Ls.upL at hu
    obtain ⟨ao, cap, rfl⟩ := own_slice ho
    have hz := hb.size
    by_cases hit : i = t
    · subst hit
      rw [if_pos rfl] at hu
      simp only [Option.some.injEq, List.cons.injEq, true_and] at hu
      subst hu
      have GR2 := hidIt (GR.out wr (.slice ao (dn ++ [(i : Int)]).length cap) (by rw [hl2]; exact ho) (by rw [hl2]; simp; omega))
      have HB := hidIt hb
      clear ho hb hl2 GR HL
      generalize (dn ++ [(i : Int)]).length = m at *
      go_wp2_with (go_at_call 45; refine GR2.out.mono ?_; rintro e w1 ⟨⟨u, rfl⟩, ho1, hb1⟩; have HO1 := hidIt ho1; have HB1 := hidIt (HB.out.trans hb1); clear ho1 hb1)
      go_ret
      exact ⟨_, rfl, HO1.out, HB1.out⟩
    · rw [if_neg hit] at hu
      obtain ⟨x, hx⟩ : ∃ x, S.each[i]? = some x := ⟨_, List.getElem?_eq_getElem hi⟩
      rw [hx] at hu
      simp only at hu
      split at hu
      · cases hu
      · rename_i hp0
        rw [Option.map_eq_some_iff] at hu
        obtain ⟨r, hr, e⟩ := hu
        simp only [List.cons.injEq, true_and] at e
        subst e
        have hv := HV.out.below hb
        obtain ⟨g, cap2, ev, hc, hg, k0, k1, k2, m1, m2⟩ := hv.row hx
        have c0 := hv.c0
        rw [ev] at c0
        have hp := hv.par i x hx
        obtain ⟨j, hj⟩ : ∃ j : Nat, x.par = (j : Int) := ⟨x.par.toNat, by omega⟩
        rw [hj] at hr k0 hp
        rw [Int.toNat_natCast] at hr
        have hne : ((i : Int) != (t : Int)) = true := by simp; omega
        have : ∃ rest, r = (j : Int) :: rest := by
          cases f with
          | zero => simp [Ls.upL] at hr
          | succ f =>
            unfold Ls.upL at hr
            split at hr
            · rename_i e; subst e; cases hr; exact ⟨[], rfl⟩
            · split at hr
              · split at hr
                · cases hr
                · rw [Option.map_eq_some_iff] at hr
                  obtain ⟨r2, _, e⟩ := hr
                  exact ⟨r2, e.symm⟩
              · cases hr
        obtain ⟨rest2, rfl⟩ := this
        have FIN : Hid (∀ ao' cap' w', NOwn w' w.heap.size (.slice ao' ((dn ++ [(i : Int)]).length + 1) cap') (dn ++ [(i : Int)] ++ [(j : Int)]) → Step (.slice ao (dn ++ [(i : Int)]).length cap) (wr.alloc (.cells #[.int .i64 (j : Int)] 3)) (.slice ao' ((dn ++ [(i : Int)]).length + 1) cap') w' → ∃ (i' f' : Nat) (done : List Int) (rest : List Int), Value.int .i64 (j : Int) = .int .i64 (i' : Int) ∧ i' < S.each.length ∧ done.length + f' = 17 ∧ S.upL t f' i' = some ((i' : Int) :: rest) ∧ l = done ++ (i' : Int) :: rest ∧ NOwn w' w.heap.size (.slice ao' ((dn ++ [(i : Int)]).length + 1) cap') (done ++ [(i' : Int)]) ∧ Below w.heap.size w w') := hidIt fun ao' cap' w' ho' st =>
          ⟨j, f, dn ++ [(i : Int)], rest2, rfl, by omega, by simp; omega, hr, by rw [hl2]; simp, ho', (hb.trans ((balloc _ _).mono hz)).trans (st.below (Nat.le_trans hz (balloc _ _).size) (fun k hk => (ho.lt k hk).1))⟩
        have HO := hidIt ho
        have hlen2 : (dn ++ [(i : Int)]).length ≤ 100 := by simp; omega
        clear ho hb hl2 hr hlen hp0 m1 m2 hv ev GR
        generalize (dn ++ [(i : Int)]) = acc at *
        generalize S.each.length = m at *
        have hi' : (i : Int) < (m : Int) := by omega
        have hji : j < i := by omega
        go_wp2_with (at_builtin; refine wpList_nappend rfl _ _ rfl w.heap.size _ _ _ HO.out rfl rfl (by omega) hz ?_; intro ao4 cap4 w2 ho2 st2; have F := hidIt (FIN.out _ _ _ ho2 st2); clear ho2 st2)
        exact ⟨F.out, by simp [intOf]; omega⟩
end Go.Proofs.Ytacmooknfbjpeaa.J

