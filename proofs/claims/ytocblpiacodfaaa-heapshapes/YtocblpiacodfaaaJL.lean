/- HeapPlaces: walked. -/
import Derived.Test.YtocblpiacodfaaaJK
namespace Go.Proofs.Ytocblpiacodfaaa.J
open Go.RowKit Go.MapKept Go.ChangeMaps
set_option linter.unusedVariables false

theorem modN_snoc (g : Ob → Ob) : ∀ (l : List Ob) (o : Ob), modN g (l ++ [o]) (usedN l) = l ++ [g o]
  | [], o => by simp [modN, usedN]
  | x :: l, o => by
    simp only [List.cons_append, modN, usedN]
    rw [if_neg (by omega), if_neg (by omega), show x.f.length + 3 + usedN l - (x.f.length + 3) = usedN l by omega, modN_snoc g l o]
theorem objZ_snoc (l : List Ob) (o : Ob) : objZ (l ++ [o]) ((usedN l : Int) + 1) = some o := by
  have := objZ_nth (l := l ++ [o]) (k := l.length) (o := o) (by simp)
  rwa [List.take_left] at this
theorem setL_snoc (l : List Ob) (o : Ob) (n x : Int) : setL (l ++ [o]) ((usedN l : Int) + 1) n x = l ++ [setF n.toNat x o] := by
  unfold setL
  rw [show ((usedN l : Int) + 1 - 1).toNat = usedN l by omega]
  exact modN_snoc _ l o
/-- What the statement puts into its arrays. -/
def PlL (l : List Ob) : Prop := ∀ (k : Nat) o, l[k]? = some o → o.sh = -1 ∧ ∀ (j : Nat) x, o.f[j]? = some x → x = 1000 * ((k : Int) + 1) + (j : Int)
theorem PlL.snoc {l : List Ob} (h : PlL l) {f : List Int} (hf : ∀ (j : Nat) x, f[j]? = some x → x = 1000 * ((l.length : Int) + 1) + (j : Int)) : PlL (l ++ [⟨-1, 0, f⟩]) := by
  intro k o hk
  rw [List.getElem?_append] at hk
  split at hk
  · exact h k o hk
  · have hk0 : k - l.length = 0 := by
      have := (List.getElem?_eq_some_iff.1 hk).1
      simp at this; omega
    rw [hk0] at hk
    obtain rfl : (⟨-1, 0, f⟩ : Ob) = o := by simpa using hk
    obtain rfl : k = l.length := by omega
    exact ⟨rfl, hf⟩
theorem hp_set_snoc {n0 : Nat} {w : World} {p most : Nat} {l : List Ob} {f : List Int} {c : Int} {j : Nat} (hj : j < f.length) (h : Hp n0 w p most (l ++ [⟨-1, 0, f⟩]) []) (hf : ∀ (i : Nat) x, f[i]? = some x → i < j → x = c + (i : Int)) :
    Calls Try.prog 11 #[.pointer (some ⟨p, 0, none⟩), .int .i64 ((usedN l : Int) + 1), .int .i64 (j : Int), .int .i64 (c + (j : Int))] w fun e w' => e = .returned (.int .i64 0) ∧ (∃ f', f'.length = f.length ∧ Hp n0 w' p most (l ++ [⟨-1, 0, f'⟩]) [] ∧ ∀ (i : Nat) x, f'[i]? = some x → i < j + 1 → x = c + (i : Int)) ∧ HpS n0 w w' := by
  have ho := objZ_snoc l ⟨-1, 0, f⟩
  have hh : hasZ (l ++ [⟨-1, 0, f⟩]) ((usedN l : Int) + 1) (j : Int) = true := hasZ_of ho (by omega) (by simpa using hj)
  have hr : refZ [] (l ++ [⟨-1, 0, f⟩]) ((usedN l : Int) + 1) (j : Int) = false := by
    unfold refZ shpZ
    rw [ho, hh]
    rfl
  refine (hp_set h _ _ (c + (j : Int)) hh (by unfold fitZ; rw [hr]; rfl)).mono fun e w' ⟨e1, e2, e3⟩ => ⟨e1, ⟨f.set j (c + (j : Int)), by simp, ?_, ?_⟩, e3⟩
  · rw [setL_snoc] at e2
    simpa [setF] using e2
  · intro i x hx hi
    rw [List.getElem?_set] at hx
    split at hx
    · rename_i e
      subst e
      simpa using hx.symm
    · exact hf i x hx (by omega)
set_option maxRecDepth 8000 in
set_option maxHeartbeats 4000000 in
theorem places_any (words : Int) (vs : Value) (sizes : List Int) (w : World) (hs : NView w vs sizes) : Calls Try.prog 5 #[.int .i64 words, vs] w fun e w' => e = .returned (.bool true) ∧ Below w.heap.size w w' := by
  have HS := hidIt hs
  obtain ⟨ao, cap, rfl, hc, hm, _⟩ := hs
  unfold maxLen at hm
  have hwi := wiZ_le words 1999
  obtain ⟨M, hM⟩ : ∃ M : Nat, wiZ words 1999 + 1 = M := ⟨_, rfl⟩
  have GW := hidIt (within_any words 1999 (by decide) w)
  rw [show ((wiZ words 1999 : Nat) : Int) = (M : Int) - 1 by omega] at GW
  have hM1 : 1 ≤ M := by omega
  have hM2 : M ≤ 2000 := by omega
  clear hM hwi
  have GN := hidIt (hp_new M hM1 (by omega) w)
  have eM : (1 : Int) + ((M : Int) - 1) = (M : Int) := by omega
  go_enter Try.func5, Try.ntmps5
  go_wp2_with (first
    | (go_at_call 21; refine GW.out.mono ?_; rintro e w' ⟨rfl, hww⟩; cases hww; clear GW)
    | (go_at_call 7; refine GN.out.mono ?_; rintro e w' ⟨p, rfl, hv, hb⟩; have HB := hidIt hb; have HV := hidIt hv; clear GN hv hb))
  go_loopw [7, 8, 9] (fun at_ refs i wr => ∃ (k : Nat) (l : List Ob), k ≤ 60 ∧ k ≤ sizes.length ∧ l.length ≤ k ∧ i = .int .i64 (k : Int) ∧ at_ = .int .i64 ((usedN l : Int) + 1) ∧ PlL l ∧ NOwn wr w.heap.size refs (begs 0 l) ∧ Hp w.heap.size wr p M l [] ∧ Below w.heap.size w wr) (fun _ _ i _ => 60 - (intOf i).toNat)
  case atStart => exact ⟨0, [], Nat.zero_le _, Nat.zero_le _, Nat.le_refl _, rfl, rfl, fun k o h => by simp at h, NOwn.nil _ _, HV.out, HB.out⟩
  case round =>
    clear HV HB
    obtain ⟨k, l, hk6, hks, hlk, rfl, rfl, hp, ho, hv, hb⟩ := hrel
    have HP := hidIt hp
    have HO := hidIt ho
    have HV := hidIt hv
    have HB := hidIt hb
    obtain ⟨ao2, cap2, rfl⟩ := own_slice ho
    obtain ⟨hu, -⟩ := hv.small
    have hlen := hidIt (begs_len l 0)
    clear hp ho hv hb
    have hz : w.heap.size ≤ wr.heap.size := HB.out.size
    by_cases hgo : k < sizes.length ∧ k < 60
    · obtain ⟨h1, h2⟩ := hgo
      obtain ⟨x, hx⟩ : ∃ x, sizes[k]? = some x := ⟨sizes[k], List.getElem?_eq_getElem h1⟩
      obtain ⟨g, off, rfl, c0⟩ := (HS.out.below HB.out).row hx
      clear hx
      have h1' : (k : Int) < (sizes.length : Int) := by omega
      have h2' : (k : Int) < 60 := by omega
      have hw := wiZ_le x 40
      have GW : Hid (∀ W, Calls Try.prog 21 #[.int .i64 x, .int .i64 0, .int .i64 40] W fun e w' => e = .returned (.int .i64 (wiZ x 40 : Int)) ∧ w' = W) := hidIt (fun W => within_any x 40 (by decide) W)
      generalize wiZ x 40 = n at *
      by_cases hf : M < usedN l + (n + 3)
      · have GA := hidIt (hp_array_full HV.out false n (by omega) hf)
        have hf' : (M : Int) < (usedN l : Int) + 1 - 1 + 3 + (n : Int) := by omega
        have NX : Hid (∀ W, Hp w.heap.size W p M l [] → HpS w.heap.size wr W → ∃ (k' : Nat) (l' : List Ob), k' ≤ 60 ∧ k' ≤ sizes.length ∧ l'.length ≤ k' ∧ Value.int .i64 ((k : Int) + 1) = .int .i64 (k' : Int) ∧ Value.int .i64 ((usedN l : Int) + 1) = .int .i64 ((usedN l' : Int) + 1) ∧ PlL l' ∧ NOwn W w.heap.size (.slice ao2 (begs 0 l).length cap2) (begs 0 l') ∧ Hp w.heap.size W p M l' [] ∧ Below w.heap.size w W) := hidIt (fun W a b => ⟨k + 1, l, by omega, by omega, by omega, by go_num, rfl, HP.out, b.nown HO.out, a, HB.out.trans (b.below _ (Nat.le_refl _))⟩)
        generalize begs 0 l = acc at *
        generalize usedN l = U at *
        go_wp2_with (first
          | (go_at_call 21; refine (GW.out _).mono ?_; rintro e w' ⟨rfl, hww⟩; cases hww)
          | (go_at_call 12; refine GA.out.mono ?_; rintro e w' ⟨rfl, hv, hs⟩; have HV2 := hidIt hv; have HS2 := hidIt hs; clear hv hs GA))
        exact ⟨NX.out _ HV2.out HS2.out, by simp [intOf]; omega⟩
      · have GA := hidIt (hp_array HV.out false n (by omega) (by omega))
        have hf' : ¬ (M : Int) < (usedN l : Int) + 1 - 1 + 3 + (n : Int) := by omega
        have hln : (begs 0 l).length ≤ 60 := by rw [hlen.out]; omega
        have NX : Hid (∀ W W2 W3 v f, Hp w.heap.size W p M (l ++ [⟨-1, 0, f⟩]) [] → f.length = n → (∀ (i : Nat) x, f[i]? = some x → i < n → x = 1000 * ((l.length : Int) + 1) + (i : Int)) → HpS w.heap.size wr W2 → NOwn W3 w.heap.size v (begs 0 l ++ [(usedN l : Int) + 1]) → Below w.heap.size w W3 → HpS w.heap.size W3 W → ∃ (k' : Nat) (l' : List Ob), k' ≤ 60 ∧ k' ≤ sizes.length ∧ l'.length ≤ k' ∧ Value.int .i64 ((k : Int) + 1) = .int .i64 (k' : Int) ∧ Value.int .i64 ((usedN l : Int) + 1 + 3 + (n : Int)) = .int .i64 ((usedN l' : Int) + 1) ∧ PlL l' ∧ NOwn W w.heap.size v (begs 0 l') ∧ Hp w.heap.size W p M l' [] ∧ Below w.heap.size w W) := hidIt (fun W W2 W3 v f a hfl hff b c d e => ⟨k + 1, l ++ [⟨-1, 0, f⟩], by omega, by omega, by simp; omega, by go_num, by rw [usedN_append]; simp [usedN, hfl]; omega, HP.out.snoc (fun j x hj => hff j x hj (by rw [← hfl]; exact (List.getElem?_eq_some_iff.1 hj).1)), by rw [begs_append]; simp only [begs, Nat.zero_add]; exact e.nown c, a, d.trans (e.below _ (Nat.le_refl _))⟩)
        have hcc : Hid ((begs 0 l).length = l.length) := hlen
        have hset : Hid (∀ W f (j : Nat), j < f.length → Hp w.heap.size W p M (l ++ [⟨-1, 0, f⟩]) [] → (∀ (i : Nat) x, f[i]? = some x → i < j → x = 1000 * (((begs 0 l).length + 1 : Nat) : Int) + (i : Int)) → Calls Try.prog 11 #[.pointer (some ⟨p, 0, none⟩), .int .i64 ((usedN l : Int) + 1), .int .i64 (j : Int), .int .i64 (1000 * (((begs 0 l).length + 1 : Nat) : Int) + (j : Int))] W fun e w' => e = .returned (.int .i64 0) ∧ (∃ f', f'.length = f.length ∧ Hp w.heap.size w' p M (l ++ [⟨-1, 0, f'⟩]) [] ∧ ∀ (i : Nat) x, f'[i]? = some x → i < j + 1 → x = 1000 * (((begs 0 l).length + 1 : Nat) : Int) + (i : Int)) ∧ HpS w.heap.size W w') := hidIt (fun W f j hj a b => hp_set_snoc hj a b)
        generalize begs 0 l = acc at *
        generalize usedN l = U at *
        go_wp2_with (first
          | (go_at_call 21; refine (GW.out _).mono ?_; rintro e w' ⟨rfl, hww⟩; cases hww)
          | (go_at_call 12; refine GA.out.mono ?_; rintro e w' ⟨rfl, hv, hs⟩; have HV2 := hidIt hv; have HS2 := hidIt hs; clear hv hs GA; have HO2 := hidIt (HS2.out.nown HO.out); have hz2 := (HS2.out.below _ (Nat.le_refl _)).size; have HB2 := hidIt (HB.out.trans (HS2.out.below _ (Nat.le_refl _))))
          | (at_builtin; refine wpList_nappend rfl _ _ rfl w.heap.size _ _ _ HO2.out rfl rfl (by omega) (Nat.le_trans hz (by omega)) ?_; intro ao3 cap3 w3 ho3 st3; have HV3 := hidIt ((HV2.out.below (balloc _ _)).grown (by unfold OT; decide) (own_below HO2.out (balloc _ _)) st3.grown); have HO3 := hidIt ho3; have HB3 := hidIt ((HB2.out.trans ((balloc _ _).mono (Nat.le_trans hz (by omega)))).trans (st3.below (Nat.le_trans (Nat.le_trans hz (by omega)) (balloc _ _).size) (fun k hk => (HO2.out.lt k hk).1))); clear ho3 st3))
        have hn40 : (n : Int) ≤ 40 := by omega
        have hl60 : (acc.length : Int) ≤ 60 := by omega
        go_loopw [13] (fun jv W => ∃ (j : Nat) (f : List Int), j ≤ n ∧ jv = .int .i64 (j : Int) ∧ f.length = n ∧ Hp w.heap.size W p M (l ++ [⟨-1, 0, f⟩]) [] ∧ (∀ (i : Nat) x, f[i]? = some x → i < j → x = 1000 * ((acc.length + 1 : Nat) : Int) + (i : Int)) ∧ HpS w.heap.size w3 W) (fun jv _ => n - (intOf jv).toNat)
        case atStart => exact ⟨0, List.replicate n 0, Nat.zero_le _, rfl, by simp, HV3.out, fun i x _ h => absurd h (by omega), ⟨fun B hB => Below.refl _ _, fun _ _ _ _ _ h => h⟩⟩
        case round =>
          obtain ⟨j, f, hj, rfl, hfl, hv, hff, hst⟩ := hrel
          have HF := hidIt hff
          have HV4 := hidIt hv
          have HS4 := hidIt hst
          have HFL := hidIt hfl
          clear hff hv hst hfl
          by_cases hjn : j < n
          · have hjn' : (j : Int) < (n : Int) := by omega
            have GS := hidIt (hset.out wr f j (by rw [HFL.out]; exact hjn) HV4.out HF.out)
            go_wp2_with (go_at_call 11; refine GS.out.mono ?_; rintro e w' ⟨rfl, ⟨f', e1, e2, e3⟩, e4⟩)
            exact ⟨⟨j + 1, f', by omega, by go_num, e1.trans HFL.out, e2, e3, HS4.out.trans e4⟩, by simp [intOf]; omega⟩
          · have hjn' : ¬ (j : Int) < (n : Int) := by omega
            obtain rfl : j = n := by omega
            go_wp2_with fail
            exact ⟨NX.out _ _ _ _ f HV4.out HFL.out (by have := HF.out; rw [hcc.out] at this; intro i x h1 h2; rw [this i x h1 h2]; simp) HS2.out HO3.out HB3.out HS4.out, by simp [intOf]; omega⟩
    · obtain ⟨V, hV⟩ : ∃ V, V = wr := ⟨wr, rfl⟩
      subst hV
      have hl60 : l.length ≤ 60 := by omega
      have hlI : (l.length : Int) ≤ 60 := by omega
      have GL : Hid (∀ (i : Nat) o, l[i]? = some o → ∀ W, Below V.heap.size V W → Calls Try.prog 33 #[.pointer (some ⟨p, 0, none⟩), .int .i64 ((usedN (l.take i) : Int) + 1)] W fun e w' => e = .returned (.int .i64 (o.f.length : Int)) ∧ w' = W) := hidIt (fun i o hi W hb => by
        have := hp_len (HV.out.below hb) ((usedN (l.take i) : Int) + 1)
        unfold lenZ at this
        rw [objZ_nth hi] at this
        exact this)
      have GG : Hid (∀ (i : Nat) o, l[i]? = some o → ∀ (j : Nat), j < o.f.length → ∀ W, Below V.heap.size V W → Calls Try.prog 10 #[.pointer (some ⟨p, 0, none⟩), .int .i64 ((usedN (l.take i) : Int) + 1), .int .i64 (j : Int)] W fun e w' => e = .returned (.tuple #[.int .i64 (1000 * ((i : Int) + 1) + (j : Int)), .int .i64 0]) ∧ Below W.heap.size W w') := hidIt (fun i o hi j hj W hb => by
        have := hp_get (HV.out.below hb) ((usedN (l.take i) : Int) + 1) (j : Int) (hasZ_of (objZ_nth hi) (by omega) (by omega))
        unfold getZ at this
        rw [objZ_nth hi] at this
        obtain ⟨x, hx⟩ : ∃ x, o.f[j]? = some x := ⟨o.f[j], List.getElem?_eq_getElem hj⟩
        simp only [Int.toNat_natCast, hx, Option.getD_some] at this
        rw [(HP.out i o hi).2 j x hx] at this
        exact this)
      have GR : Hid (∀ (i : Nat) o, l[i]? = some o → ∀ W, Below V.heap.size V W → ∃ g, ao2 = some ⟨g, 0, none⟩ ∧ W.cell? ⟨g, i, none⟩ = some (.int .i64 ((usedN (l.take i) : Int) + 1)) ∧ o.f.length ≤ 2000) := hidIt (fun i o hi W hb => by
        have hb1 := begs_at l 0 i (List.getElem?_eq_some_iff.1 hi).1
        rw [Nat.zero_add] at hb1
        have hO := HO.out
        unfold NOwn at hO
        obtain ⟨g, e1, -, -, hc, -⟩ := own_cell hO (icells_at hb1)
        exact ⟨g, e1, cell_later hb hc, by have := usedN_take l i o hi; omega⟩)
      have GU : Hid (∀ W, Below V.heap.size V W → Calls Try.prog 16 #[.pointer (some ⟨p, 0, none⟩)] W fun e w' => e = .returned (.int .i64 (usedN l)) ∧ w' = W) := hidIt (fun W hb => hp_used (HV.out.below hb))
      have GA : Hid (∀ W, Below V.heap.size V W → Calls Try.prog 34 #[.pointer (some ⟨p, 0, none⟩)] W fun e w' => ∃ v', e = .returned v' ∧ NOwn w' W.heap.size v' (begs 0 l) ∧ Below W.heap.size W w') := hidIt (fun W hb => hp_all (HV.out.below hb))
      have hbl := hidIt (begs_len l 0)
      have HO2 : Hid (NOwn V w.heap.size (.slice ao2 l.length cap2) (begs 0 l)) := by rw [← begs_len l 0]; exact HO
      have hUU : (usedN l : Int) ≤ 2000 := by omega
      rw [begs_len l 0] at *
      generalize hBB : begs 0 l = acc at *
      generalize hUe : usedN l = U at *
      clear HO HP hBB hUe
      by_cases h1 : k < sizes.length
      case' pos =>
        have h1' : (k : Int) < (sizes.length : Int) := by omega
        have h2' : ¬ (k : Int) < 60 := by omega
        clear hgo hlen
        go_wp2_with fail
      case' neg =>
        have h1' : ¬ (k : Int) < (sizes.length : Int) := by omega
        clear hgo hlen
        go_wp2_with fail
      all_goals
        go_loopw [14] (fun iv W => ∃ (i : Nat), i ≤ l.length ∧ iv = .int .i64 (i : Int) ∧ Below V.heap.size V W) (fun iv _ => l.length - (intOf iv).toNat)
        case atStart => exact ⟨0, Nat.zero_le _, rfl, Below.refl _ _⟩
        case round =>
          obtain ⟨i, hi, rfl, hb⟩ := hrel
          obtain ⟨W1, hW1⟩ : ∃ W, W = wr := ⟨wr, rfl⟩
          subst hW1
          have HB1 := hidIt hb
          clear hb
          by_cases hlt : i < l.length
          · have hlt' : (i : Int) < (l.length : Int) := by omega
            have hi60 : (i : Int) ≤ 60 := by omega
            obtain ⟨o, ho⟩ : ∃ o, l[i]? = some o := ⟨l[i], List.getElem?_eq_getElem hlt⟩
            obtain ⟨g, rfl, -, hfl⟩ := GR.out i o ho W1 HB1.out
            have HR : Hid (∀ W, Below V.heap.size V W → W.cell? ⟨g, i, none⟩ = some (.int .i64 ((usedN (l.take i) : Int) + 1))) := hidIt (fun W hb => by
              obtain ⟨g', e1, e2, -⟩ := GR.out i o ho W hb
              cases e1; exact e2)
            have GL2 := hidIt (GL.out i o ho)
            have GG2 := hidIt (GG.out i o ho)
            clear ho
            generalize (usedN (l.take i) : Int) + 1 = v at *
            generalize o.f.length = n at *
            have hn2 : (n : Int) ≤ 2000 := by omega
            go_wp2_with fail
            go_loopw [15] (fun jv W => ∃ (j : Nat), j ≤ n ∧ jv = .int .i64 (j : Int) ∧ Below V.heap.size V W) (fun jv _ => n - (intOf jv).toNat)
            case atStart => exact ⟨0, Nat.zero_le _, rfl, HB1.out⟩
            case round =>
              obtain ⟨j, hj, rfl, hb⟩ := hrel
              have HB2 := hidIt hb
              clear hb
              have c0 := HR.out wr HB2.out
              by_cases hjn : j < n
              · have hjn' : (j : Int) < (n : Int) := by omega
                go_wp2_with (first
                  | (go_at_call 33; refine (GL2.out wr HB2.out).mono ?_; rintro e w' ⟨rfl, hww⟩; cases hww)
                  | (go_at_call 10; refine (GG2.out j hjn wr HB2.out).mono ?_; rintro e w' ⟨rfl, hb3⟩; have HB3 := hidIt (HB2.out.trans (hb3.mono HB2.out.size)); clear hb3))
                exact ⟨⟨j + 1, by omega, by go_num, HB3.out⟩, by simp [intOf]; omega⟩
              · have hjn' : ¬ (j : Int) < (n : Int) := by omega
                obtain rfl : j = n := by omega
                go_wp2_with (go_at_call 33; refine (GL2.out wr HB2.out).mono ?_; rintro e w' ⟨rfl, hww⟩; cases hww)
                exact ⟨⟨i + 1, by omega, by go_num, HB2.out⟩, by simp [intOf]; omega⟩
          · have hlt' : ¬ (i : Int) < (l.length : Int) := by omega
            have GU2 := hidIt (GU.out W1 HB1.out)
            have GA2 := hidIt (GA.out W1 HB1.out)
            clear GU GA GL GG GR
            go_wp2_with (first
              | (go_at_call 16; refine GU2.out.mono ?_; rintro e w' ⟨rfl, hww⟩; cases hww)
              | (go_at_call 34; refine GA2.out.mono ?_; rintro e w' ⟨v', rfl, ho3, hb3⟩; have HO3 := hidIt ho3; have HB3 := hidIt (HB1.out.trans (hb3.mono HB1.out.size)); clear ho3 hb3)
              | (go_at_call 15; refine (nsame_any _ _ _ _ HO3.out.view (HO2.out.view.below HB3.out)).mono ?_; rintro e w' ⟨rfl, hb4⟩; have HB4 := hidIt (HB3.out.trans (hb4.mono HB3.out.size)); clear hb4)
              | (go_at_call 20; refine (known_any _).mono ?_; rintro e w' ⟨rfl, hb5⟩; have HB5 := hidIt (HB4.out.trans (hb5.mono HB4.out.size)); clear hb5))
            go_ret
            exact ⟨rfl, HB.out.trans (HB5.out.mono hz)⟩
end Go.Proofs.Ytocblpiacodfaaa.J
