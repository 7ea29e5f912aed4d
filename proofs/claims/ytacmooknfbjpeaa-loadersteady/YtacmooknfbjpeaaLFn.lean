/- wishes: walked. -/
import Derived.Test.YtacmooknfbjpeaaLEn
import Derived.Test.YtacmooknfbjpeaaLFa
namespace Go.Proofs.Ytacmooknfbjpeaa.J
open Go.RowKit Go.MapKept Go.ChangeMaps
set_option linter.unusedVariables false
variable {n0 : Nat} {w : World} {H : LB} {S : Ls}

structure Wi where
  nm : ByteArray
  fi : Nat
  dn : Nat
def wiR (x : Wi) : List Value := [.string x.nm, .int .i64 (x.fi : Int), .int .i64 (x.dn : Int)]
def wiC : List Wi → List Value
  | [] => []
  | x :: l => wiR x ++ wiC l
theorem wiC_snoc (x : Wi) : ∀ l : List Wi, wiC (l ++ [x]) = wiC l ++ wiR x
  | [] => by simp [wiC]
  | y :: l => by simp only [List.cons_append, wiC, wiC_snoc x l, List.append_assoc]
/-- What has to be loaded for one name. -/
def Ls.wish (S : Ls) : Nat → Nat → ByteArray → List Wi → List (Nat × ByteArray) → Option (List Wi × Int)
  | 0, _, _, _, _ => none
  | f + 1, n, s, acc, df =>
    if (S.ldN n s).isSome then some (acc, 0)
    else if S.first n s = -1 then some ([], 22)
    else if (S.ldN (S.first n s).toNat s).isSome then some (acc ++ [⟨s, (S.first n s).toNat, n⟩], 0)
    else if dmem ((S.first n s).toNat, s) df then some ([], 24)
    else match S.ofN (S.first n s).toNat s with
      | none => none
      | some o => if o.1 = ⟨#[]⟩ then some (acc ++ [⟨s, (S.first n s).toNat, n⟩], 0) else S.wish f (S.first n s).toNat o.1 (acc ++ [⟨s, (S.first n s).toNat, n⟩]) (df ++ [((S.first n s).toNat, s)])
theorem firstF_in (S : Ls) (s : ByteArray) : ∀ (f : Nat) (n acc : Int), S.firstF s f n acc = acc ∨ ∃ k : Nat, S.firstF s f n acc = (k : Int) ∧ k < S.each.length ∧ ((S.ofN k s).isSome = true ∨ (S.ldN k s).isSome = true)
  | 0, n, acc => .inl rfl
  | f + 1, n, acc => by
    unfold Ls.firstF
    split
    · exact .inl rfl
    · rename_i hn
      cases hx : S.each[n.toNat]? with
      | none => exact .inl rfl
      | some x =>
        simp only []
        rcases firstF_in S s f x.par (if (alook x.of s).isSome || (alook x.ld s).isSome then n else acc) with h | h
        · rw [h]
          split
          · rename_i hc
            refine .inr ⟨n.toNat, by omega, (List.getElem?_eq_some_iff.1 hx).1, ?_⟩
            unfold Ls.ofN Ls.ldN
            rw [hx]
            simpa using hc
          · exact .inl rfl
        · exact .inr h
theorem first_in (S : Ls) (n : Nat) (s : ByteArray) : S.first n s = -1 ∨ ∃ k : Nat, S.first n s = (k : Int) ∧ k < S.each.length ∧ ((S.ofN k s).isSome = true ∨ (S.ldN k s).isSome = true) := firstF_in S s 17 n (-1)
def lenV : Value → Nat
  | .slice _ n _ => n
  | _ => 0
theorem Try.infoWi : (Try.prog.info? 75).map (fun i => (i.zero, i.size, i.bytes)) = some (some (.agg #[.string ⟨#[]⟩, .int .i64 0, .int .i64 0]), 3, 32) := by kernel_rfl
def WishQ (w : World) (l : List Wi) (er : Int) (e : Ending) (w' : World) : Prop := ∃ v, e = .returned (.tuple #[v, .int .i64 er]) ∧ w'.ownsRow w.heap.size 75 3 v l.length (wiC l) ∧ Below w.heap.size w w'
set_option maxRecDepth 8000 in
set_option maxHeartbeats 4000000 in
theorem wishes_any (h : LoV n0 w H S) {i : Nat} (hi : i < S.each.length) (nm : ByteArray) {l : List Wi} {er : Int} (hw : S.wish 50 i nm [] [] = some (l, er)) : Calls Try.prog 28 #[H.ptr, .int .i64 (i : Int), .string nm] w (WishQ w l er) := by
  have HV := hidIt h
  have hf := h.few
  have HW := hidIt hw
  have GL : Hid (∀ (W : World) (k : Nat) (s : ByteArray), Below w.heap.size w W → Calls Try.prog 40 #[.pointer (some ⟨H.hb, 0, none⟩), .int .i64 (k : Int), .string s] W fun e w' => e = .returned (.bool (S.ldN k s).isSome) ∧ Below W.heap.size W w') := hidIt fun W k s hW => by
    have := loaded_any (h.below hW) (k : Int) s
    rw [ldd_nat] at this
    exact this
  have GF : Hid (∀ (W : World) (k : Nat) (s : ByteArray), k < S.each.length → Below w.heap.size w W → Calls Try.prog 41 #[.pointer (some ⟨H.hb, 0, none⟩), .int .i64 (k : Int), .string s] W fun e w' => e = .returned (.int .i64 (S.first k s)) ∧ Below W.heap.size W w') := hidIt fun W k s hk hW => first_any (h.below hW) hk s
  have B0 := hidIt (balloc w (.map #[] 0))
  have D0 : Hid (DMap (w.alloc (.map #[] 0)) w.heap.size []) := hidIt ⟨#[], 0, heap_alloc_new w _, rfl, fun e h => by simp at h⟩
  clear h hw
  unfold LB.ptr
  go_enter Try.func28, Try.ntmps28
  go_wp2_with (refine wpList_mkmap rfl rfl ?_)
  generalize w.alloc (.map #[] 0) = w0 at *
  go_loopw [1, 2, 8] (fun nv sv lv wr => ∃ (n : Nat) (s : ByteArray) (acc : List Wi) (df : List (Nat × ByteArray)) (f : Nat), nv = .int .i64 (n : Int) ∧ sv = .string s ∧ n < S.each.length ∧ acc.length + f = 50 ∧ S.wish f n s acc df = some (l, er) ∧ wr.ownsRow w.heap.size 75 3 lv acc.length (wiC acc) ∧ DMap wr w.heap.size df ∧ Below w.heap.size w wr ∧ w.heap.size < wr.heap.size) (fun _ _ lv _ => 50 - lenV lv)
  case atStart => exact ⟨i, nm, [], [], 50, rfl, rfl, hi, rfl, HW.out, World.ownsRow_nil _ _ _ _, D0.out, B0.out, D0.out.lt⟩
  case round =>
    clear D0 B0 HW
    obtain ⟨n, s, acc, df, f, rfl, rfl, hn, hlen, hw, ho, hd, hb, hz⟩ := hrel
    obtain ⟨f, rfl⟩ : ∃ g, f = g + 1 := by
      cases f with
      | zero => simp [Ls.wish] at hw
      | succ g => exact ⟨g, rfl⟩
    unfold Ls.wish at hw
    obtain ⟨ao, cap, rfl⟩ := own_slice ho
    have HB := hidIt hb
    have HO := hidIt ho
    have HD := hidIt hd
    have g1 := hidIt (GL.out wr n s hb)
    clear ho hd hb
    by_cases h1 : (S.ldN n s).isSome = true
    · rw [if_pos h1] at hw
      cases hw
      rw [h1] at g1
      clear GL GF
      go_wp2_with (go_at_call 40; refine g1.out.mono ?_; rintro e w1 ⟨rfl, hb1⟩; have B1 := hidIt hb1; clear hb1)
      go_ret2
      exact ⟨_, rfl, own_below HO.out B1.out, HB.out.trans (B1.out.mono HB.out.size)⟩
    · rw [if_neg h1] at hw
      have h1' : (S.ldN n s).isSome = false := by simpa using h1
      rw [h1'] at g1
      have g2 := hidIt (fun W (hW : Below wr.heap.size wr W) => GF.out W n s hn (HB.out.trans (hW.mono HB.out.size)))
      rcases first_in S n s with hf1 | ⟨k, hk, hkl, hko⟩
      · rw [if_pos hf1] at hw
        cases hw
        rw [hf1] at g2
        clear GL GF
        go_wp2_with (first
          | (go_at_call 40; refine g1.out.mono ?_; rintro e w1 ⟨rfl, hb1⟩; have B1 := hidIt hb1; clear hb1)
          | (go_at_call 41; refine (g2.out _ B1.out).mono ?_; rintro e w2 ⟨rfl, hb2⟩; have B2 := hidIt (B1.out.trans (hb2.mono B1.out.size)); clear hb2))
        go_ret2
        exact ⟨_, rfl, World.ownsRow_nil _ _ _ _, HB.out.trans (B2.out.mono HB.out.size)⟩
      · rw [if_neg (by omega), hk, Int.toNat_natCast] at hw
        rw [hk] at g2
        have hne : ((k : Int) == -1) = false := by simp
        obtain ⟨x, hx⟩ : ∃ x, S.each[k]? = some x := ⟨_, List.getElem?_eq_getElem hkl⟩
        obtain ⟨g, cap2, ev, hc2, hg, k0, k1, k2, m1, m2⟩ := HV.out.row hx
        have c0 := HV.out.c0
        rw [ev] at c0
        have hlt := (HV.out.lt (.inl rfl)).2
        have hao : ∀ b, (Value.slice ao acc.length cap).ownBlock = some b → w.heap.size ≤ b := fun b e => (HO.out.lt b e).1
        have hnd : (Value.slice ao acc.length cap).ownBlock ≠ some w.heap.size := fun eb => by
          obtain ⟨c, fz, h'⟩ := Lib.ownsRow_kind HO.out _ eb
          obtain ⟨es, cl, hm, _⟩ := HD.out
          rw [hm] at h'
          cases h'
        have FIN : Hid (∀ w2 ao' cap' W', Below wr.heap.size wr w2 → W'.ownsRow w.heap.size 75 3 (.slice ao' (acc.length + 1) cap') (acc.length + 1) (wiC acc ++ [.string s, .int .i64 (k : Int), .int .i64 (n : Int)]) → Step (.slice ao acc.length cap) (w2.alloc (.cells #[.string s, .int .i64 (k : Int), .int .i64 (n : Int)] 75)) (.slice ao' (acc.length + 1) cap') W' →
            Below w.heap.size w W' ∧ DMap W' w.heap.size df ∧ W'.ownsRow w.heap.size 75 3 (.slice ao' (acc.length + 1) cap') (acc ++ [(⟨s, k, n⟩ : Wi)]).length (wiC (acc ++ [(⟨s, k, n⟩ : Wi)])) ∧ w.heap.size < W'.heap.size) := hidIt fun w2 ao' cap' W' b2 ho' st => by
          have b3 : Below wr.heap.size wr (w2.alloc (.cells #[.string s, .int .i64 (k : Int), .int .i64 (n : Int)] 75)) := b2.trans ((balloc _ _).mono b2.size)
          have hs3 := b3.size
          refine ⟨(HB.out.trans (b3.mono HB.out.size)).trans (st.below (by have := HB.out.size; omega) hao), HD.out.kept ((st.grown.block _ (by have := HD.out.lt; omega) (fun e => hnd e.symm)).trans (b3.block _ HD.out.lt)), ?_, by have := st.grown.size; omega⟩
          rw [wiC_snoc, List.length_append]
          exact ho'
        have hns : acc.length ≤ 50 := by omega
        have hszw := HB.out.size
        by_cases h2 : (S.ldN k s).isSome = true
        · rw [if_pos h2] at hw
          cases hw
          have g3 := hidIt (fun W (hW : Below w.heap.size w W) => GL.out W k s hW)
          rw [h2] at g3
          clear GL GF
          generalize hAC : acc.length = m at *
          go_wp2_with (first
            | (go_at_call 40; refine g1.out.mono ?_; rintro e w1 ⟨rfl, hb1⟩; have B1 := hidIt hb1; clear hb1 g1)
            | (go_at_call 41; refine (g2.out _ B1.out).mono ?_; rintro e w2 ⟨rfl, hb2⟩; have B2 := hidIt (B1.out.trans (hb2.mono B1.out.size)); have HO2 := hidIt (own_below HO.out B2.out); have hsz2 := Nat.le_trans hszw B2.out.size; clear hb2)
            | (at_builtin; refine wpList_sapp Try.infoWi rfl (by decide) (by decide) Try.underlying68 rfl _ _ rfl [.string s, .int .i64 (k : Int), .int .i64 (n : Int)] rfl (by simp [Value.oneCell']) w.heap.size _ _ _ HO2.out rfl rfl rfl (by omega) hsz2 ?_; intro ao' cap' W' ho' st; have F := hidIt (FIN.out _ _ _ _ B2.out ho' st); clear ho' st HO2)
            | (go_at_call 40; refine (g3.out _ F.out.1).mono ?_; rintro e w3 ⟨rfl, hb3⟩; have B3 := hidIt hb3; clear hb3))
          go_ret2
          exact ⟨_, rfl, own_below F.out.2.2.1 B3.out, F.out.1.trans (B3.out.mono F.out.1.size)⟩
        · rw [if_neg h2] at hw
          have h2' : (S.ldN k s).isSome = false := by simpa using h2
          have g3 := hidIt (fun W (hW : Below w.heap.size w W) => GL.out W k s hW)
          rw [h2'] at g3
          have hof : S.ofN k s = alook x.of s := by unfold Ls.ofN; rw [hx]
          rw [hof] at hw
          rw [hof, h2'] at hko
          have hm1 := hidIt m1
          -- behind the append and the second test: what is defined there
          have LK : Hid (∀ W' w3 ao' cap', Below w.heap.size w W' → DMap W' w.heap.size df → W'.ownsRow w.heap.size 75 3 (.slice ao' (acc.length + 1) cap') (acc ++ [(⟨s, k, n⟩ : Wi)]).length (wiC (acc ++ [(⟨s, k, n⟩ : Wi)])) → w.heap.size < W'.heap.size → Below W'.heap.size W' w3 →
              ∃ v w7, (Instr.lookup 104 (.map (some w.heap.size)) (.agg #[.int .i64 (k : Int), .string s]) true).run Try.prog (w3.alloc (.cells #[.int .i64 (k : Int), .string s] 108)) = .ok (.tuple #[.int .i64 v, .bool (dmem (k, s) df)]) (w3.alloc (.cells #[.int .i64 (k : Int), .string s] 108)) ∧
              Below w.heap.size w (w3.alloc (.cells #[.int .i64 (k : Int), .string s] 108)) ∧
              (dmem (k, s) df = false → (Instr.mapUpdate 104 (.map (some w.heap.size)) (.agg #[.int .i64 (k : Int), .string s]) (.int .i64 ((acc.length : Int) + 1))).run Try.prog (w3.alloc (.cells #[.int .i64 (k : Int), .string s] 108)) = .ok () w7 ∧ DMap w7 w.heap.size (df ++ [(k, s)]) ∧ Below w.heap.size w w7 ∧ w.heap.size < w7.heap.size ∧
                w7.ownsRow w.heap.size 75 3 (.slice ao' (acc.length + 1) cap') (acc ++ [(⟨s, k, n⟩ : Wi)]).length (wiC (acc ++ [(⟨s, k, n⟩ : Wi)])) ∧
                w7.cell? ⟨H.hb, 0, none⟩ = some (.slice (some ⟨g, 0, none⟩) S.each.length cap2) ∧ w7.cell? ⟨g, k * 3 + 1, none⟩ = some (.map (some (H.mb (2 * k + 1)))) ∧
                ∀ q o, alook x.of s = some o → (Instr.lookup 61 (.map (some (H.mb (2 * k + 1)))) (.string s) false).run Try.prog (w7.drewN q) = .ok (.agg #[.string o.1, .int .i64 o.2]) (w7.drewN q))) := hidIt fun W' w3 ao' cap' hB hD hO hz3 hb3 => by
            have hb4 : Below W'.heap.size W' (w3.alloc (.cells #[.int .i64 (k : Int), .string s] 108)) := hb3.trans ((balloc _ _).mono hb3.size)
            have hD4 := hD.kept (hb4.block _ hD.lt)
            have hO4 := own_below hO hb4
            have hB4 := hB.trans (hb4.mono hB.size)
            obtain ⟨v, hl⟩ := hD4.look2 (k, s)
            cases hdm : dmem (k, s) df with
            | true => exact ⟨v, w, by rw [hdm] at hl; exact hl, hB4, fun e => by cases e⟩
            | false =>
              obtain ⟨es, clk, hput, hDn⟩ := hD4.put (k, s) (dmem_no hdm) ((acc.length : Int) + 1)
              generalize hw4 : w3.alloc (.cells #[.int .i64 (k : Int), .string s] 108) = w4 at *
              have hB7 : Below w.heap.size w (setBlock w4 w.heap.size (.map es clk)) := below_setBlock hB4 (Nat.le_refl _) _
              refine ⟨v, setBlock w4 w.heap.size (.map es clk), by rw [hdm] at hl; exact hl, hB4, fun _ => ⟨hput, hDn, hB7, ?_, ?_, ?_, ?_, ?_⟩⟩
              · exact hDn.lt
              · exact own_kept hO4 fun g' e => setBlock_other _ _ _ _ fun e2 => by
                  subst e2
                  obtain ⟨c, fz, h'⟩ := Lib.ownsRow_kind hO4 _ e
                  obtain ⟨es', cl', hm', _⟩ := hD4
                  rw [hm'] at h'
                  cases h'
              · exact (hB7.cell hlt).trans c0
              · exact (hB7.cell hg).trans k1
              · intro q o hoo
                have hb8 : Below w.heap.size w ((setBlock w4 w.heap.size (.map es clk)).drewN q) := below_drewN hB7 q
                have := (hm1.out.kept (hb8.block _ hm1.out.lt)).look Try.underlying61 Try.underlying9 (zero_off _) s
                rw [slook_map, hoo] at this
                exact this
          clear m1 m2 k0 k1 k2 c0 ev
          cases hdm : dmem (k, s) df with
          | true =>
            rw [hdm] at hw LK
            rw [if_pos rfl] at hw
            cases hw
            clear GL GF
            generalize hAC : acc.length = m at *
            go_wp2_with (first
              | (go_at_call 40; refine g1.out.mono ?_; rintro e w1 ⟨rfl, hb1⟩; have B1 := hidIt hb1; clear hb1 g1)
              | (go_at_call 41; refine (g2.out _ B1.out).mono ?_; rintro e w2 ⟨rfl, hb2⟩; have B2 := hidIt (B1.out.trans (hb2.mono B1.out.size)); have HO2 := hidIt (own_below HO.out B2.out); have hsz2 := Nat.le_trans hszw B2.out.size; clear hb2)
              | (at_builtin; refine wpList_sapp Try.infoWi rfl (by decide) (by decide) Try.underlying68 rfl _ _ rfl [.string s, .int .i64 (k : Int), .int .i64 (n : Int)] rfl (by simp [Value.oneCell']) w.heap.size _ _ _ HO2.out rfl rfl rfl (by omega) hsz2 ?_; intro ao' cap' W' ho' st; have F := hidIt (FIN.out _ _ _ _ B2.out ho' st); clear ho' st HO2)
              | (go_at_call 40; refine (g3.out _ F.out.1).mono ?_; rintro e w3 ⟨rfl, hb3⟩; obtain ⟨v, w7, hlk, hb4, -⟩ := LK.out W' w3 ao' cap' F.out.1 F.out.2.1 F.out.2.2.1 F.out.2.2.2 hb3; have B4 := hidIt hb4; clear hb3 hb4))
            go_ret2
            exact ⟨_, rfl, World.ownsRow_nil _ _ _ _, B4.out⟩
          | false =>
            rw [hdm] at hw LK
            simp only [Bool.false_eq_true, if_false] at hw
            obtain ⟨o, hoo⟩ : ∃ o, alook x.of s = some o := by
              rcases hko with h | h
              · exact Option.isSome_iff_exists.1 h
              · cases h
            rw [hoo] at hw LK
            simp only [] at hw
            clear GL GF
            obtain ⟨sp, id⟩ := o
            dsimp only at hw
            have hfl := fun w => run_of0 sp id w
            by_cases ho1 : sp = ⟨#[]⟩
            · rw [if_pos ho1] at hw
              cases hw
              subst ho1
              generalize hAC : acc.length = m at *
              go_wp2_with (first
                | (go_at_call 40; refine g1.out.mono ?_; rintro e w1 ⟨rfl, hb1⟩; have B1 := hidIt hb1; clear hb1 g1)
                | (go_at_call 41; refine (g2.out _ B1.out).mono ?_; rintro e w2 ⟨rfl, hb2⟩; have B2 := hidIt (B1.out.trans (hb2.mono B1.out.size)); have HO2 := hidIt (own_below HO.out B2.out); have hsz2 := Nat.le_trans hszw B2.out.size; clear hb2)
                | (at_builtin; refine wpList_sapp Try.infoWi rfl (by decide) (by decide) Try.underlying68 rfl _ _ rfl [.string s, .int .i64 (k : Int), .int .i64 (n : Int)] rfl (by simp [Value.oneCell']) w.heap.size _ _ _ HO2.out rfl rfl rfl (by omega) hsz2 ?_; intro ao' cap' W' ho' st; have F := hidIt (FIN.out _ _ _ _ B2.out ho' st); clear ho' st HO2)
                | (go_at_call 40; refine (g3.out _ F.out.1).mono ?_; rintro e w3 ⟨rfl, hb3⟩; obtain ⟨v, w7, hlk, hb4, hr⟩ := LK.out W' w3 ao' cap' F.out.1 F.out.2.1 F.out.2.2.1 F.out.2.2.2 hb3; obtain ⟨hput, hD7, hB7, hz7, hO7, d0, d1, hl7⟩ := hr (by first | rfl | trivial); have D7 := hidIt hD7; have B7 := hidIt hB7; have O7 := hidIt hO7; have hl8 := fun q => hl7 q _ rfl; dsimp only at hl8; clear hr hl7 hD7 hB7 hO7 hb3 hb4))
              go_quiet (fail)
              go_wp2_with fail
              go_ret2
              exact ⟨_, rfl, O7.out, below_drewN B7.out _⟩
            · rw [if_neg ho1] at hw
              have HWn := hidIt hw
              have hs' : sp.toList.isEmpty = false := by
                have := str_ne ho1
                cases h : sp.toList with
                | nil => exact absurd h this
                | cons => rfl
              have hlen2 : (acc ++ [(⟨s, k, n⟩ : Wi)]).length + f = 50 := by simp; omega
              clear hw
              generalize hAC : acc.length = m at *
              go_wp2_with (first
                | (go_at_call 40; refine g1.out.mono ?_; rintro e w1 ⟨rfl, hb1⟩; have B1 := hidIt hb1; clear hb1 g1)
                | (go_at_call 41; refine (g2.out _ B1.out).mono ?_; rintro e w2 ⟨rfl, hb2⟩; have B2 := hidIt (B1.out.trans (hb2.mono B1.out.size)); have HO2 := hidIt (own_below HO.out B2.out); have hsz2 := Nat.le_trans hszw B2.out.size; clear hb2)
                | (at_builtin; refine wpList_sapp Try.infoWi rfl (by decide) (by decide) Try.underlying68 rfl _ _ rfl [.string s, .int .i64 (k : Int), .int .i64 (n : Int)] rfl (by simp [Value.oneCell']) w.heap.size _ _ _ HO2.out rfl rfl rfl (by omega) hsz2 ?_; intro ao' cap' W' ho' st; have F := hidIt (FIN.out _ _ _ _ B2.out ho' st); clear ho' st HO2)
                | (go_at_call 40; refine (g3.out _ F.out.1).mono ?_; rintro e w3 ⟨rfl, hb3⟩; obtain ⟨v, w7, hlk, hb4, hr⟩ := LK.out W' w3 ao' cap' F.out.1 F.out.2.1 F.out.2.2.1 F.out.2.2.2 hb3; obtain ⟨hput, hD7, hB7, hz7, hO7, d0, d1, hl7⟩ := hr (by first | rfl | trivial); have D7 := hidIt hD7; have B7 := hidIt hB7; have O7 := hidIt hO7; have hl8 := fun q => hl7 q _ rfl; dsimp only at hl8; clear hr hl7 hD7 hB7 hO7 hb3 hb4))
              go_quiet (fail)
              go_wp2_with fail
              exact ⟨⟨k, sp, _, _, f, rfl, rfl, hkl, hlen2, HWn.out, O7.out, D7.out, below_drewN B7.out _, hz7⟩, by simp [lenV]; omega⟩
end Go.Proofs.Ytacmooknfbjpeaa.J
