/- The document's own Write: walked. -/
import Derived.Test.YtjnaiekdbigikaaDoorRR
import Derived.Test.YtjnaiekdbigikaaDoorRefW
import Derived.Test.YtjnaiekdbigikaaDoorPX
import Derived.Test.YtjnaiekdbigikaaDoorPG
import Derived.Deep.CutRange
import Derived.Deep.RegionWith
namespace Go.Proofs.YtjnaiekdbigikaaDoor
open Go.RowKit

theorem refnum4 (v : Value) (l : List Int) (n : Int) (w : World) (hv : View w v l) (hlen : l.length ≤ 1099511627776) :
    Calls Tryd.prog 44 #[v, .int .i64 n, .int .i64 4] w fun e w' => Below w.heap.size w w' ∧ ∃ u, e = .returned u ∧ w'.ownsRow w.heap.size 5 1 u (l ++ be n 4).length (bcells (l ++ be n 4)) := by
  have := refnum_any v l n 4 w hv hlen
  rwa [show (min (max (4 : Int) 1) 8).toNat = 4 by decide] at this
theorem be_one (n : Int) : be n 1 = [n % 256] := by simp [be]
theorem ent_int {c : CD} (h : c.kind = 3) : entZ c = [3] ++ be c.n 4 := by
  unfold entZ entT; rw [h]
  have : textsN 3 = 0 := by decide
  rw [this]; simp [be_one]
theorem ent_class {c : CD} (h : c.kind = 7) : entZ c = [7] ++ wtextZ c.cls := by
  unfold entZ entT; rw [h]
  have : textsN 7 = 1 := by decide
  rw [this]; simp [be_one]
theorem ent_more {c : CD} (h : c.kind = 9 ∨ c.kind = 10) : entZ c = [c.kind] ++ wtextZ c.cls ++ wtextZ c.nm ++ wtextZ c.dsc := by
  unfold entZ entT
  rcases h with h | h
  · rw [h]
    have : textsN 9 = 3 := by decide
    rw [this]; simp [be_one]
  · rw [h]
    have : textsN 10 = 3 := by decide
    rw [this]; simp [be_one]

set_option maxRecDepth 8000 in
set_option maxHeartbeats 8000000 in
theorem rwrite_any (v : Value) (l : List CD) (w : World) (hv : CView w v l) (hsm : ∀ c ∈ l, c.Small) :
    Calls Tryd.prog 18 #[.slice none 0 0, v] w fun e w' => Below w.heap.size w w' ∧ ∃ u, e = .returned (.tuple #[u, .int .i64 (wcode l)]) ∧ w'.ownsRow w.heap.size 5 1 u (wput l).length (bcells (wput l)) := by
  obtain ⟨i0, hi, hz0, hz1, hz2⟩ := info_parts Tryd.info5
  obtain ⟨ao, cap, rfl, hc, hm, hok, hl⟩ := id hv
  unfold maxLen at hm
  by_cases h256 : 256 < l.length
  · have h256' : (256 : Int) < (l.length : Int) := by omega
    rw [wcode_many h256, wput_many h256]
    go_enter Tryd.func18, Tryd.ntmps18
    go_wp2
    go_ret2
    exact ⟨Below.refl _ _, _, rfl, World.ownsRow_nil _ _ _ _⟩
  · have h256' : ¬ (256 : Int) < (l.length : Int) := by omega
    have HW : Hid (wcode l = if l.all rightB = true then 0 else 14) := by show _ = _; unfold wcode; rw [if_neg h256]
    have HP : Hid (wput l = if wcode l = 0 then poolZ l else []) := rfl
    generalize wcode l = WC at *
    generalize wput l = WP at *
    go_enter Tryd.func18, Tryd.ntmps18
    go_wp2_with fail
    refine (refnum2 _ [] (l.length : Nat) w (View.empty w) (by simp)).mono ?_
    rintro e w1 ⟨b1, u1, rfl, o1⟩
    rw [List.nil_append] at o1
    go_wp2
    go_loopw [6, 7] (fun uv i wr => ∃ (k : Nat) (L : List Int), i = .int .i64 (k : Int) ∧ k ≤ l.length ∧ Below w.heap.size w wr ∧ wr.ownsRow w.heap.size 5 1 uv L.length (bcells L) ∧ Hid (L = be (l.length : Nat) 2 ++ (l.take k).flatMap entZ) ∧ Hid (∀ c ∈ l.take k, rightB c = true)) (fun _ i _ => l.length - (intOf i).toNat)
    case atStart => exact ⟨0, _, rfl, Nat.zero_le _, b1, o1, by (show _ = _; simp), fun c hc => by simp at hc⟩
    case round =>
      clear b1 o1
      obtain ⟨k, L, rfl, hk, hbw, HO, HLL, HA⟩ := hrel
      have hsw := hbw.size
      obtain ⟨uo, ucap, rfl⟩ := own_slice HO
      by_cases hlt : k < l.length
      · have hlt' : (k : Int) < (l.length : Int) := by omega
        obtain ⟨g, off, rfl, hla⟩ : ∃ g off, ao = some ⟨g, off, none⟩ ∧ CLies w g off l := by
          rcases hl with e | h
          · rw [e] at hlt; simp at hlt
          · exact h
        have hd := (hla k l[k] (by simp [hlt])).below hbw
        have hokd := hok l[k] (by simp)
        have hsmd := hsm l[k] (by simp)
        have HL : Hid (l[k]? = some l[k]) := by show _ = _; simp [hlt]
        generalize l[k] = c at *
        have HS : Hid (be (l.length : Nat) 2 ++ (l.take (k + 1)).flatMap entZ = be (l.length : Nat) 2 ++ ((l.take k).flatMap entZ ++ entZ c)) := by
          show _ = _
          rw [List.take_add_one, HL.out]; simp
        have hLn : L.length ≤ 1000000 := by
          have := ents_len (l.take k)
          rw [HLL.out, List.length_append, be_len]
          rw [List.length_take] at this
          omega
        have hLb : AllBytes L := by rw [HLL.out]; exact (be_bytes _ _).append (ents_bytes _)
        have HR := fun w => D.hidIt (rright_any c w hsmd)
        obtain ⟨d0, d1, d2, d3, d4⟩ := id hd
        have hbx := box_at wr c
        have bw : ∀ o, Below wr.heap.size wr (wr.alloc o) := fun o => (Below.refl _ _).alloc (Nat.le_refl _) o
        clear hla hl
        unfold CD.val at HR
        cases hr : rightB c with
        | false =>
          rw [hr] at HR
          have HRT := D.hidIt hr
          clear hr
          go_wp2_with fail
          refine (HR _).out.mono ?_
          rintro e w3 ⟨rfl, b3⟩
          go_wp2
          go_ret2
          have hna : l.all rightB = false := by
            rw [List.all_eq_false]
            exact ⟨c, List.mem_of_getElem? HL.out, by simp [HRT.out]⟩
          have e1 : WC = 14 := by rw [HW.out, hna]; rfl
          have e2 : WP = [] := by rw [HP.out, e1]; rfl
          rw [e1, e2]
          exact ⟨(hbw.alloc hsw _).trans (b3.mono (by simp; omega)), _, rfl, World.ownsRow_nil _ _ _ _⟩
        | true =>
          rw [hr] at HR
          have hkd := right_kind hr
          have HA1 : Hid (∀ c ∈ l.take (k + 1), rightB c = true) := by
            intro x hx
            rw [List.take_add_one, HL.out] at hx
            rcases List.mem_append.1 hx with hx | hx
            · exact HA.out x hx
            · simp at hx; subst hx; exact hr
          clear hr HA
          obtain ⟨kind, n, cls, nm, dsc⟩ := c
          simp only at hkd d0 d1 d2 d3 d4 HR hbx
          have hnlo := hokd.nlo
          have hnhi := hokd.nhi
          simp only at hnlo hnhi
          have hwn : IntKind.i64.wrap n = n := by rw [IntKind.wrap_i64]; omega
          rcases hkd with rfl | rfl | hkd
          · go_wp2_with fail
            refine (HR _).out.mono ?_
            rintro e w3 ⟨rfl, b3⟩
            have z3 := b3.size
            rw [show (wr.alloc (.cells #[.int .i64 3, .int .i32 n, .string cls, .string nm, .string dsc] 30)).heap.size = wr.heap.size + 1 by simp] at z3
            have hd3 := hbx.below b3
            have B3 : Below w.heap.size w w3 := (hbw.alloc hsw _).trans (b3.mono (by simp; omega))
            have O3 := gown_below (gown_below HO (bw _)) b3
            obtain ⟨e0, e1, e2, e3, e4⟩ := id hd3
            simp only at e0 e1 e2 e3 e4
            go_wp2_with (at_builtin; refine wpList_append_own_at _ rfl _ _ 34 rfl w.heap.size 5 i0 (.int .u8 0) 1 1 Tryd.underlying34 hi hz0 hz1 hz2 rfl (by decide) _ _ _ rfl (O3.alloc _) _ 1 1 [.int .u8 3] rfl rfl ?c1 ?c2 ?c3 ?c4 ?c5 ?_)
            case c1 =>
              intro j u hj
              match j, hj with
              | 0, hj => simp at hj; subst hj; simp [Addr.add]
              | (j + 1), hj => simp at hj
            case c2 => intro u hu; simp at hu; rcases hu with rfl; rfl
            case c3 => unfold maxLen; omega
            case c4 => omega
            case c5 => simp; omega
            intro v4 w4 o4 g4 _ _
            have B4 : Below w.heap.size w w4 := (B3.alloc (by omega) _).grown g4 (by simp; omega) (fun k hk => (O3.lt k hk).1)
            have hd4 : CAt w4 wr.heap.size 0 ⟨3, n, cls, nm, dsc⟩ := (hd3.below ((Below.refl _ w3).alloc (Nat.le_refl _) _)).block (g4.block wr.heap.size (by simp; omega) (fun e => by have := gown_lt HO e.symm; omega))
            clear e0 e1 e2 e3 e4
            obtain ⟨e0, e1, e2, e3, e4⟩ := id hd4
            simp only at e0 e1 e2 e3 e4
            have hb4 : AllBytes (L ++ [3]) := hLb.append (by intro x hx; simp at hx; omega)
            have o4' : w4.ownsRow w.heap.size 5 1 v4 (L ++ [3]).length (bcells (L ++ [3])) := by rw [List.length_append, bcells_append]; exact o4
            have V4 := View.of_own o4' hb4
            obtain ⟨uo4, ucap4, rfl⟩ := own_slice o4
            clear o4 g4 d0 d1 d2 d3 d4
            have HN := D.hidIt (refnum4 _ (L ++ [3]) n w4 V4 (by simp; omega))
            have HFN : Hid (L ++ entZ ⟨3, n, cls, nm, dsc⟩ = L ++ [3] ++ be n 4) := by
              show _ = _
              rw [ent_int rfl]; simp
            go_wp2_with fail
            refine HN.out.mono ?_
            rintro e w5 ⟨b5, u5, rfl, o5⟩
            go_wp2
            exact ⟨⟨k + 1, L ++ [3] ++ be n 4, by go_num, by omega, B4.trans (b5.mono B4.size), own_base o5 B4.size, by (show _ = _; rw [HS.out, ← List.append_assoc, ← HLL.out]; exact HFN.out.symm), HA1⟩, by simp [intOf]; omega⟩
          · go_wp2_with fail
            refine (HR _).out.mono ?_
            rintro e w3 ⟨rfl, b3⟩
            have z3 := b3.size
            rw [show (wr.alloc (.cells #[.int .i64 7, .int .i32 n, .string cls, .string nm, .string dsc] 30)).heap.size = wr.heap.size + 1 by simp] at z3
            have hd3 := hbx.below b3
            have B3 : Below w.heap.size w w3 := (hbw.alloc hsw _).trans (b3.mono (by simp; omega))
            have O3 := gown_below (gown_below HO (bw _)) b3
            obtain ⟨e0, e1, e2, e3, e4⟩ := id hd3
            simp only at e0 e1 e2 e3 e4
            go_wp2_with (at_builtin; refine wpList_append_own_at _ rfl _ _ 34 rfl w.heap.size 5 i0 (.int .u8 0) 1 1 Tryd.underlying34 hi hz0 hz1 hz2 rfl (by decide) _ _ _ rfl (O3.alloc _) _ 1 1 [.int .u8 7] rfl rfl ?c1 ?c2 ?c3 ?c4 ?c5 ?_)
            case c1 =>
              intro j u hj
              match j, hj with
              | 0, hj => simp at hj; subst hj; simp [Addr.add]
              | (j + 1), hj => simp at hj
            case c2 => intro u hu; simp at hu; rcases hu with rfl; rfl
            case c3 => unfold maxLen; omega
            case c4 => omega
            case c5 => simp; omega
            intro v4 w4 o4 g4 _ _
            have B4 : Below w.heap.size w w4 := (B3.alloc (by omega) _).grown g4 (by simp; omega) (fun k hk => (O3.lt k hk).1)
            have hd4 : CAt w4 wr.heap.size 0 ⟨7, n, cls, nm, dsc⟩ := (hd3.below ((Below.refl _ w3).alloc (Nat.le_refl _) _)).block (g4.block wr.heap.size (by simp; omega) (fun e => by have := gown_lt HO e.symm; omega))
            clear e0 e1 e2 e3 e4
            obtain ⟨e0, e1, e2, e3, e4⟩ := id hd4
            simp only at e0 e1 e2 e3 e4
            have hb4 : AllBytes (L ++ [7]) := hLb.append (by intro x hx; simp at hx; omega)
            have o4' : w4.ownsRow w.heap.size 5 1 v4 (L ++ [7]).length (bcells (L ++ [7])) := by rw [List.length_append, bcells_append]; exact o4
            have V4 := View.of_own o4' hb4
            obtain ⟨uo4, ucap4, rfl⟩ := own_slice o4
            clear o4 g4 d0 d1 d2 d3 d4
            have hsc := hsmd.c3
            simp only at hsc
            have HN := D.hidIt (reftext_any _ (L ++ [7]) cls w4 V4 (by simp; omega) (by omega))
            have HFN : Hid (L ++ entZ ⟨7, n, cls, nm, dsc⟩ = L ++ [7] ++ wtextZ cls) := by
              show _ = _
              rw [ent_class rfl]; simp
            go_wp2_with fail
            refine HN.out.mono ?_
            rintro e w5 ⟨b5, u5, rfl, o5⟩
            go_wp2
            exact ⟨⟨k + 1, L ++ [7] ++ wtextZ cls, by go_num, by omega, B4.trans (b5.mono B4.size), own_base o5 B4.size, by (show _ = _; rw [HS.out, ← List.append_assoc, ← HLL.out]; exact HFN.out.symm), HA1⟩, by simp [intOf]; omega⟩
          · have hk9 : kind = 9 ∨ kind = 10 := hkd
            have q3 : (kind == 3) = false := by simp; omega
            have q7 : (kind == 7) = false := by simp; omega
            have hwk : IntKind.u8.wrap kind = kind := by rw [IntKind.wrap_u8]; omega
            go_wp2_with fail
            refine (HR _).out.mono ?_
            rintro e w3 ⟨rfl, b3⟩
            have z3 := b3.size
            rw [show (wr.alloc (.cells #[.int .i64 kind, .int .i32 n, .string cls, .string nm, .string dsc] 30)).heap.size = wr.heap.size + 1 by simp] at z3
            have hd3 := hbx.below b3
            have B3 : Below w.heap.size w w3 := (hbw.alloc hsw _).trans (b3.mono (by simp; omega))
            have O3 := gown_below (gown_below HO (bw _)) b3
            obtain ⟨e0, e1, e2, e3, e4⟩ := id hd3
            simp only at e0 e1 e2 e3 e4
            go_wp2_with (at_builtin; refine wpList_append_own_at _ rfl _ _ 34 rfl w.heap.size 5 i0 (.int .u8 0) 1 1 Tryd.underlying34 hi hz0 hz1 hz2 rfl (by decide) _ _ _ rfl (O3.alloc _) _ 1 1 [.int .u8 kind] rfl rfl ?c1 ?c2 ?c3 ?c4 ?c5 ?_)
            case c1 =>
              intro j u hj
              match j, hj with
              | 0, hj => simp at hj; subst hj; simp [Addr.add]
              | (j + 1), hj => simp at hj
            case c2 => intro u hu; simp at hu; rcases hu with rfl; rfl
            case c3 => unfold maxLen; omega
            case c4 => omega
            case c5 => simp; omega
            intro v4 w4 o4 g4 _ _
            have B4 : Below w.heap.size w w4 := (B3.alloc (by omega) _).grown g4 (by simp; omega) (fun k hk => (O3.lt k hk).1)
            have hd4 : CAt w4 wr.heap.size 0 ⟨kind, n, cls, nm, dsc⟩ := (hd3.below ((Below.refl _ w3).alloc (Nat.le_refl _) _)).block (g4.block wr.heap.size (by simp; omega) (fun e => by have := gown_lt HO e.symm; omega))
            clear e0 e1 e2 e3 e4
            obtain ⟨e0, e1, e2, e3, e4⟩ := id hd4
            simp only at e0 e1 e2 e3 e4
            have hb4 : AllBytes (L ++ [kind]) := hLb.append (by intro x hx; simp at hx; omega)
            have o4' : w4.ownsRow w.heap.size 5 1 v4 (L ++ [kind]).length (bcells (L ++ [kind])) := by rw [List.length_append, bcells_append]; exact o4
            have V4 := View.of_own o4' hb4
            obtain ⟨uo4, ucap4, rfl⟩ := own_slice o4
            clear o4 g4 d0 d1 d2 d3 d4
            have Vd : View w4.drew (.slice uo4 (L.length + 1) ucap4) (L ++ [kind]) := V4
            have hdd : CAt w4.drew wr.heap.size 0 ⟨kind, n, cls, nm, dsc⟩ := hd4.block rfl
            obtain ⟨g0, g1, g2, g3, g4⟩ := id hdd
            simp only at g0 g1 g2 g3 g4
            have hsc := hsmd.c3
            have hsn := hsmd.c4
            have hsd := hsmd.c5
            simp only at hsc hsn hsd
            have l3 := wtextZ_len cls
            have l4 := wtextZ_len nm
            have l5 := wtextZ_len dsc
            have HC1 := D.hidIt (reftext_any _ (L ++ [kind]) cls w4.drew Vd (by simp; omega) (by omega))
            have HC2 := fun u W (h : View W u (L ++ [kind] ++ wtextZ cls)) => D.hidIt (reftext_any u _ nm W h (by simp; omega) (by omega))
            have HC3 := fun u W (h : View W u (L ++ [kind] ++ wtextZ cls ++ wtextZ nm)) => D.hidIt (reftext_any u _ dsc W h (by simp; omega) (by omega))
            have hb5 : AllBytes (L ++ [kind] ++ wtextZ cls) := hb4.append (wtextZ_bytes _)
            have hb6 : AllBytes (L ++ [kind] ++ wtextZ cls ++ wtextZ nm) := hb5.append (wtextZ_bytes _)
            have HFN : Hid (L ++ entZ ⟨kind, n, cls, nm, dsc⟩ = L ++ [kind] ++ wtextZ cls ++ wtextZ nm ++ wtextZ dsc) := by
              show _ = _
              rw [ent_more hk9]; simp
            have z4 : w.heap.size ≤ w4.drew.heap.size := B4.size
            generalize hM5 : L ++ [kind] ++ wtextZ cls = M5 at *
            generalize hM6 : M5 ++ wtextZ nm = M6 at *
            generalize hM7 : M6 ++ wtextZ dsc = M7 at *
            have hM7l : M7.length = M7.length := rfl
            clear hM5 hM6 hM7 l3 l4 l5 hM7l
            generalize hn4 : L.length + 1 = n4 at *
            go_wp2_with fail
            go_region_with (first
              | (go_at_call 45; refine (HC3 _ _ V6).out.mono ?_; rintro e w7 ⟨b7, u7, rfl, o7⟩; obtain ⟨uo7, ucap7, rfl⟩ := own_slice o7)
              | (go_at_call 45; refine (HC2 _ _ V5).out.mono ?_; rintro e w6 ⟨b6, u6, rfl, o6⟩; have V6 := View.of_own o6 hb6; have hd6 := hd5.below b6; obtain ⟨q0, q1, q2, q3, q4⟩ := id hd6; simp only at q0 q1 q2 q3 q4; obtain ⟨uo6, ucap6, rfl⟩ := own_slice o6)
              | (go_at_call 45; refine HC1.out.mono ?_; rintro e w5 ⟨b5, u5, rfl, o5⟩; have V5 := View.of_own o5 hb5; have hd5 := hdd.below b5; obtain ⟨p0, p1, p2, p3, p4⟩ := id hd5; simp only at p0 p1 p2 p3 p4; obtain ⟨uo5, ucap5, rfl⟩ := own_slice o5))
            all_goals
              have z5 := b5.size
              have z6 := b6.size
              have z7 := b7.size
              have B7 := (gdrewed B4).trans ((b5.mono z4).trans ((b6.mono (by omega)).trans (b7.mono (by omega))))
              have O7 := own_base (B' := w.heap.size) o7 (by omega)
              go_wp2
              exact ⟨⟨k + 1, M7, by go_num, by omega, B7, O7, by (show _ = _; rw [HS.out, ← List.append_assoc, ← HLL.out]; exact HFN.out.symm), HA1⟩, by simp [intOf]; omega⟩
      · have hlt' : ¬ (k : Int) < (l.length : Int) := by omega
        go_wp2
        go_ret2
        have hall : l.all rightB = true := by
          rw [List.all_eq_true]
          intro c hc
          exact HA.out c (by rw [List.take_of_length_le (by omega)]; exact hc)
        have e1 : WC = 0 := by rw [HW.out, hall]; rfl
        have e2 : WP = L := by rw [HP.out, e1, HLL.out, List.take_of_length_le (show l.length ≤ k by omega)]; rfl
        rw [e1, e2]
        exact ⟨hbw, _, rfl, HO⟩
end Go.Proofs.YtjnaiekdbigikaaDoor
