import Derived.Test.YtpehimfnkmepnaaGreatBx17
import Derived.Deep.CutRange
set_option maxRecDepth 8000
set_option maxHeartbeats 40000000
namespace Go.Proofs.YtpehimfnkmepnaaGreat.Fr
open Go.RowKit Q Q.D K
theorem zF5 {w : World} (ty : TypeId) (B : Nat) (v : Value) (l y : List ByteArray) (ao : Option Addr) (c : Nat) (hown : OwnT w B v l) (hy : LAt 1 zD7 w ao c y) (hlen : l.length + y.length ≤ 8796093022200) (hB : B ≤ w.heap.size) :
 ∃ v' w', (Builtin.append_ #[47, 47] ty #[v, .slice ao y.length c]).run Tryz.prog w = .ok v' w' ∧ OwnT w' B v' (l ++ y) ∧ Below B w w' := by
 obtain ⟨i0, hi, hz0, hz1, hz2⟩ := info_parts zT7
 have key : ∃ v' w', (Builtin.append_ #[47, 47] ty #[v, .slice ao y.length c]).run Tryz.prog w = .ok v' w' ∧ OwnT w' B v' (l ++ y) ∧ w.grownBy w' v.ownBlock := by
  cases ao with
  | none =>
    obtain rfl : y = [] := by
     obtain ⟨_, _, _, hr, _⟩ := hy
     rcases Nat.eq_zero_or_pos y.length with e | e
     · exact List.length_eq_zero_iff.1 e
     · obtain ⟨_, _, e, _⟩ := hr e; cases e
    refine ⟨v, w, ?_, by simpa using hown, World.grownBy.refl _ _⟩
    rcases hown.2 with ⟨rfl, e0⟩ | ⟨g, cap, cur, rfl, hbg, hg, hnc, hcm, hcs, htake⟩
    · have : l = [] := List.length_eq_zero_iff.1 e0
      subst this
      simp [Builtin.append_, run_underlying Tryz.underlying47, sizeOf, typeInfo, hi, Builtin.lenOf, Builtin.firstCells]
    · simp [Builtin.append_, run_underlying Tryz.underlying47, sizeOf, typeInfo, hi, Builtin.lenOf, Builtin.firstCells, loadCells, hnc, storeCells]
  | some a1 =>
    obtain ⟨v', w', hr, h2, h3, _, _⟩ := run_append_own_at (P := Tryz.prog) w B 47 ty 9 i0 (.string ⟨#[]⟩) 1 16 Tryz.underlying47 hi hz0 hz1 hz2 rfl (by decide) v l.length (tx l) hown a1 y.length c (tx y) (by rw [zMd, Nat.mul_one])
     (LAt.cells hy) (fun u hu => by simp only [tx, List.mem_map] at hu; obtain ⟨z, _, rfl⟩ := hu; rfl) (by unfold maxLen; omega) (by omega) hB
    exact ⟨v', w', hr, by unfold OwnT; rw [zV6, List.length_append]; exact h2, h3⟩
 obtain ⟨v', w', hr, h2, h3⟩ := key
 exact ⟨v', w', hr, h2, (Below.refl B w).grown h3 hB (fun k hk => (hown.lt k hk).1)⟩
theorem boxedH (W : World) (row : Array Value) : Blk ((W.alloc (.cells #[.int .i64 0, .int .i64 0, .int .i64 0, .string ⟨#[]⟩] 154)).setRow W.heap.size row) W.heap.size row 154 ∧ Below W.heap.size W ((W.alloc (.cells #[.int .i64 0, .int .i64 0, .int .i64 0, .string ⟨#[]⟩] 154)).setRow W.heap.size row) :=
 ⟨setRow_heap _ _ _ _ _ _ (Blk.new W _ _), zB5 (zA6 W _) (Nat.le_refl _) _⟩
theorem boxedF (W : World) (row : Array Value) : Blk ((W.alloc (.cells #[.int .i64 0, .slice none 0 0, .slice none 0 0] 67)).setRow W.heap.size row) W.heap.size row 67 ∧ Below W.heap.size W ((W.alloc (.cells #[.int .i64 0, .slice none 0 0, .slice none 0 0] 67)).setRow W.heap.size row) :=
 ⟨setRow_heap _ _ _ _ _ _ (Blk.new W _ _), zB5 (zA6 W _) (Nat.le_refl _) _⟩
theorem LAt.of_slice {w : World} {B : Nat} {ao : Option Addr} {n c : Nat} {l : List ByteArray} (h : OwnT w B (.slice ao n c) l) (hs : ∀ s ∈ l, s.size ≤ 9223372036854775807) : LAt 1 zD7 w ao c l := by
 obtain ⟨ao', c', e, k⟩ := h.at hs
 cases e
 exact k
structure okM (m : MD) : Prop where
 a1 : 0 ≤ m.stk
 a2 : m.stk ≤ 16
 a3 : 0 ≤ m.loc
 a4 : m.loc ≤ 16
 a5 : m.code.length ≤ 1024
 h : m.hs.length ≤ 64
 r : m.rs.length ≤ 64
 hb : ∀ h ∈ m.hs, zHm h = true
 pb : ∀ f ∈ m.rs, zG5 f = true
 sb : ∀ f ∈ m.rs, f.loc.length ≤ 16 ∧ f.stk.length ≤ 16 ∧ ∀ s ∈ f.loc ++ f.stk, zCy s = true
theorem zDd {α : Type} {k : Nat} {R : World → List Value → α → Prop} {w : World} {ao : Option Addr} {c : Nat} {l : List α} (h : LAt k R w ao c l) (i : Nat) (hi : i < l.length) : ∃ b off r, ao = some ⟨b, off, none⟩ ∧ R w r l[i] ∧ ∀ t u, r[t]? = some u → w.cell? ⟨b, off + i * k + t, none⟩ = some u := by
 obtain ⟨_, _, rows, hr, hk⟩ := h
 obtain ⟨b, off, e, _, d⟩ := hr (by omega)
 exact ⟨b, off, rows i, e, hk i _ (List.getElem?_eq_getElem hi), d i hi⟩
theorem zR4 (m : MD) (row : List Value) (w : World) (hm : zBk w row m) (hnat : m.nat = false) :
 Calls Tryz.prog 123 #[.agg row.toArray] w fun e w' => (∃ z : Int, e = .returned (.int .i64 z) ∧ (z = 0 ↔ okM m)) ∧ Below w.heap.size w w' := by
 obtain ⟨o1, c1, o2, c2, o3, c3, rfl, _, _, _, k2, k3⟩ := hm
 have HOK : Hid (∀ P : Prop, (P ↔ okM m) → (P ↔ okM m)) := fun _ h => h
 obtain ⟨nm, ds, st, nat, stk, loc, code, hs, rs⟩ := m
 simp only at *
 subst hnat
 have B1 := zA6 w (.cells #[.string nm, .string ds, .bool st, .bool false, .int .i64 stk, .int .i64 loc, .slice o1 code.length c1, .slice o2 hs.length c2, .slice o3 rs.length c3] 39)
 have X1 := Blk.new w #[.string nm, .string ds, .bool st, .bool false, .int .i64 stk, .int .i64 loc, .slice o1 code.length c1, .slice o2 hs.length c2, .slice o3 rs.length c3] 39
 have HK2 := D.zA0 (k2.below B1 (fun _ _ h => h))
 have HK3 := D.zA0 (k3.below B1 (fun _ _ h => h.below B1))
 generalize hO : okM ⟨nm, ds, st, false, stk, loc, code, hs, rs⟩ = OK at *
 have HO := D.zA0 hO
 clear k2 k3 HOK hO
 go_enter Tryz.func123, Tryz.ntmps123
 go_upto_region 1 with (fail)
 generalize w.alloc (.cells #[.string nm, .string ds, .bool st, .bool false, .int .i64 stk, .int .i64 loc, .slice o1 code.length c1, .slice o2 hs.length c2, .slice o3 rs.length c3] 39) = W1 at *
 have x3 := X1.cell 3
 have x4 := X1.cell 4
 have x5 := X1.cell 5
 have x6 := X1.cell 6
 have x7 := X1.cell 7
 have x8 := X1.cell 8
 simp at x3 x4 x5 x6 x7 x8
 have HB1 := D.zA0 B1
 have HX1 := D.zA0 X1
 clear B1 X1
 by_cases a1 : stk < 0
 · go_wp2_with fail
   go_ret
   exact ⟨⟨_, rfl, ⟨fun h => absurd h (by decide), fun h => absurd (show okM _ by rw [HO.out]; exact h).a1 (by simp only; omega)⟩⟩, HB1.out⟩
 by_cases a2 : stk > 16
 · go_wp2_with fail
   go_ret
   exact ⟨⟨_, rfl, ⟨fun h => absurd h (by decide), fun h => absurd (show okM _ by rw [HO.out]; exact h).a2 (by simp only; omega)⟩⟩, HB1.out⟩
 by_cases a3 : loc < 0
 · go_wp2_with fail
   go_ret
   exact ⟨⟨_, rfl, ⟨fun h => absurd h (by decide), fun h => absurd (show okM _ by rw [HO.out]; exact h).a3 (by simp only; omega)⟩⟩, HB1.out⟩
 by_cases a4 : loc > 16
 · go_wp2_with fail
   go_ret
   exact ⟨⟨_, rfl, ⟨fun h => absurd h (by decide), fun h => absurd (show okM _ by rw [HO.out]; exact h).a4 (by simp only; omega)⟩⟩, HB1.out⟩
 by_cases a5 : (code.length : Int) > 1024
 · go_wp2_with fail
   go_ret
   exact ⟨⟨_, rfl, ⟨fun h => absurd h (by decide), fun h => absurd (show okM _ by rw [HO.out]; exact h).a5 (by simp only; omega)⟩⟩, HB1.out⟩
 by_cases a6 : (hs.length : Int) > 64
 · go_wp2_with fail
   go_ret
   exact ⟨⟨_, rfl, ⟨fun h => absurd h (by decide), fun h => absurd (show okM _ by rw [HO.out]; exact h).h (by simp only; omega)⟩⟩, HB1.out⟩
 by_cases a7 : (rs.length : Int) > 64
 · go_wp2_with fail
   go_ret
   exact ⟨⟨_, rfl, ⟨fun h => absurd h (by decide), fun h => absurd (show okM _ by rw [HO.out]; exact h).r (by simp only; omega)⟩⟩, HB1.out⟩
 have GPl := D.zA0 (fun n W => zQ0 n W)
 go_wp2_with fail
 go_loopw [3] (fun iv wr => ∃ i : Nat, iv = .int .i64 (i : Int) ∧ i ≤ hs.length ∧ Below W1.heap.size W1 wr ∧ ∀ h ∈ hs.take i, zHm h = true) (fun iv _ => hs.length - (intOf iv).toNat)
 case atStart => exact ⟨0, rfl, Nat.zero_le _, Below.refl _ _, by simp⟩
 case round =>
  obtain ⟨i, rfl, hi, hb, hall⟩ := hrel
  have HB := D.zA0 hb
  have HALL := D.zA0 hall
  have x7 := (HX1.out.below hb).cell 7
  simp at x7
  by_cases hlt : i < hs.length
  · have hlt' : (i : Int) < (hs.length : Int) := by omega
    obtain ⟨b, off, r, e, ⟨er, hty⟩, d⟩ := zDd (HK2.out.below hb (fun _ _ h => h)) i hlt
    subst e
    have hmem : hs[i] ∈ hs := List.getElem_mem hlt
    have hnx : (∀ h ∈ hs.take (i + 1), zHm h = true) ↔ zHm hs[i] = true := by
     rw [List.take_add_one, List.getElem?_eq_getElem hlt]
     simp only [Option.toList_some, List.mem_append, List.mem_singleton]
     exact ⟨fun h => h _ (.inr rfl), fun h x hx => hx.elim (fun hx => hall x hx) (fun e => e ▸ h)⟩
    have HNX := D.zA0 hnx
    clear hnx hall
    generalize hs[i] = x at *
    obtain ⟨fr, tO, aT, ty⟩ := x
    simp only at er hty
    subst er
    have d0 := d 0 _ rfl
    have d1 := d 1 _ rfl
    have d2 := d 2 _ rfl
    have d3 := d 3 _ rfl
    rw [Nat.add_zero] at d0
    have GNm := D.zA0 (fun W => P3.D.zDb ty W hty)
    rw [zE5] at GNm
    obtain ⟨HX, bx⟩ := boxedH wr #[.int .i64 fr, .int .i64 tO, .int .i64 aT, .string ty]
    have y0 := HX.cell 0
    have y1 := HX.cell 1
    have y2 := HX.cell 2
    have y3 := HX.cell 3
    simp at y0 y1 y2 y3
    have HBX := D.zA0 (hb.trans (bx.mono hb.size))
    have HM := D.zA0 hmem
    clear hmem d hb bx HX
    have hHB : Hid (zHm ⟨fr, tO, aT, ty⟩ = (inB fr 65535 && (inB tO 65535 && (inB aT 65535 && zAw ty.data.toList)))) := rfl
    go_upto_region 11 with (refine wpList_store_row rfl 154 _ _ rfl wr.heap.size #[.int .i64 fr, .int .i64 tO, .int .i64 aT, .string ty] rfl rfl 154 _ (Blk.new wr _ _) (by kernel_rfl) rfl (by simp [Value.oneCell']) ?_)
    generalize (wr.alloc (.cells #[.int .i64 0, .int .i64 0, .int .i64 0, .string ⟨#[]⟩] 154)).setRow wr.heap.size #[.int .i64 fr, .int .i64 tO, .int .i64 aT, .string ty] = W3 at *
    cases e1 : inB fr 65535
    · rw [e1] at hHB
      go_wp2_with (first | (go_at_call 153; refine (GPl.out _ _).mono ?_; rintro e w' ⟨rfl, hww⟩; cases hww; try rw [e1]))
      go_ret
      exact ⟨⟨_, rfl, ⟨fun h => absurd h (by decide), fun h => absurd ((show okM _ by rw [HO.out]; exact h).hb _ HM.out) (by rw [hHB.out]; simp)⟩⟩, HB1.out.trans (HBX.out.mono HB1.out.size)⟩
    cases e2 : inB tO 65535
    · rw [e1, e2] at hHB
      go_wp2_with (first | (go_at_call 153; refine (GPl.out _ _).mono ?_; rintro e w' ⟨rfl, hww⟩; cases hww; (first | rw [e1] | rw [e2])))
      go_ret
      exact ⟨⟨_, rfl, ⟨fun h => absurd h (by decide), fun h => absurd ((show okM _ by rw [HO.out]; exact h).hb _ HM.out) (by rw [hHB.out]; simp)⟩⟩, HB1.out.trans (HBX.out.mono HB1.out.size)⟩
    cases e3 : inB aT 65535
    · rw [e1, e2, e3] at hHB
      go_wp2_with (first | (go_at_call 153; refine (GPl.out _ _).mono ?_; rintro e w' ⟨rfl, hww⟩; cases hww; (first | rw [e1] | rw [e2] | rw [e3])))
      go_ret
      exact ⟨⟨_, rfl, ⟨fun h => absurd h (by decide), fun h => absurd ((show okM _ by rw [HO.out]; exact h).hb _ HM.out) (by rw [hHB.out]; simp)⟩⟩, HB1.out.trans (HBX.out.mono HB1.out.size)⟩
    cases e4 : zAw ty.data.toList
    · rw [e1, e2, e3, e4] at hHB
      rw [e4] at GNm
      go_wp2_with (first | (go_at_call 153; refine (GPl.out _ _).mono ?_; rintro e w' ⟨rfl, hww⟩; cases hww; (first | rw [e1] | rw [e2] | rw [e3])) | (go_at_call 121; refine (GNm.out _).mono ?_; rintro e w' ⟨rfl, hww⟩; cases hww))
      go_ret
      exact ⟨⟨_, rfl, ⟨fun h => absurd h (by decide), fun h => absurd ((show okM _ by rw [HO.out]; exact h).hb _ HM.out) (by rw [hHB.out]; simp)⟩⟩, HB1.out.trans (HBX.out.mono HB1.out.size)⟩
    rw [e1, e2, e3, e4] at hHB
    rw [e4] at GNm
    go_wp2_with (first | (go_at_call 153; refine (GPl.out _ _).mono ?_; rintro e w' ⟨rfl, hww⟩; cases hww; (first | rw [e1] | rw [e2] | rw [e3])) | (go_at_call 121; refine (GNm.out _).mono ?_; rintro e w' ⟨rfl, hww⟩; cases hww))
    exact ⟨⟨i + 1, by go_num, by omega, HBX.out, HNX.out.2 (by rw [hHB.out]; rfl)⟩, by simp [intOf]; omega⟩
  · have hlt' : ¬ (i : Int) < (hs.length : Int) := by omega
    obtain rfl : i = hs.length := by omega
    rw [List.take_length] at HALL
    have HB1' := D.zA0 (HB1.out.trans (hb.mono HB1.out.size))
    have HXr := D.zA0 (HX1.out.below hb)
    have HKr := D.zA0 (HK3.out.below hb (fun _ _ h => h.below hb))
    clear x3 x4 x5 x6 x8 HB1 HX1 HK2 HK3 hb hall HB
    have x8 := HXr.out.cell 8
    simp at x8
    go_upto_region 14 with (fail)
    clear x7
    obtain ⟨Wb, hWb⟩ : ∃ W, W = wr := ⟨_, rfl⟩
    subst hWb
    go_loopw [5] (fun iv wr => ∃ i : Nat, iv = .int .i64 (i : Int) ∧ i ≤ rs.length ∧ Below Wb.heap.size Wb wr ∧ ∀ h ∈ rs.take i, zG5 h = true) (fun iv _ => rs.length - (intOf iv).toNat)
    case atStart => exact ⟨0, rfl, Nat.zero_le _, Below.refl _ _, by simp⟩
    case round =>
     obtain ⟨i, rfl, hi, hb, hall⟩ := hrel
     have HB := D.zA0 hb
     have HPL := D.zA0 hall
     have x8 := (HXr.out.below hb).cell 8
     simp at x8
     by_cases hlt : i < rs.length
     · have hlt' : (i : Int) < (rs.length : Int) := by omega
       obtain ⟨b, off, r, e, ⟨q1, e1, q2, e2, er, _, _⟩, d⟩ := zDd (HKr.out.below hb (fun _ _ h => h.below hb)) i hlt
       subst e
       have hmem : rs[i] ∈ rs := List.getElem_mem hlt
       have hnx : (∀ h ∈ rs.take (i + 1), zG5 h = true) ↔ zG5 rs[i] = true := by
        rw [List.take_add_one, List.getElem?_eq_getElem hlt]
        simp only [Option.toList_some, List.mem_append, List.mem_singleton]
        exact ⟨fun h => h _ (.inr rfl), fun h x hx => hx.elim (fun hx => hall x hx) (fun e => e ▸ h)⟩
       have HNX := D.zA0 hnx
       clear hnx hall
       generalize rs[i] = x at *
       obtain ⟨aT, fl, fs⟩ := x
       simp only at er
       subst er
       have d0 := d 0 _ rfl
       rw [Nat.add_zero] at d0
       have hPB : Hid (zG5 ⟨aT, fl, fs⟩ = inB aT 65535) := rfl
       have HM := D.zA0 hmem
       clear hmem d hb
       cases e1 : inB aT 65535
       · rw [e1] at hPB
         go_wp2_with (first | (go_at_call 153; refine (GPl.out _ _).mono ?_; rintro e w' ⟨rfl, hww⟩; cases hww; rw [e1]))
         go_ret
         exact ⟨⟨_, rfl, ⟨fun h => absurd h (by decide), fun h => absurd ((show okM _ by rw [HO.out]; exact h).pb _ HM.out) (by rw [hPB.out]; simp)⟩⟩, HB1'.out.trans (HB.out.mono HB1'.out.size)⟩
       rw [e1] at hPB
       go_wp2_with (first | (go_at_call 153; refine (GPl.out _ _).mono ?_; rintro e w' ⟨rfl, hww⟩; cases hww; rw [e1]))
       exact ⟨⟨i + 1, by go_num, by omega, HB.out, HNX.out.2 hPB.out⟩, by simp [intOf]; omega⟩
     · have hlt' : ¬ (i : Int) < (rs.length : Int) := by omega
       obtain rfl : i = rs.length := by omega
       rw [List.take_length] at HPL
       have HB2 := D.zA0 (HB1'.out.trans (hb.mono HB1'.out.size))
       have HXs := D.zA0 (HXr.out.below hb)
       have HKs := D.zA0 (HKr.out.below hb (fun _ _ h => h.below hb))
       clear HB1' HXr HKr hb hall HB
       go_upto_region 19 with (fail)
       clear x8
       obtain ⟨Wc, hWc⟩ : ∃ W, W = wr := ⟨_, rfl⟩
       subst hWc
       go_loopw [6] (fun iv wr => ∃ i : Nat, iv = .int .i64 (i : Int) ∧ i ≤ rs.length ∧ Below Wc.heap.size Wc wr ∧ ∀ f ∈ rs.take i, f.loc.length ≤ 16 ∧ f.stk.length ≤ 16 ∧ ∀ s ∈ f.loc ++ f.stk, zCy s = true) (fun iv _ => rs.length - (intOf iv).toNat)
       case atStart => exact ⟨0, rfl, Nat.zero_le _, Below.refl _ _, by simp⟩
       case round =>
        obtain ⟨i, rfl, hi, hb, hall⟩ := hrel
        have HB := D.zA0 hb
        have HSL := D.zA0 hall
        have x8 := (HXs.out.below hb).cell 8
        simp at x8
        by_cases hlt : i < rs.length
        · have hlt' : (i : Int) < (rs.length : Int) := by omega
          obtain ⟨b, off, r, e, ⟨q1, e1, q2, e2, er, L1, L2⟩, d⟩ := zDd (HKs.out.below hb (fun _ _ h => h.below hb)) i hlt
          subst e
          have hmem : rs[i] ∈ rs := List.getElem_mem hlt
          have hnx : (∀ f ∈ rs.take (i + 1), f.loc.length ≤ 16 ∧ f.stk.length ≤ 16 ∧ ∀ s ∈ f.loc ++ f.stk, zCy s = true) ↔ (rs[i].loc.length ≤ 16 ∧ rs[i].stk.length ≤ 16 ∧ ∀ s ∈ rs[i].loc ++ rs[i].stk, zCy s = true) := by
           rw [List.take_add_one, List.getElem?_eq_getElem hlt]
           simp only [Option.toList_some, List.mem_append, List.mem_singleton]
           exact ⟨fun h => by simpa using h _ (.inr rfl), fun h x hx => hx.elim (fun hx => by simpa using hall x hx) (fun e => by subst e; simpa using h)⟩
          have HNX := D.zA0 hnx
          clear hnx hall
          generalize rs[i] = x at *
          obtain ⟨aT, fl, fs⟩ := x
          simp only at er L1 L2 HNX
          subst er
          have d0 := d 0 _ rfl
          have d1 := d 1 _ rfl
          have d2 := d 2 _ rfl
          rw [Nat.add_zero] at d0
          obtain ⟨HX, bx⟩ := boxedF wr #[.int .i64 aT, .slice q1 fl.length e1, .slice q2 fs.length e2]
          have HBX := D.zA0 (hb.trans (bx.mono hb.size))
          have HL1 := D.zA0 (L1.below bx (fun _ _ h => h))
          have HL2 := D.zA0 (L2.below bx (fun _ _ h => h))
          have HXF := D.zA0 HX
          have HM := D.zA0 hmem
          clear hmem d hb bx HX L1 L2
          go_upto_region 22 with (refine wpList_store_row rfl 67 _ _ rfl wr.heap.size #[.int .i64 aT, .slice q1 fl.length e1, .slice q2 fs.length e2] rfl rfl 67 _ (Blk.new wr _ _) (by kernel_rfl) rfl (by simp [Value.oneCell']) ?_)
          generalize (wr.alloc (.cells #[.int .i64 0, .slice none 0 0, .slice none 0 0] 67)).setRow wr.heap.size #[.int .i64 aT, .slice q1 fl.length e1, .slice q2 fs.length e2] = W3 at *
          have y1 := HXF.out.cell 1
          have y2 := HXF.out.cell 2
          simp at y1 y2
          by_cases g1 : (fl.length : Int) > 16
          · go_wp2_with fail
            go_ret
            exact ⟨⟨_, rfl, ⟨fun h => absurd h (by decide), fun h => absurd ((show okM _ by rw [HO.out]; exact h).sb _ HM.out).1 (by simp only; omega)⟩⟩, HB2.out.trans (HBX.out.mono HB2.out.size)⟩
          by_cases g2 : (fs.length : Int) > 16
          · go_wp2_with fail
            go_ret
            exact ⟨⟨_, rfl, ⟨fun h => absurd h (by decide), fun h => absurd ((show okM _ by rw [HO.out]; exact h).sb _ HM.out).2.1 (by simp only; omega)⟩⟩, HB2.out.trans (HBX.out.mono HB2.out.size)⟩
          go_upto_region 24 with (fail)
          have hS0 : Hid (W3.cell? ⟨wr.heap.size, 1, none⟩ = some (.slice q1 fl.length e1) ∧ W3.cell? ⟨wr.heap.size, 2, none⟩ = some (.slice q2 fs.length e2)) := ⟨y1, y2⟩
          have hS3 : Hid (∀ W, Below W3.heap.size W3 W → W.cell? ⟨wr.heap.size, 1, none⟩ = some (.slice q1 fl.length e1) ∧ W.cell? ⟨wr.heap.size, 2, none⟩ = some (.slice q2 fs.length e2)) := fun W b => ⟨cell_later b y1, cell_later b y2⟩
          have hD : Hid (Below W3.heap.size W3 W3.drew) := (Below.refl _ _).drew
          have hDA : Hid (Below W3.heap.size W3 (W3.alloc (.cells #[] 9)).drew) := ((Below.refl _ _).alloc (Nat.le_refl _) _).drew
          have OE : Hid (OwnT (W3.alloc (.cells #[] 9)).drew W3.heap.size (.slice (some ⟨W3.heap.size, 0, none⟩) 0 0) []) := World.ownsRow_made W3 #[] 0 (Nat.le_refl _) (by unfold maxLen; omega) rfl
          have HLa := D.zA0 (HL1.out.below hDA.out (fun _ _ h => h))
          clear y1 y2
          refine wp_region_noPanic ?_
          refine wp_region_held_drew (S := (fun W => W.cell? ⟨wr.heap.size, 1, none⟩ = some (.slice q1 fl.length e1) ∧ W.cell? ⟨wr.heap.size, 2, none⟩ = some (.slice q2 fs.length e2))) (by kernel_rfl) ?_ (fun hHeld => ?_)
          · (try dsimp only); first | exact hS0.out | exact hS3.out _ hD.out | exact hS3.out _ hDA.out | exact hS3.out _ (by assumption)
          refine tH 1 ?vz1 rfl rfl ?yz1 ?rz1
          case yz1 => intro w hSw; go_simp; try with_reducible rfl
          try simp only [Act.put, sq1, sq2, sq3]
          refine tH 2 ?vz2 rfl rfl ?yz2 ?rz2
          case yz2 => intro w hSw; go_simp; try with_reducible rfl
          try simp only [Act.put, sq1, sq2, sq3]
          refine tH 4 ?vz3 rfl rfl ?yz3 ?rz3
          case yz3 => intro w hSw; go_simp; try with_reducible rfl
          try simp only [Act.put, sq1, sq2, sq3]
          refine tH 5 ?vz4 rfl rfl ?yz4 ?rz4
          case yz4 => intro w hSw; go_simp; try with_reducible rfl
          try simp only [Act.put, sq1, sq2, sq3]
          refine oH 0 rfl (fun K hK => ?_)
          go_simp
          try go_wp2_with fail
          refine hK.out _ _ ?q0 ?q3
          case q0 => (try dsimp only); first | exact hS0.out | exact hS3.out _ hD.out | exact hS3.out _ hDA.out | exact hS3.out _ (by assumption)
          clear hK K hHeld
          intro hHeld
          try simp only [Act.put, sq1, sq2, sq3]
          refine oH 3 rfl (fun K hK => ?_)
          obtain ⟨va, wa, hra, oa, ba⟩ := zF5 (w := (W3.alloc (.cells #[] 9)).drew) 47 W3.heap.size (.slice (some ⟨W3.heap.size, 0, none⟩) 0 0) [] fl q1 e1 OE.out HLa.out (by simp; omega) (by simp)
          rw [List.nil_append] at oa
          have bwa : Below W3.heap.size W3 wa := hDA.out.trans ba
          have HOA := D.zA0 oa
          obtain ⟨aa, pa, ea⟩ := zA4 oa
          subst ea
          clear oa
          refine zBb rfl rfl rfl rfl hra ?_
          refine hK.out _ _ ?q4 ?q5
          case q4 => (try dsimp only); first | exact hS0.out | exact hS3.out _ hD.out | exact hS3.out _ hDA.out | exact hS3.out _ (by assumption)
          clear hK K hHeld
          intro hHeld
          try simp only [Act.put, sq1, sq2, sq3]
          refine oH 6 rfl (fun K hK => ?_)
          obtain ⟨vb, wb, hrb, ob, bb⟩ := zF5 (w := wa) 47 W3.heap.size _ fl fs q2 e2 HOA.out (HL2.out.below bwa (fun _ _ h => h)) (by omega) bwa.size
          have bwb : Below W3.heap.size W3 wb := bwa.trans bb
          have HOB := D.zA0 ob
          obtain ⟨ab, pb, eb⟩ := zA4 ob
          subst eb
          clear ob
          refine zBb rfl rfl rfl rfl hrb ?_
          refine hK.out _ _ ?q6 ?q7
          case q6 => (try dsimp only); first | exact hS0.out | exact hS3.out _ hD.out | exact hS3.out _ hDA.out | exact hS3.out _ (by assumption)
          clear hK K hHeld
          intro hHeld
          try simp only [Act.put, sq1, sq2, sq3]
          refine tH 7 ?vz8 rfl rfl ?yz8 ?rz8
          case yz8 => intro w hSw; go_simp; try with_reducible rfl
          try simp only [Act.put, sq1, sq2, sq3]
          refine eH ?_
          refine NoPanic.normal ?_
          have hsm : ∀ s ∈ fl ++ fs, s.size ≤ 9223372036854775807 := fun s hs => by
           rcases List.mem_append.1 hs with h | h
           · exact LAt.small HL1.out s h
           · exact LAt.small HL2.out s h
          have HLB := D.zA0 (LAt.of_slice HOB.out hsm)
          have HSM := D.zA0 hsm
          have hlen : (fl ++ fs).length ≤ 32 := by rw [List.length_append]; omega
          have HBB := D.zA0 (HBX.out.trans (bwb.mono HBX.out.size))
          clear hsm hS0 hS3 hD hDA OE HLa HL1 HL2 HOA HOB hra hrb ba bb bwa
          generalize hLL : fl ++ fs = LL at *
          have HLN : Hid (LL.length = fl.length + fs.length) := by show _ = _; rw [← hLL, List.length_append]
          have HLL := D.zA0 hLL
          clear hLL
          go_upto_region 26 with (fail)
          obtain ⟨Wd, hWd⟩ : ∃ W, W = wb := ⟨_, rfl⟩
          subst hWd
          go_loopw [9] (fun iv wr => ∃ j : Nat, iv = .int .i64 (j : Int) ∧ j ≤ LL.length ∧ Below Wd.heap.size Wd wr ∧ ∀ s ∈ LL.take j, zCy s = true) (fun iv _ => LL.length - (intOf iv).toNat)
          case atStart => exact ⟨0, rfl, Nat.zero_le _, Below.refl _ _, by simp⟩
          case round =>
           obtain ⟨j, rfl, hj, hb2, hall2⟩ := hrel
           have HB2b := D.zA0 hb2
           have HAL2 := D.zA0 hall2
           by_cases hlt2 : j < LL.length
           · have hlt2' : (j : Int) < (fl.length : Int) + (fs.length : Int) := by have := HLN.out; omega
             have hlt2n : j < fl.length + fs.length := by have := HLN.out; omega
             obtain ⟨b3, off3, r3, e3, ⟨er3, hz3⟩, d3⟩ := zDd (HLB.out.below hb2 (fun _ _ h => h)) j hlt2
             subst e3
             subst er3
             have hmem2 : LL[j] ∈ LL := List.getElem_mem hlt2
             have hnx2 : (∀ s ∈ LL.take (j + 1), zCy s = true) ↔ zCy LL[j] = true := by
              rw [List.take_add_one, List.getElem?_eq_getElem hlt2]
              simp only [Option.toList_some, List.mem_append, List.mem_singleton]
              exact ⟨fun h => h _ (.inr rfl), fun h x hx => hx.elim (fun hx => hall2 x hx) (fun e => e ▸ h)⟩
             have HNX2 := D.zA0 hnx2
             clear hnx2 hall2
             generalize LL[j] = sj at *
             have d0 := d3 0 _ rfl
             rw [Nat.add_zero, Nat.mul_one] at d0
             have GSl := D.zA0 (fun W => zSt sj W hz3)
             have HM2 := D.zA0 hmem2
             clear hmem2 d3 hb2
             cases es : zCy sj
             · rw [es] at GSl
               go_wp2_with (first | (go_at_call 67; refine (GSl.out _).mono ?_; rintro e w' ⟨rfl, hww⟩; cases hww))
               go_ret
               exact ⟨⟨_, rfl, ⟨fun h => absurd h (by decide), fun h => absurd (((show okM _ by rw [HO.out]; exact h).sb _ HM.out).2.2 sj (by simp only; rw [HLL.out]; exact HM2.out)) (by rw [es]; decide)⟩⟩, HB2.out.trans ((HBB.out.trans (HB2b.out.mono HBB.out.size)).mono HB2.out.size)⟩
             rw [es] at GSl
             go_wp2_with (first | (go_at_call 67; refine (GSl.out _).mono ?_; rintro e w' ⟨rfl, hww⟩; cases hww))
             exact ⟨⟨j + 1, by go_num, by omega, HB2b.out, HNX2.out.2 es⟩, by simp [intOf]; omega⟩
           · have hlt2' : ¬ (j : Int) < (fl.length : Int) + (fs.length : Int) := by have := HLN.out; omega
             obtain rfl : j = LL.length := by omega
             rw [List.take_length] at HAL2
             have hjn := HLN.out
             go_wp2_with fail
             go_roundw
             case rel => exact ⟨i + 1, by go_num, by omega, HBB.out.trans (HB2b.out.mono HBB.out.size), HNX.out.2 ⟨by omega, by omega, HAL2.out⟩⟩
             case measure => simp [intOf]; omega
        · have hlt' : ¬ (i : Int) < (rs.length : Int) := by omega
          obtain rfl : i = rs.length := by omega
          rw [List.take_length] at HSL
          go_wp2_with fail
          go_ret
          exact ⟨⟨_, rfl, ⟨fun _ => by rw [← HO.out]; exact ⟨by simp only; omega, by simp only; omega, by simp only; omega, by simp only; omega, by simp only; omega, by simp only; omega, by simp only; omega, HALL.out, HPL.out, HSL.out⟩, fun _ => rfl⟩⟩, HB2.out.trans (HB.out.mono HB2.out.size)⟩
theorem zD4 {k sb T ST : Nat} {z : Value} {i0 : TypeInfo} (hU : Tryz.prog.underlying ST = some (.slice T)) (hi : Tryz.prog.info? T = some i0) (hz0 : i0.zero = some z) (hz1 : i0.size = k) (hz2 : i0.bytes = sb) (hzc : z.cells.size = k) (hk0 : 0 < k) (hsb : sb ≤ 1000)
 (w : World) (ty : TypeId) (ao : Option Addr) (n c : Nat) (rows : Nat → List Value) (h : zAo k w ao n rows) (hk : ∀ j, j < n → (rows j).length = k) (h1 : ∀ j, j < n → ∀ u ∈ rows j, u.oneCell' = true) (hlen : n ≤ 1000000) :
 ∃ v' w', (Builtin.append_ #[ST, ST] ty #[.slice (some ⟨w.heap.size, 0, none⟩) 0 0, .slice ao n c]).run Tryz.prog (w.alloc (.cells #[] T)) = .ok v' w' ∧ w'.ownsRow w.heap.size T k v' n (zAv rows n) ∧ Below w.heap.size w w' := by
 have hown0 : (w.alloc (.cells #[] T)).ownsRow w.heap.size T k (.slice (some ⟨w.heap.size, 0, none⟩) 0 0) 0 [] := World.ownsRow_made w #[] 0 (Nat.le_refl _) (by unfold maxLen; omega) (by simp)
 have hb : Below w.heap.size w (w.alloc (.cells #[] T)) := zA6 w _
 cases ao with
 | none =>
   obtain rfl : n = 0 := by
    rcases Nat.eq_zero_or_pos n with e | e
    · exact e
    · obtain ⟨_, _, e, _⟩ := h e; cases e
   refine ⟨_, _, ?_, by simpa [zAv] using hown0, hb⟩
   simp [Builtin.append_, run_underlying hU, sizeOf, typeInfo, hi, Builtin.lenOf, Builtin.firstCells, loadCells, storeCells]
 | some a =>
   have zC7 : ∀ j u, (zAv rows n)[j]? = some u → (w.alloc (.cells #[] T)).cell? (a.add j) = some u := fun j u hj => cell_later hb (zAo.flat h hk j u hj)
   have hmul : (0 + n) * sb ≤ 1000000 * 1000 := Nat.mul_le_mul (by omega) hsb
   obtain ⟨v', w', hr, h2, h3, _, _⟩ := run_append_own_at (P := Tryz.prog) (w.alloc (.cells #[] T)) w.heap.size ST ty T i0 z k sb hU hi hz0 hz1 hz2 hzc hk0 _ 0 [] hown0 a n c (zAv rows n) (zBc hk) zC7 (zE6 h1) (by unfold maxLen; omega) (by omega) (by simp)
   exact ⟨v', w', hr, by simpa using h2, hb.grown h3 (by simp) (fun k hk => (hown0.lt k hk).1)⟩
theorem zDs {w w' : World} {ops : Array Oper} {rest : List Oper} {o : Oper} {a : Act} {Q : Exit → Act → World → Prop} {ST : TypeId} {v vb v' : Value} (hgd : o.guard = none) (s x : Operand)
 (ho : o.op = .call { callee := .builtin .append, args := #[s, x], argTypes := #[ST, ST] }) (hs : a.eval s = v) (hx : a.eval x = vb) (hr : (Builtin.append_ #[ST, ST] o.type #[v, vb]).run Tryz.prog w = .ok v' w') (h : wpList Tryz.prog ops Q rest (a.put o.dst v') w') : wpList Tryz.prog ops Q (o :: rest) a w := by
 refine wpList_plain hgd fun K hK => ?_
 unfold Oper.wp execOp
 simp only [ho, resolve, invoke, builtin, Sem.run_bind, Sem.run_pure, Result.andThen_ok, List.map_toArray, List.map_cons, List.map_nil, hs, hx, hr]
 exact hK _ _ h
end Go.Proofs.YtpehimfnkmepnaaGreat.Fr
namespace Go.Proofs.YtpehimfnkmepnaaGreat.P3
open Go.RowKit D
structure CD where
 kind : Int
 n : Int
 cls : ByteArray
 nm : ByteArray
 dsc : ByteArray
def CD.cells (c : CD) : List Value := [.int .i64 c.kind, .int .i32 c.n, .string c.cls, .string c.nm, .string c.dsc]
def CD.val (c : CD) : Value := .agg #[.int .i64 c.kind, .int .i32 c.n, .string c.cls, .string c.nm, .string c.dsc]
structure CD.Fits (c : CD) : Prop where
 c3 : c.cls.size ≤ 9223372036854775807
 c4 : c.nm.size ≤ 9223372036854775807
 c5 : c.dsc.size ≤ 9223372036854775807
abbrev bsB (s : ByteArray) : Bs := s.data.toList
def zCl (s : ByteArray) : Bool := s.toList.isEmpty
def zFc (s : ByteArray) : Bool := (zEr (bsB s)).2 || zAw (bsB s)
def zD3 (c : CD) : Bool := zAw (bsB c.cls) && zAw (bsB c.nm)
def zBr (s : ByteArray) : Bool := (meth (bsB s)).isSome && decide (s.size ≤ 256)
def zB0 (c : CD) : Bool :=
 if c.kind = 3 then zCl c.cls && zCl c.nm && zCl c.dsc
 else if c.kind = 7 then decide (c.n = 0) && zFc c.cls && zCl c.nm && zCl c.dsc
 else if c.kind = 9 then decide (c.n = 0) && zD3 c && zAp (bsB c.dsc)
 else if c.kind = 10 then decide (c.n = 0) && zD3 c && zBr c.dsc
 else false
theorem zCx {a b : Bool} (h : a = b) : Ending.returned (.bool a) = .returned (.bool b) := by rw [h]
end Go.Proofs.YtpehimfnkmepnaaGreat.P3
namespace Go.Proofs.YtpehimfnkmepnaaGreat.P3
open Go.RowKit
def zSw (H : Nat) (v v' : Value) : Prop := v'.ownBlock = v.ownBlock ∨ ∃ g, v'.ownBlock = some g ∧ H ≤ g
structure Step (v : Value) (w : World) (v' : Value) (w' : World) : Prop where
 grown : w.grownBy w' v.ownBlock
 moved : zSw w.heap.size v v'
theorem Step.refl (v : Value) (w : World) : Step v w v w := ⟨⟨rfl, rfl, rfl, Nat.le_refl _, fun _ _ _ => rfl⟩, .inl rfl⟩
theorem Step.trans {v v1 v2 : Value} {w w1 w2 : World} (h : Step v w v1 w1) (k : Step v1 w1 v2 w2) : Step v w v2 w2 := by
 refine ⟨⟨k.grown.os.trans h.grown.os, k.grown.tape.trans h.grown.tape, k.grown.output.trans h.grown.output, Nat.le_trans h.grown.size k.grown.size, ?_⟩, ?_⟩
 · intro i hi hne
   have h1 := h.grown.block i hi hne
   have hlt : i < w1.heap.size := Nat.lt_of_lt_of_le hi h.grown.size
   rw [k.grown.block i hlt ?_, h1]
   rcases h.moved with e | ⟨g, e, hg⟩
   · rw [e]; exact hne
   · rw [e]; intro e2; cases e2; omega
 · rcases k.moved with e | ⟨g, e, hg⟩
   · rcases h.moved with e1 | ⟨g1, e1, hg1⟩
     · exact .inl (e.trans e1)
     · exact .inr ⟨g1, e.trans e1, hg1⟩
   · exact .inr ⟨g, e, Nat.le_trans h.grown.size hg⟩
theorem Step.of_at {v v' : Value} {w w' : World} (hg : w.grownBy w' v.ownBlock) (ha : v'.ownBlock = v.ownBlock ∨ v'.ownBlock = some w.heap.size) : Step v w v' w' :=
 ⟨hg, ha.imp id fun e => ⟨_, e, Nat.le_refl _⟩⟩
theorem Step.below {v v' : Value} {w w' : World} (h : Step v w v' w') {B : Nat} (hB : B ≤ w.heap.size) (hv : ∀ k, v.ownBlock = some k → B ≤ k) : Below B w w' :=
 (Below.refl _ _).grown h.grown hB hv
theorem Tryz.info5 : (Tryz.prog.info? 5).map (fun i => (i.zero, i.size, i.bytes)) = some (some (.int .u8 0), 1, 1) := by kernel_rfl
theorem zC3 {k : IntKind} {a b : Int} (h : a = b) : Ending.returned (.int k a) = .returned (.int k b) := by rw [h]
def zAh (l : List Int) : List Value := l.map (Value.int .u8)
theorem zFb (a b : List Int) : zAh (a ++ b) = zAh a ++ zAh b := by simp [zAh]
theorem zA0 {p : Prop} (h : p) : Hid p := h
end Go.Proofs.YtpehimfnkmepnaaGreat.P3
