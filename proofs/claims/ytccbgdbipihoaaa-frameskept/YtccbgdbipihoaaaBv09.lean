/- Texts BKw QOp FrOp. -/
import Derived.Test.YtccbgdbipihoaaaBv08
import Derived.Deep.CutRange
import Derived.Test.YtccbgdbipihoaaaBv05
import Derived.Test.YtccbgdbipihoaaaRows
import Derived.ProofKit
import Derived.OpenShut
import Derived.SliceStrings
import Derived.Lib.LaidU8
import Derived.ChangeOld
import Derived.Below
import Derived.Test.YtccbgdbipihoaaaBv06
import Derived.SizedLaws
namespace Go.Proofs.Ytccbgdbipihoaaa.Fr
open Go.RowKit Q Q.D K

structure KpI (w wr : World) (rowA : Array Value) (L W : Value) (held : Int) (its : List BK.It) : Prop where
  bk : BK.IsBk (w.heap.size + 2) (w.heap.size + 1) wr L W held its
  a : Blk wr w.heap.size rowA 34
  b : Below w.heap.size w wr
theorem KpI.top {w wr : World} {rowA : Array Value} {L W : Value} {held : Int} {its : List BK.It} (h : KpI w wr rowA L W held its) : ∀ p ∈ its, ∀ g, p.l.ownBlock = some g → g < wr.heap.size := fun p hp g hg => ((h.bk.fine p hp).l.lt g hg).2
theorem KpI.sz {w wr : World} {rowA : Array Value} {L W : Value} {held : Int} {its : List BK.It} (h : KpI w wr rowA L W held its) : w.heap.size + 2 ≤ wr.heap.size := (Array.getElem?_eq_some_iff.1 h.bk.blk).1

set_option maxRecDepth 8000 in
set_option maxHeartbeats 8000000 in
theorem kept_any (w : World) (va : Value) (f : RD) (hv : FrV w va f) (n1 : f.loc.length ≤ 8796093021999) (n2 : f.stk.length ≤ 8796093021999) :
    Calls Try.prog 4 #[va] w fun e w' => e = .returned (.bool true) ∧ Below w.heap.size w w' := by
  have HV := D.hidIt hv
  obtain ⟨o1, c1, o2, c2, rfl, _, _⟩ := hv
  obtain ⟨aT, loc, stk⟩ := f
  simp only at *
  have A0 := (Blk.new w #[.int .i64 aT, .slice o1 loc.length c1, .slice o2 stk.length c2] 34).alloc (.cells #[.slice none 0 0, .slice none 0 0, .int .i64 0, .bool false] 45)
  have Y0 := Blk.new (w.alloc (.cells #[.int .i64 aT, .slice o1 loc.length c1, .slice o2 stk.length c2] 34)) #[.slice none 0 0, .slice none 0 0, .int .i64 0, .bool false] 45
  rw [World.size_alloc] at Y0
  have B0 : Below w.heap.size w ((w.alloc (.cells #[.int .i64 aT, .slice o1 loc.length c1, .slice o2 stk.length c2] 34)).alloc (.cells #[.slice none 0 0, .slice none 0 0, .int .i64 0, .bool false] 45)) := ((Below.refl _ w).alloc (Nat.le_refl _) _).alloc (by simp) _
  have I0 : Hid (KpI w ((w.alloc (.cells #[.int .i64 aT, .slice o1 loc.length c1, .slice o2 stk.length c2] 34)).alloc (.cells #[.slice none 0 0, .slice none 0 0, .int .i64 0, .bool false] 45)) #[.int .i64 aT, .slice o1 loc.length c1, .slice o2 stk.length c2] (.slice none 0 0) (.slice none 0 0) 0 []) :=
    ⟨⟨Y0, .inl ⟨rfl, rfl⟩, .inl ⟨rfl, rfl⟩, fun g h => by simp [Value.ownBlock] at h, by simp, List.Pairwise.nil⟩, A0, B0⟩
  clear A0 Y0 B0
  go_enter Try.func4, Try.ntmps4
  go_wp2
  go_loopw [4] (fun i wr => ∃ (k : Nat) (L W : Value) (held : Int) (its : List BK.It), i = .int .i64 (k : Int) ∧ k ≤ 2 ∧ KpI w wr #[.int .i64 aT, .slice o1 loc.length c1, .slice o2 stk.length c2] L W held its ∧ its.length ≤ 7 * k) (fun i _ => 2 - (intOf i).toNat)
  case atStart => exact ⟨0, _, _, _, [], rfl, by omega, I0.out, by simp⟩
  case round =>
    clear I0
    obtain ⟨k, L, W, held, its, rfl, hk, hI, hlen⟩ := hrel
    have HI := D.hidIt hI
    have hsz := hI.sz
    have hv2 := D.hidIt (HV.out.below hI.b)
    have x0 := hI.a.cell 0
    have x1 := hI.a.cell 1
    have x2 := hI.a.cell 2
    simp at x0 x1 x2
    clear hI
    by_cases hlt : k < 2
    · have hlt' : (k : Int) < 2 := by omega
      have b1 := balloc wr (.cells #[.string ⟨#[73]⟩] 9)
      have G1 := D.hidIt (push_ok _ _ _ (hv2.out.below b1) ((stk.length : Int) + 1) (some ⟨wr.heap.size, 0, none⟩) 1 [⟨#[73]⟩] (laid1 wr _ (by decide)) (by simp only; omega) (by simp only; omega) (by decide) (by simp))
      simp only at G1
      obtain ⟨S, hS⟩ : ∃ S, S = (stk ++ [ByteArray.mk #[73]]).length := ⟨_, rfl⟩
      have hS1 : S = stk.length + 1 := by rw [hS]; simp
      have hSi : S ≤ 8796093022000 := by omega
      have HS := D.hidIt hS
      have HS1 := D.hidIt hS1
      clear hS hS1
      go_upto_region 6 with (first
        | (go_at_call 8; refine G1.out.mono ?_; rintro e w2 ⟨v2, rfl, ⟨u1, u2, m1, rfl, ow1, ow2, q1, q2, q3⟩, b2⟩; obtain ⟨a1, p1, rfl⟩ := own_slice ow1; obtain ⟨a2, p2, e2⟩ := own_slice ow2; simp only at e2; rw [← HS.out] at e2; subst e2; have OF1 := D.hidIt ow1; have OF2 := D.hidIt ow2; have HQ3 := D.hidIt q3; clear ow1 ow2 q3)
        | (refine wpList_store_row rfl 34 _ _ rfl w2.heap.size #[.int .i64 aT, .slice a1 loc.length p1, .slice a2 S p2] rfl rfl 34 _ (Blk.new w2 _ _) (by kernel_rfl) rfl (by simp [Value.oneCell']) ?_))
      obtain ⟨FX, b3⟩ := boxed w2 #[.int .i64 aT, .slice a1 loc.length p1, .slice a2 S p2]
      have b4 := (b1.trans (b2.mono b1.size)).trans (b3.mono (Nat.le_trans b1.size b2.size))
      have z1 := b1.size
      have z2 := b2.size
      have z3 := b3.size
      have HB4 := D.hidIt b4
      have HFX4 := D.hidIt FX
      have OF1 := D.hidIt ((OF1.out.below b3).mono z1)
      have OF2 := D.hidIt (OF2.out.below b3)
      have hbf := FX.lt
      clear G1 x0 x1 x2 b1 b2 b3 b4 FX
      have hm1a : wr.heap.size ≤ m1 := Nat.le_trans z1 q1
      generalize (w2.alloc (.cells #[.int .i64 0, .slice none 0 0, .slice none 0 0] 34)).setRow w2.heap.size #[.int .i64 aT, .slice a1 loc.length p1, .slice a2 S p2] = W4 at *
      have hbf0 : wr.heap.size ≤ w2.heap.size := Nat.le_trans z1 z2
      have hm1b : m1 ≤ W4.heap.size := by omega
      have HF2 : Hid (∀ k, (Value.slice a2 S p2).ownBlock = some k → k < W4.heap.size) := fun k hk => (OF2.out.lt k hk).2
      generalize w2.heap.size = bf at *
      clear z1 z2 z3 q1 q2
      -- Pop
      have hsm := FrV.small hv2.out
      have sml : ∀ s ∈ stk ++ [ByteArray.mk #[73]], s.size ≤ 9223372036854775807 := by
        intro s hs
        rcases List.mem_append.1 hs with h | h
        · exact hsm.2 s h
        · simp at h; subst h; decide
      have FV4 : FrV W4 (.agg #[.int .i64 aT, .slice a1 loc.length p1, .slice a2 S p2]) ⟨aT, loc, stk ++ [ByteArray.mk #[73]]⟩ := OwnF.view ⟨_, _, m1, rfl, OF1.out, OF2.out, hm1a, hm1b, HQ3.out⟩ hsm.1 sml
      have HFV4 := D.hidIt FV4
      have G4 := D.hidIt (pop_ok W4 _ _ FV4 1 stk.length (by simp only; omega) (by simp only [← HS.out]; omega) (by simp))
      have f0 := HFX4.out.cell 0
      have f1 := HFX4.out.cell 1
      have f2 := HFX4.out.cell 2
      simp at f0 f1 f2
      clear FV4 sml hsm
      go_upto_region 7 with (first
        | (go_at_call 7; refine G4.out.mono ?_; rintro e w5 ⟨v5, vp, M, rfl, ⟨u1, u2, m2, rfl, ow1, ow2, q1, q2, q3⟩, hFB, owp, hM, b5⟩; obtain ⟨g1, d1, rfl⟩ := own_slice ow1; obtain ⟨g2, d2, e2⟩ := own_slice ow2; simp only at e2; rw [List.take_left] at e2; subst e2; obtain ⟨g3, d3, e3⟩ := own_slice owp; simp only [List.drop_left] at e3; have e3' : vp = .slice g3 1 d3 := e3; clear e3; subst e3'; simp only [List.take_left, List.drop_left] at ow1 ow2 owp q3; have OG1 := D.hidIt ow1; have OG2 := D.hidIt ow2; have OP := D.hidIt owp; have HQ5 := D.hidIt q3; have HFB := D.hidIt hFB; clear ow1 ow2 owp q3 hFB)
        | (refine wpList_store_row rfl 34 _ _ rfl w5.heap.size #[.int .i64 aT, .slice g1 loc.length d1, .slice g2 stk.length d2] rfl rfl 34 _ (Blk.new w5 _ _) (by kernel_rfl) rfl (by simp [Value.oneCell']) ?_))
      obtain ⟨GX, b6⟩ := boxed w5 #[.int .i64 aT, .slice g1 loc.length d1, .slice g2 stk.length d2]
      have b7 := b5.trans (b6.mono b5.size)
      have z5 := b5.size
      have z6 := b6.size
      have HB7 := D.hidIt (HB4.out.trans (b7.mono HB4.out.size))
      have HFX7 := D.hidIt (HFX4.out.below b7)
      have HFV7 := D.hidIt (HFV4.out.below b7)
      have HGX7 := D.hidIt GX
      have OF1 := D.hidIt (OF1.out.below b7)
      have OF2 := D.hidIt (OF2.out.below b7)
      have OG1 := D.hidIt (OG1.out.below b6)
      have OG2 := D.hidIt (OG2.out.below b6)
      have OP := D.hidIt (OP.out.below b6)
      have hbg := GX.lt
      have hm2b : ∀ k, (Value.slice g2 stk.length d2).ownBlock = some k → k < M := fun k hk => HFB.out _ _ _ rfl k (.inr hk)
      have hm2c : ∀ k, (Value.slice g1 loc.length d1).ownBlock = some k → k < M := fun k hk => HFB.out _ _ _ rfl k (.inl hk)
      have HM2 := D.hidIt hm2b
      have HM2c := D.hidIt hm2c
      clear G4 f0 f1 f2 b5 b6 b7 GX HFX4 HFV4 HFB hm2b hm2c
      generalize (w5.alloc (.cells #[.int .i64 0, .slice none 0 0, .slice none 0 0] 34)).setRow w5.heap.size #[.int .i64 aT, .slice g1 loc.length d1, .slice g2 stk.length d2] = W7 at *
      generalize w5.heap.size = bg at *
      -- Set
      have f0 := HFX7.out.cell 0
      have f1 := HFX7.out.cell 1
      have f2 := HFX7.out.cell 2
      simp at f0 f1 f2
      have G7 := D.hidIt (set_kept W7 _ _ HFV7.out ⟨#[73]⟩ (by simp only; omega) (by simp only [← HS.out]; omega))
      go_upto_region 8 with (first
        | (go_at_call 13; refine G7.out.mono ?_; rintro e w8 ⟨x, er, r1, k1, s1, r2, k2, s2, l1, l2, m3, rfl, oh1, oh2, q3, q4, q5, ql1, ql2, b8⟩; have OH1 := D.hidIt oh1; have OH2 := D.hidIt oh2; have HQ8 := D.hidIt q5; clear oh1 oh2 q5)
        | (refine wpList_store_row rfl 34 _ _ rfl w8.heap.size #[.int .i64 x, .slice r1 k1 s1, .slice r2 k2 s2] rfl rfl 34 _ (Blk.new w8 _ _) (by kernel_rfl) rfl (by simp [Value.oneCell']) ?_))
      -- BOXED
      obtain ⟨HX, b9⟩ := boxed w8 #[.int .i64 x, .slice r1 k1 s1, .slice r2 k2 s2]
      have b10 := b8.trans (b9.mono b8.size)
      have z8 := b8.size
      have z9 := b9.size
      have BW := D.hidIt (HB7.out.trans (b10.mono HB7.out.size))
      have FXk := D.hidIt (HFX7.out.below b10)
      have GXk := D.hidIt (HGX7.out.below b10)
      have HXk := D.hidIt HX
      have O1 := D.hidIt (OF1.out.below b10)
      have O2 := D.hidIt (OF2.out.below b10)
      have O3 := D.hidIt (OG1.out.below b10)
      have O4 := D.hidIt (OG2.out.below b10)
      have O5 := D.hidIt (OP.out.below b10)
      have O6 := D.hidIt (OH1.out.below b9)
      have O7 := D.hidIt (OH2.out.below b9)
      have hMW : M ≤ W7.heap.size := by
        obtain ⟨g, _, _, _, hB, hg, _⟩ := OP.out.form (by decide)
        have := (Array.getElem?_eq_some_iff.1 hg).1
        omega
      have V1 := D.hidIt HQ3.out
      have V2 := D.hidIt HF2.out
      have V3 : Hid (∀ k, (Value.slice g1 loc.length d1).ownBlock = some k → k < min m2 M) := fun k hk => Nat.lt_min.2 ⟨HQ5.out k hk, HM2c.out k hk⟩
      have V4 := D.hidIt HM2.out
      have V5 : Hid (∀ k, (Value.slice g3 1 d3).ownBlock = some k → k < W7.heap.size) := fun k hk => (OP.out.lt k hk).2
      have V6 := D.hidIt HQ8.out
      have O4 := D.hidIt (O4.out.mono (Nat.min_le_left m2 M))
      have hbh := HX.lt
      clear HX G7 f0 f1 f2 HFX7 HGX7 HFV7 OF1 OF2 OG1 OG2 OP OH1 OH2 HQ3 HF2 HQ5 HM2 HM2c HQ8 b8 b9 b10 HB7
      generalize (w8.alloc (.cells #[.int .i64 0, .slice none 0 0, .slice none 0 0] 34)).setRow w8.heap.size #[.int .i64 x, .slice r1 k1 s1, .slice r2 k2 s2] = Z0 at *
      generalize w8.heap.size = bh at *
      have V7 : Hid (∀ k, (Value.slice r2 k2 s2).ownBlock = some k → k < Z0.heap.size) := fun k hk => (O7.out.lt k hk).2
      have hmn1 : W4.heap.size ≤ min m2 M := Nat.le_min.2 ⟨q1, hM⟩
      have hmn2 : min m2 M ≤ M := Nat.min_le_right _ _
      have BK0 := D.hidIt (HI.out.bk.below BW.out)
      have AX0 := D.hidIt (HI.out.a.below BW.out)
      have HB0 := D.hidIt (HI.out.b.trans (BW.out.mono HI.out.b.size))
      have T0 := D.hidIt HI.out.top
      have y0 : w.heap.size + 2 ≤ Z0.heap.size := Nat.le_trans hsz BW.out.size
      have hz4 : wr.heap.size ≤ W4.heap.size := HB4.out.size
      generalize min m2 M = mn at *
      have G0 := D.hidIt (keep_up (w.heap.size + 2) (w.heap.size + 1) (wr.heap.size) (m1) L W (.slice a1 loc.length p1) held its loc Z0 BK0.out O1.out (by omega) T0.out V1.out (by omega) (by omega) (by omega) (by omega) (by omega))
      have c0 := FXk.out.cell 1
      simp at c0
      go_upto_region 9 with (first | (go_at_call 14; refine G0.out.mono ?_; rintro e Z1 ⟨rfl, Kp0, L1, W1k, held1, its1, hb, hl0, ht⟩; have BK1 := D.hidIt hb; have T1 := D.hidIt ht; have KP0 := D.hidIt Kp0; clear hb ht Kp0))
      have y1 := Nat.le_trans y0 KP0.out.size
      have AX1 := D.hidIt (Kp_blk KP0.out AX0.out (by omega) (by decide))
      have HB1 := D.hidIt (HB0.out.trans (KP0.out.below (show w.heap.size ≤ _ by omega) (by omega) (by omega)))
      have FXk := D.hidIt (Kp_blk KP0.out FXk.out (by omega) (by decide))
      have GXk := D.hidIt (Kp_blk KP0.out GXk.out (by omega) (by decide))
      have HXk := D.hidIt (Kp_blk KP0.out HXk.out (by omega) (by decide))
      have O2 := D.hidIt (Kp_own KP0.out BK0.out O2.out)
      have O3 := D.hidIt (Kp_own KP0.out BK0.out O3.out)
      have O4 := D.hidIt (Kp_own KP0.out BK0.out O4.out)
      have O5 := D.hidIt (Kp_own KP0.out BK0.out O5.out)
      have O6 := D.hidIt (Kp_own KP0.out BK0.out O6.out)
      have O7 := D.hidIt (Kp_own KP0.out BK0.out O7.out)
      clear G0 c0 BK0 T0 AX0 HB0
      have G1 := D.hidIt (keep_up (w.heap.size + 2) (w.heap.size + 1) (m1) (W4.heap.size) L1 W1k (.slice a2 S p2) held1 its1 (stk ++ [ByteArray.mk #[73]]) Z1 BK1.out O2.out (by omega) T1.out V2.out (by omega) (by omega) (by rw [← HS.out]; omega) (by omega) (by omega))
      have c1 := FXk.out.cell 2
      simp at c1
      go_upto_region 10 with (first | (go_at_call 14; refine G1.out.mono ?_; rintro e Z2 ⟨rfl, Kp1, L2, W2k, held2, its2, hb, hl1, ht⟩; have BK2 := D.hidIt hb; have T2 := D.hidIt ht; have KP1 := D.hidIt Kp1; clear hb ht Kp1))
      have y2 := Nat.le_trans y1 KP1.out.size
      have AX2 := D.hidIt (Kp_blk KP1.out AX1.out (by omega) (by decide))
      have HB2 := D.hidIt (HB1.out.trans (KP1.out.below (show w.heap.size ≤ _ by omega) (by omega) (by omega)))
      have FXk := D.hidIt (Kp_blk KP1.out FXk.out (by omega) (by decide))
      have GXk := D.hidIt (Kp_blk KP1.out GXk.out (by omega) (by decide))
      have HXk := D.hidIt (Kp_blk KP1.out HXk.out (by omega) (by decide))
      have O3 := D.hidIt (Kp_own KP1.out BK1.out O3.out)
      have O4 := D.hidIt (Kp_own KP1.out BK1.out O4.out)
      have O5 := D.hidIt (Kp_own KP1.out BK1.out O5.out)
      have O6 := D.hidIt (Kp_own KP1.out BK1.out O6.out)
      have O7 := D.hidIt (Kp_own KP1.out BK1.out O7.out)
      clear G1 c1 BK1 T1 AX1 HB1
      have G2 := D.hidIt (keep_up (w.heap.size + 2) (w.heap.size + 1) (W4.heap.size) (mn) L2 W2k (.slice g1 loc.length d1) held2 its2 loc Z2 BK2.out O3.out (by omega) T2.out V3.out (by omega) (by omega) (by omega) (by omega) (by omega))
      have c2 := GXk.out.cell 1
      simp at c2
      go_upto_region 11 with (first | (go_at_call 14; refine G2.out.mono ?_; rintro e Z3 ⟨rfl, Kp2, L3, W3k, held3, its3, hb, hl2, ht⟩; have BK3 := D.hidIt hb; have T3 := D.hidIt ht; have KP2 := D.hidIt Kp2; clear hb ht Kp2))
      have y3 := Nat.le_trans y2 KP2.out.size
      have AX3 := D.hidIt (Kp_blk KP2.out AX2.out (by omega) (by decide))
      have HB3 := D.hidIt (HB2.out.trans (KP2.out.below (show w.heap.size ≤ _ by omega) (by omega) (by omega)))
      have FXk := D.hidIt (Kp_blk KP2.out FXk.out (by omega) (by decide))
      have GXk := D.hidIt (Kp_blk KP2.out GXk.out (by omega) (by decide))
      have HXk := D.hidIt (Kp_blk KP2.out HXk.out (by omega) (by decide))
      have O4 := D.hidIt (Kp_own KP2.out BK2.out O4.out)
      have O5 := D.hidIt (Kp_own KP2.out BK2.out O5.out)
      have O6 := D.hidIt (Kp_own KP2.out BK2.out O6.out)
      have O7 := D.hidIt (Kp_own KP2.out BK2.out O7.out)
      clear G2 c2 BK2 T2 AX2 HB2
      have G3 := D.hidIt (keep_up (w.heap.size + 2) (w.heap.size + 1) (mn) (M) L3 W3k (.slice g2 stk.length d2) held3 its3 stk Z3 BK3.out O4.out (by omega) T3.out V4.out (by omega) (by omega) (by omega) (by omega) (by omega))
      have c3 := GXk.out.cell 2
      simp at c3
      go_upto_region 12 with (first | (go_at_call 14; refine G3.out.mono ?_; rintro e Z4 ⟨rfl, Kp3, L4, W4k, held4, its4, hb, hl3, ht⟩; have BK4 := D.hidIt hb; have T4 := D.hidIt ht; have KP3 := D.hidIt Kp3; clear hb ht Kp3))
      have y4 := Nat.le_trans y3 KP3.out.size
      have AX4 := D.hidIt (Kp_blk KP3.out AX3.out (by omega) (by decide))
      have HB4 := D.hidIt (HB3.out.trans (KP3.out.below (show w.heap.size ≤ _ by omega) (by omega) (by omega)))
      have FXk := D.hidIt (Kp_blk KP3.out FXk.out (by omega) (by decide))
      have GXk := D.hidIt (Kp_blk KP3.out GXk.out (by omega) (by decide))
      have HXk := D.hidIt (Kp_blk KP3.out HXk.out (by omega) (by decide))
      have O5 := D.hidIt (Kp_own KP3.out BK3.out O5.out)
      have O6 := D.hidIt (Kp_own KP3.out BK3.out O6.out)
      have O7 := D.hidIt (Kp_own KP3.out BK3.out O7.out)
      clear G3 c3 BK3 T3 AX3 HB3
      have G4 := D.hidIt (keep_up (w.heap.size + 2) (w.heap.size + 1) (M) (W7.heap.size) L4 W4k (.slice g3 1 d3) held4 its4 [ByteArray.mk #[73]] Z4 BK4.out O5.out (by omega) T4.out V5.out (by omega) (by omega) (by decide) (by omega) (by omega))
      go_upto_region 13 with (first | (go_at_call 14; refine G4.out.mono ?_; rintro e Z5 ⟨rfl, Kp4, L5, W5k, held5, its5, hb, hl4, ht⟩; have BK5 := D.hidIt hb; have T5 := D.hidIt ht; have KP4 := D.hidIt Kp4; clear hb ht Kp4))
      have y5 := Nat.le_trans y4 KP4.out.size
      have AX5 := D.hidIt (Kp_blk KP4.out AX4.out (by omega) (by decide))
      have HB5 := D.hidIt (HB4.out.trans (KP4.out.below (show w.heap.size ≤ _ by omega) (by omega) (by omega)))
      have FXk := D.hidIt (Kp_blk KP4.out FXk.out (by omega) (by decide))
      have GXk := D.hidIt (Kp_blk KP4.out GXk.out (by omega) (by decide))
      have HXk := D.hidIt (Kp_blk KP4.out HXk.out (by omega) (by decide))
      have O6 := D.hidIt (Kp_own KP4.out BK4.out O6.out)
      have O7 := D.hidIt (Kp_own KP4.out BK4.out O7.out)
      clear G4  BK4 T4 AX4 HB4
      have G5 := D.hidIt (keep_up (w.heap.size + 2) (w.heap.size + 1) (W7.heap.size) (m3) L5 W5k (.slice r1 k1 s1) held5 its5 l1 Z5 BK5.out O6.out (by omega) T5.out V6.out (by omega) (by omega) (by omega) (by omega) (by omega))
      have c5 := HXk.out.cell 1
      simp at c5
      go_upto_region 14 with (first | (go_at_call 14; refine G5.out.mono ?_; rintro e Z6 ⟨rfl, Kp5, L6, W6k, held6, its6, hb, hl5, ht⟩; have BK6 := D.hidIt hb; have T6 := D.hidIt ht; have KP5 := D.hidIt Kp5; clear hb ht Kp5))
      have y6 := Nat.le_trans y5 KP5.out.size
      have AX6 := D.hidIt (Kp_blk KP5.out AX5.out (by omega) (by decide))
      have HB6 := D.hidIt (HB5.out.trans (KP5.out.below (show w.heap.size ≤ _ by omega) (by omega) (by omega)))
      have FXk := D.hidIt (Kp_blk KP5.out FXk.out (by omega) (by decide))
      have GXk := D.hidIt (Kp_blk KP5.out GXk.out (by omega) (by decide))
      have HXk := D.hidIt (Kp_blk KP5.out HXk.out (by omega) (by decide))
      have O7 := D.hidIt (Kp_own KP5.out BK5.out O7.out)
      clear G5 c5 BK5 T5 AX5 HB5
      have G6 := D.hidIt (keep_up (w.heap.size + 2) (w.heap.size + 1) (m3) (Z0.heap.size) L6 W6k (.slice r2 k2 s2) held6 its6 l2 Z6 BK6.out O7.out (by omega) T6.out V7.out (by omega) (by omega) (by omega) (by omega) (by omega))
      have c6 := HXk.out.cell 2
      simp at c6
      go_wp2_with (first | (go_at_call 14; refine G6.out.mono ?_; rintro e Z7 ⟨rfl, Kp6, L7, W7k, held7, its7, hb, hl6, ht⟩; have BK7 := D.hidIt hb; have T7 := D.hidIt ht; have KP6 := D.hidIt Kp6; clear hb ht Kp6))
      have y7 := Nat.le_trans y6 KP6.out.size
      have AX7 := D.hidIt (Kp_blk KP6.out AX6.out (by omega) (by decide))
      have HB7 := D.hidIt (HB6.out.trans (KP6.out.below (show w.heap.size ≤ _ by omega) (by omega) (by omega)))
      clear G6 c6 BK6 T6 AX6 HB6
      exact ⟨⟨k + 1, L7, W7k, held7, its7, by go_num, by omega, ⟨BK7.out, AX7.out, HB7.out⟩, by omega⟩, by simp [intOf]; omega⟩
    · have hlt' : ¬ (k : Int) < 2 := by omega
      have HA := D.hidIt (BK.apart_any (w.heap.size + 2) (w.heap.size + 1) w.heap.size L W held its wr HI.out.bk (by omega) (by omega) (by omega) (by omega))
      clear x0 x1 x2 hv2
      go_wp2_with (first
        | (go_at_call 15; refine HA.out.mono ?_; rintro e w2 ⟨rfl, b2⟩)
        | (go_at_call 12; refine (known_any _).mono ?_; rintro e w3 ⟨rfl, b3⟩))
      go_ret
      have b4 := HI.out.b.trans b2
      exact ⟨rfl, b4.trans (b3.mono b4.size)⟩
end Go.Proofs.Ytccbgdbipihoaaa.Fr
namespace Go.Proofs.Ytccbgdbipihoaaa.Q
open Go.ChangeShapes Go.WideShapes Go.ChangeAt Go.RowKit
open Go.ChangeMaps (open_string shut_string)

theorem cells3 : Try.prog.cellsOf 3 = 1 := by kernel_rfl
theorem cells9 : Try.prog.cellsOf 9 = 1 := by kernel_rfl
theorem celX72 : Try.prog.cellsOf 24 = 1 := by kernel_rfl
theorem celX74 : Try.prog.cellsOf 34 = 3 := by kernel_rfl
theorem cell_lt {W : World} {b o : Nat} {u : Value} (h : W.cell? ⟨b, o, none⟩ = some u) : b < W.heap.size := by
  apply Nat.lt_of_not_le
  intro hle
  have hn : W.heap[b]? = none := Array.getElem?_eq_none (by omega)
  simp [World.cell?, hn] at h
set_option maxRecDepth 20000 in
theorem trod_list {α : Type} {ST T k : Nat} {R : World → List Value → α → Prop} (hu : Try.prog.underlying ST = some (.slice T)) (hk : Try.prog.cellsOf T = k) (hk0 : 0 < k) {H : Type} {enc : TypeId × Value → H} {W : World} {fuel : Nat} {cs : List Value} {y : DataW H × List MemPlace}
    (one : ∀ (n : Nat) (cs' : List Value) (y' : DataW H × List MemPlace), DataW.trod enc Try.prog W 0 (fun _ => true) true n T cs' = some y' → ∃ x : α, R W cs' x)
    (ht : DataW.trod enc Try.prog W 0 (fun _ => true) true fuel ST cs = some y) : ∃ ao cap l, cs = [.slice ao (List.length l) cap] ∧ LAt k R W ao cap l := by
  rcases DataW.trod_slice hu ht with ⟨rfl, _⟩ | ⟨a, len, cap, elems, rest, n, _, rfl, _, _, hl, hm, hlen, hev, _, _⟩
  · exact ⟨none, 0, [], rfl, LAt.nil _ _ _ _ _ (Nat.zero_le _)⟩
  · by_cases h0 : len = 0
    · subst h0
      exact ⟨some a, cap, [], rfl, LAt.nil _ _ _ _ _ hm⟩
    · obtain ⟨b, o, sp⟩ := a
      rw [hk] at hev
      have hsp : sp = none := by
        have h1 := hev 0 (by omega)
        rw [List.getElem?_eq_getElem (by omega)] at h1
        obtain ⟨cs, hcs, _⟩ := Option.bind_eq_some_iff.1 h1
        unfold World.cells? at hcs
        rw [if_pos (Nat.zero_le _)] at hcs
        obtain ⟨q, _, hq⟩ := Lib.mapM_at hcs 0 0 (by rw [List.getElem?_range hk0])
        have e : ((⟨b, o, sp⟩ : Addr).add (0 * k)).add 0 = ⟨b, o, sp⟩ := by simp [Addr.add]
        rw [e] at hq
        exact cell_spot hq
      subst hsp
      have hone : ∀ i, i < len → ∃ p : List Value × α, R W p.1 p.2 ∧ ∀ j u, p.1[j]? = some u → W.cell? ⟨b, o + i * k + j, none⟩ = some u := by
        intro i hi
        have h1 := hev i hi
        rw [List.getElem?_eq_getElem (by omega), addr_add] at h1
        obtain ⟨cs, hcs, h2⟩ := Option.bind_eq_some_iff.1 h1
        obtain ⟨x, hx⟩ := one _ _ _ h2
        refine ⟨(cs, x), hx, fun j u hj => ?_⟩
        unfold World.cells? at hcs
        rw [if_pos (Nat.zero_le _)] at hcs
        have hjk : j < k := by
          have h3 := (List.getElem?_eq_some_iff.1 hj).1
          have h4 := Lib.mapM_length hcs
          simp only at h3
          simpa [h4] using h3
        obtain ⟨q, hq, hf⟩ := Lib.mapM_at hcs j j (by rw [List.getElem?_range hjk])
        simp only at hj
        rw [hq] at hj
        cases hj
        rwa [addr_add] at hf
      have hch : ∃ f : Nat → List Value × α, ∀ i, i < len → R W (f i).1 (f i).2 ∧ ∀ j u, (f i).1[j]? = some u → W.cell? ⟨b, o + i * k + j, none⟩ = some u :=
        ⟨fun i => if h : i < len then Classical.choose (hone i h) else Classical.choose (hone 0 (by omega)), fun i hi => by
          simp only [dif_pos hi]; exact Classical.choose_spec (hone i hi)⟩
      obtain ⟨f, hf⟩ := hch
      have hb : b < W.heap.size := by
        have h1 := hev 0 (by omega)
        rw [List.getElem?_eq_getElem (by omega), addr_add] at h1
        obtain ⟨cs, hcs, _⟩ := Option.bind_eq_some_iff.1 h1
        unfold World.cells? at hcs
        rw [if_pos (Nat.zero_le _)] at hcs
        obtain ⟨q, _, hq⟩ := Lib.mapM_at hcs 0 0 (by rw [List.getElem?_range hk0])
        rw [addr_add] at hq
        exact cell_lt hq
      refine ⟨some ⟨b, o, none⟩, cap, (List.range len).map (fun i => (f i).2), by simp, by simpa using hl, hm, fun i => (f i).1, fun _ => ⟨b, o, rfl, hb, fun j hj => (hf j (by simpa using hj)).2⟩, fun i x hx => ?_⟩
      simp only [List.getElem?_map, Option.map_eq_some_iff] at hx
      obtain ⟨j, hj, rfl⟩ := hx
      have hil : i < len := by have := (List.getElem?_eq_some_iff.1 hj).1; simpa using this
      rw [List.getElem?_range hil] at hj
      cases hj
      exact (hf i hil).1
set_option maxRecDepth 20000 in
theorem trod_text {H : Type} {enc : TypeId × Value → H} {W : World} (fuel : Nat) (cs : List Value) (y : DataW H × List MemPlace)
    (ht : DataW.trod enc Try.prog W 0 (fun _ => true) true fuel 9 cs = some y) : ∃ s : ByteArray, TextR W cs s := by
  obtain ⟨s, rfl, -, m⟩ := DataW.trod_string Try.underlying9 ht
  unfold maxLen at m
  exact ⟨s, rfl, m⟩
end Go.Proofs.Ytccbgdbipihoaaa.Q
namespace Go.Proofs.Ytccbgdbipihoaaa.Fr
open Go.ChangeShapes Go.WideShapes Go.ChangeAt Go.RowKit Q Q.D

theorem bytes9 : Try.prog.bytesOf 9 = 16 := by kernel_rfl
set_option maxRecDepth 20000 in
theorem trod_texts {H : Type} {enc : TypeId × Value → H} {W : World} {fuel : Nat} {k : Value} {y : DataW H × List MemPlace}
    (ht : DataW.trod enc Try.prog W 0 (fun _ => true) true fuel 24 [k] = some y) (hr : ∀ x ∈ DataW.weights Try.prog 24 y.1, x ≤ reachBytes) : ∃ ao c l, k = .slice ao (List.length l) c ∧ LAt 1 TextR W ao c l ∧ l.length ≤ 8796093021952 := by
  obtain ⟨ao, c, l, e, L⟩ := trod_list (R := TextR) Try.underlying24 cells9 (by decide) trod_text ht
  simp only [List.cons.injEq, and_true] at e
  subst e
  refine ⟨ao, c, l, rfl, L, ?_⟩
  rcases DataW.trod_slice Try.underlying24 ht with ⟨e, _⟩ | ⟨a, len, cap, elems, rest, n, _, e, hy, _, hl, hm, hlen, _⟩
  · simp only [List.cons.injEq, Value.slice.injEq, and_true] at e
    omega
  · simp only [List.cons.injEq, Value.slice.injEq, and_true] at e
    have := hr ((elems.length + rest.length) * 16) (by
      rw [hy]
      simp only [DataW.weights]
      rw [Try.underlying24]
      simp only [List.mem_cons, List.length_map, bytes9]
      left
      trivial)
    unfold reachBytes at this
    omega
set_option maxRecDepth 20000 in
theorem open_frame {H : Type} {enc : TypeId × Value → H} {W : World} {base : Nat} {v : Value} {d : DataW H} {p : List MemPlace} (hval : Value.okWide Try.prog W .any base 34 v)
    (h : DataW.Trod enc Try.prog W 0 (fun _ => true) true 34 v d p) (hr : ∀ x ∈ DataW.weights Try.prog 34 d, x ≤ reachBytes) : ∃ f : RD, FrV W v f ∧ f.loc.length ≤ 8796093021952 ∧ f.stk.length ≤ 8796093021952 := by
  obtain ⟨cs, rfl, hcs⟩ := okWide_struct Try.underlying34 hval
  obtain ⟨fuel, hf⟩ := h
  rw [show (Value.agg cs).cells = cs from rfl] at hf
  obtain ⟨xs, n, -, hx, hl, hxl, hall⟩ := DataW.trod_struct Try.underlying34 hf
  rw [celX74] at hl
  have hxl5 : xs.length = 3 := by simpa using hxl
  obtain ⟨cs⟩ := cs
  simp only at hl hall ⊢
  match cs, hl with
  | [k0, k1, k2], _ =>
    match xs, hxl5 with
    | [x0, x1, x2], _ =>
      have t0 : DataW.trod enc Try.prog W 0 (fun _ => true) true n 3 [k0] = some x0 := by simpa [cells3] using hall 0 _ rfl
      have t1 : DataW.trod enc Try.prog W 0 (fun _ => true) true n 24 [k1] = some x1 := by simpa [celX72] using hall 1 _ rfl
      have t2 : DataW.trod enc Try.prog W 0 (fun _ => true) true n 24 [k2] = some x2 := by simpa [celX72] using hall 2 _ rfl
      have hd : d = .agg [x0.1, x1.1, x2.1] := by
        have := congrArg Prod.fst hx
        simpa using this
      have hw : DataW.weights Try.prog 34 d = x0.1.weights Try.prog 3 ++ (x1.1.weights Try.prog 24 ++ (x2.1.weights Try.prog 24 ++ [])) := by
        rw [hd]
        simp only [DataW.weights]
        rw [Try.underlying34]
        rfl
      rw [hw] at hr
      obtain ⟨n0, e0, -, -⟩ := DataW.trod_int Try.underlying3 t0
      obtain ⟨ao1, c1, l1, e1, L1, z1⟩ := trod_texts t1 (fun x hx => hr x (by simp [hx]))
      obtain ⟨ao2, c2, l2, e2, L2, z2⟩ := trod_texts t2 (fun x hx => hr x (by simp [hx]))
      simp only [List.cons.injEq, and_true] at e0
      subst e0 e1 e2
      exact ⟨⟨n0, l1, l2⟩, ⟨ao1, c1, ao2, c2, rfl, L1, L2⟩, z1, z2⟩
end Go.Proofs.Ytccbgdbipihoaaa.Fr
