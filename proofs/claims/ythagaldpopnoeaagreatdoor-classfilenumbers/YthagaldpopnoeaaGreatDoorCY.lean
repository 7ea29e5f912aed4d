/- Fields and handlers, written. -/
import Derived.Test.YthagaldpopnoeaaGreatDoorCX
namespace Go.Proofs.YthagaldpopnoeaaGreatDoor
open Go.RowKit D

set_option maxRecDepth 8000 in
set_option maxHeartbeats 2000000 in
theorem one_hand (w0 : World) (pw : Nat) (f : HD) (hs : f.ty.size ≤ 17179869184) : OneH w0 pw handO f := by
  intro W L hR hW hlen
  clear hR
  unfold handO at *
  have g1 := fun W (h : WR w0 pw W L) => D.hidIt (wr_pair w0 pw L f.fr W h (by simp only [List.length_append] at hlen; omega))
  have g2 := fun W (h : WR w0 pw W (L ++ be f.fr 2)) => D.hidIt (wr_pair w0 pw _ f.tO W h (by simp only [List.length_append] at hlen ⊢; omega))
  have g3 := fun W (h : WR w0 pw W (L ++ be f.fr 2 ++ be f.tO 2)) => D.hidIt (wr_pair w0 pw _ f.aT W h (by simp only [List.length_append] at hlen ⊢; omega))
  have g4 := fun W (h : WR w0 pw W (L ++ be f.fr 2 ++ be f.tO 2 ++ be f.aT 2)) => D.hidIt (wr_text w0 pw _ f.ty W h (by simp only [List.length_append] at hlen ⊢; omega) hs)
  clear hlen hs
  generalize wtextZ f.ty = X1 at *
  obtain ⟨fr, tO, aT, ty⟩ := f
  simp only at *
  have hA := hW.below (balloc W (.cells #[.pointer (some ⟨pw, 0, none⟩)] 92))
  have hB := hA.below (balloc _ (.cells #[.int .i64 fr, .int .i64 tO, .int .i64 aT, .string ty] 71))
  have bx1 := (Keeps.new hW (.cells #[.pointer (some ⟨pw, 0, none⟩)] 92)).step (WS.of_below hA.lt (balloc _ (.cells #[.int .i64 fr, .int .i64 tO, .int .i64 aT, .string ty] 71)))
  have bx2 := Keeps.new hA (.cells #[.int .i64 fr, .int .i64 tO, .int .i64 aT, .string ty] 71)
  rw [show (W.alloc (.cells #[.pointer (some ⟨pw, 0, none⟩)] 92)).heap.size = W.heap.size + 1 by simp] at bx2
  have S0 := D.hidIt ((WS.of_below hW.lt (balloc W (.cells #[.pointer (some ⟨pw, 0, none⟩)] 92))).trans (WS.of_below hA.lt (balloc _ (.cells #[.int .i64 fr, .int .i64 tO, .int .i64 aT, .string ty] 71))))
  have HB := D.hidIt hB
  have K1 := D.hidIt bx1
  have K2 := D.hidIt bx2
  clear hA hB hW bx1 bx2
  unfold wv ptr at *
  go_enter Tryz.func137, Tryz.ntmps137
  go_wp2_with fail
  refine (g1 _ HB.out).out.mono ?_
  rintro e w1 ⟨rfl, h1, s1⟩
  have H1 := D.hidIt h1
  have S1 := D.hidIt s1
  clear h1 s1 g1
  have k1 := K1.out.step (S1.out)
  have k2 := K2.out.step (S1.out)
  have a1 := cell_row k1.1 0 rfl
  have b1 := cell_row k2.1 1 rfl
  clear k1 k2
  go_wp2_with fail
  refine (g2 _ H1.out).out.mono ?_
  rintro e w2 ⟨rfl, h2, s2⟩
  have H2 := D.hidIt h2
  have S2 := D.hidIt s2
  clear a1 b1
  clear h2 s2 g2
  have k1 := K1.out.step ((S1.out).trans S2.out)
  have k2 := K2.out.step ((S1.out).trans S2.out)
  have a1 := cell_row k1.1 0 rfl
  have b2 := cell_row k2.1 2 rfl
  clear k1 k2
  go_wp2_with fail
  refine (g3 _ H2.out).out.mono ?_
  rintro e w3 ⟨rfl, h3, s3⟩
  have H3 := D.hidIt h3
  have S3 := D.hidIt s3
  clear a1 b2
  clear h3 s3 g3
  have k1 := K1.out.step (((S1.out).trans S2.out).trans S3.out)
  have k2 := K2.out.step (((S1.out).trans S2.out).trans S3.out)
  have a1 := cell_row k1.1 0 rfl
  have b3 := cell_row k2.1 3 rfl
  clear k1 k2
  go_wp2_with fail
  refine (g4 _ H3.out).out.mono ?_
  rintro e w4 ⟨rfl, h4, s4⟩
  have H4 := D.hidIt h4
  have S4 := D.hidIt s4
  clear h4 s4 g4
  go_wp2
  go_end0
  exact ⟨rfl, by have := H4.out; simpa only [List.append_assoc] using this, S0.out.trans (S1.out.trans (S2.out.trans (S3.out.trans S4.out)))⟩

set_option maxRecDepth 8000 in
set_option maxHeartbeats 4000000 in
theorem one_field (w0 : World) (pw : Nat) (f : FD) (hs : f.nm.size ≤ 17179869184 ∧ f.ds.size ≤ 17179869184) : OneF w0 pw fieldO f := by
  intro W L hR hW hlen
  clear hR
  unfold fieldO at *
  have g1 := fun W (h : WR w0 pw W L) => D.hidIt (wr_text w0 pw L f.nm W h (by simp only [List.length_append] at hlen; omega) hs.1)
  have g2 := fun W (h : WR w0 pw W (L ++ wtextZ f.nm)) => D.hidIt (wr_text w0 pw _ f.ds W h (by simp only [List.length_append] at hlen ⊢; omega) hs.2)
  have g3 := fun W (h : WR w0 pw W (L ++ wtextZ f.nm ++ wtextZ f.ds)) => D.hidIt (wr_byte w0 pw _ (fl1 f.st) W h (by simp only [List.length_append] at hlen ⊢; omega))
  have gf := fun W => D.hidIt (flag_any f.st 1 W)
  clear hlen hs
  generalize wtextZ f.nm = X1 at *
  generalize wtextZ f.ds = X2 at *
  unfold fl1 at *
  generalize (if f.st = true then (1 : Int) else 0) = fl at *
  obtain ⟨nm, ds, st⟩ := f
  simp only at *
  have hA := hW.below (balloc W (.cells #[.pointer (some ⟨pw, 0, none⟩)] 92))
  have hB := hA.below (balloc _ (.cells #[.string nm, .string ds, .bool st] 63))
  have bx1 := (Keeps.new hW (.cells #[.pointer (some ⟨pw, 0, none⟩)] 92)).step (WS.of_below hA.lt (balloc _ (.cells #[.string nm, .string ds, .bool st] 63)))
  have bx2 := Keeps.new hA (.cells #[.string nm, .string ds, .bool st] 63)
  rw [show (W.alloc (.cells #[.pointer (some ⟨pw, 0, none⟩)] 92)).heap.size = W.heap.size + 1 by simp] at bx2
  have S0 := D.hidIt ((WS.of_below hW.lt (balloc W (.cells #[.pointer (some ⟨pw, 0, none⟩)] 92))).trans (WS.of_below hA.lt (balloc _ (.cells #[.string nm, .string ds, .bool st] 63))))
  have HB := D.hidIt hB
  have K1 := D.hidIt bx1
  have K2 := D.hidIt bx2
  clear hA hB hW bx1 bx2
  unfold wv ptr at *
  go_enter Tryz.func92, Tryz.ntmps92
  go_wp2_with fail
  refine (g1 _ HB.out).out.mono ?_
  rintro e w1 ⟨rfl, h1, s1⟩
  have H1 := D.hidIt h1
  have S1 := D.hidIt s1
  clear h1 s1 g1
  have k1 := K1.out.step (S1.out)
  have k2 := K2.out.step (S1.out)
  have a1 := cell_row k1.1 0 rfl
  have b1 := cell_row k2.1 1 rfl
  clear k1 k2
  go_wp2_with fail
  refine (g2 _ H1.out).out.mono ?_
  rintro e w2 ⟨rfl, h2, s2⟩
  have H2 := D.hidIt h2
  have S2 := D.hidIt s2
  clear a1 b1
  clear h2 s2 g2
  have k1 := K1.out.step ((S1.out).trans S2.out)
  have k2 := K2.out.step ((S1.out).trans S2.out)
  have a1 := cell_row k1.1 0 rfl
  have b2 := cell_row k2.1 2 rfl
  clear k1 k2
  have g3' := fun q => g3 (w2.drewN q) (H2.out.below (below_drewN (Below.refl _ _) q))
  clear g3
  go_wp2_with fail
  go_region_with (first | (go_at_call 134; refine (gf _).out.mono ?_; rintro e wz ⟨rfl, hww⟩; cases hww) | (go_at_call 133; refine (g3' _).out.mono ?_; rintro e w3 ⟨rfl, h3, s3⟩))
  all_goals
    have H3 := D.hidIt h3
    have S3 := D.hidIt ((WS.of_below H2.out.lt (below_drewN (Below.refl _ _) _)).trans s3)
    clear h3 s3
    go_wp2
    go_end0
    exact ⟨rfl, by have := H3.out; simpa only [List.append_assoc] using this, S0.out.trans (S1.out.trans (S2.out.trans S3.out))⟩
end Go.Proofs.YthagaldpopnoeaaGreatDoor
