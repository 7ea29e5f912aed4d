/- Methods, written. -/
import Derived.Test.YthagaldpopnoeaaGreatDoorCY
import Derived.Deep.RegionHeld3
namespace Go.Proofs.YthagaldpopnoeaaGreatDoor
open Go.RowKit D

/-- What can be written: texts that are not too long for a machine. -/
def MD.Small (m : MD) : Prop := m.nm.size ≤ 17179869184 ∧ m.ds.size ≤ 17179869184 ∧ (∀ h ∈ m.hs, h.ty.size ≤ 17179869184) ∧ ∀ f ∈ m.rs, (∀ s ∈ f.loc, s.size ≤ 17179869184) ∧ ∀ s ∈ f.stk, s.size ≤ 17179869184
theorem or12 (a b : Bool) : bits .or .i64 (if a = true then 1 else 0) (if b = true then 2 else 0) = fl2 a b := by cases a <;> cases b <;> decide
set_option maxRecDepth 8000 in
set_option maxHeartbeats 4000000 in
theorem one_meth (w0 : World) (pw : Nat) (f : MD) (hs : f.Small) : OneM w0 pw methO f := by
  intro W L o1 c1 o2 c2 o3 c3 hR hW hlen
  obtain ⟨p1, q1, p2, q2, p3, q3, e, _, _, vc, kh, kr⟩ := hR
  simp only [List.cons.injEq, Value.slice.injEq] at e
  obtain ⟨_, _, _, _, _, _, ⟨rfl, _, rfl⟩, ⟨rfl, _, rfl⟩, ⟨rfl, _, rfl⟩, _⟩ := e
  obtain ⟨z1, z2, z3, z4⟩ := hs
  unfold methO at *
  have e1 := D.hidIt (or12 f.st f.nat)
  have g1 := fun W (h : WR w0 pw W L) => D.hidIt (wr_text w0 pw L f.nm W h (by simp only [List.length_append] at hlen; omega) z1)
  have g2 := fun W (h : WR w0 pw W (L ++ wtextZ f.nm)) => D.hidIt (wr_text w0 pw _ f.ds W h (by simp only [List.length_append] at hlen ⊢; omega) z2)
  have g3 := fun W (h : WR w0 pw W (L ++ wtextZ f.nm ++ wtextZ f.ds)) => D.hidIt (wr_byte w0 pw _ (fl2 f.st f.nat) W h (by simp only [List.length_append] at hlen ⊢; omega))
  have g4 := fun W (h : WR w0 pw W (L ++ wtextZ f.nm ++ wtextZ f.ds ++ be (fl2 f.st f.nat) 1)) => D.hidIt (wr_byte w0 pw _ f.stk W h (by simp only [List.length_append] at hlen ⊢; omega))
  have g5 := fun W (h : WR w0 pw W (L ++ wtextZ f.nm ++ wtextZ f.ds ++ be (fl2 f.st f.nat) 1 ++ be f.stk 1)) => D.hidIt (wr_byte w0 pw _ f.loc W h (by simp only [List.length_append] at hlen ⊢; omega))
  have g6 := fun W (h : WR w0 pw W (L ++ wtextZ f.nm ++ wtextZ f.ds ++ be (fl2 f.st f.nat) 1 ++ be f.stk 1 ++ be f.loc 1)) => D.hidIt (wr_pair w0 pw _ (f.code.length : Nat) W h (by simp only [List.length_append] at hlen ⊢; omega))
  have g7 := fun W (h : WR w0 pw W (L ++ wtextZ f.nm ++ wtextZ f.ds ++ be (fl2 f.st f.nat) 1 ++ be f.stk 1 ++ be f.loc 1 ++ be (f.code.length : Nat) 2)) => D.hidIt (wr_bytes w0 pw _ f.code _ W h (vc.below h.bel) (by simp only [List.length_append] at hlen ⊢; omega))
  have g8 := fun W (h : WR w0 pw W (L ++ wtextZ f.nm ++ wtextZ f.ds ++ be (fl2 f.st f.nat) 1 ++ be f.stk 1 ++ be f.loc 1 ++ be (f.code.length : Nat) 2 ++ f.code)) => D.hidIt (wr_listH w0 pw handO f.hs o2 c2 kh (fun x hx => one_hand w0 pw x (z3 x hx)) _ W h (by have := hlen; unfold handsO at this; simp only [List.length_append] at this ⊢; omega))
  have g9 := fun W (h : WR w0 pw W (L ++ wtextZ f.nm ++ wtextZ f.ds ++ be (fl2 f.st f.nat) 1 ++ be f.stk 1 ++ be f.loc 1 ++ be (f.code.length : Nat) 2 ++ f.code ++ handsO f.hs)) => D.hidIt (wr_listR w0 pw frameO f.rs o3 c3 kr (fun x hx => one_frame w0 pw x (z4 x hx)) _ W h (by have := hlen; unfold framesO at this; simp only [List.length_append] at this ⊢; omega))
  change ∀ W, _ → Hid (Calls _ _ _ _ fun e w' => _ ∧ WR _ _ _ (_ ++ handsO f.hs) ∧ _) at g8
  change ∀ W, _ → Hid (Calls _ _ _ _ fun e w' => _ ∧ WR _ _ _ (_ ++ framesO f.rs) ∧ _) at g9
  have gf1 := fun W => D.hidIt (flag_any f.st 1 W)
  have gf2 := fun W => D.hidIt (flag_any f.nat 2 W)
  clear hlen z1 z2 z3 z4 vc kh kr
  generalize wtextZ f.nm = X1 at *
  generalize wtextZ f.ds = X2 at *
  generalize handsO f.hs = X3 at *
  generalize framesO f.rs = X4 at *
  generalize fl2 f.st f.nat = F at *
  generalize (if f.st = true then (1 : Int) else 0) = F1 at *
  generalize (if f.nat = true then (2 : Int) else 0) = F2 at *
  generalize f.code.length = n1 at *
  generalize f.hs.length = n2 at *
  generalize f.rs.length = n3 at *
  obtain ⟨nm, ds, st, nat, stk, loc, code, hh, rr⟩ := f
  simp only at *
  have hA := hW.below (balloc W (.cells #[.pointer (some ⟨pw, 0, none⟩)] 92))
  have hB := hA.below (balloc _ (.cells #[.string nm, .string ds, .bool st, .bool nat, .int .i64 stk, .int .i64 loc, .slice o1 n1 c1, .slice o2 n2 c2, .slice o3 n3 c3] 26))
  have bx1 := (Keeps.new hW (.cells #[.pointer (some ⟨pw, 0, none⟩)] 92)).step (WS.of_below hA.lt (balloc _ (.cells #[.string nm, .string ds, .bool st, .bool nat, .int .i64 stk, .int .i64 loc, .slice o1 n1 c1, .slice o2 n2 c2, .slice o3 n3 c3] 26)))
  have bx2 := Keeps.new hA (.cells #[.string nm, .string ds, .bool st, .bool nat, .int .i64 stk, .int .i64 loc, .slice o1 n1 c1, .slice o2 n2 c2, .slice o3 n3 c3] 26)
  rw [show (W.alloc (.cells #[.pointer (some ⟨pw, 0, none⟩)] 92)).heap.size = W.heap.size + 1 by simp] at bx2
  have S0 := D.hidIt ((WS.of_below hW.lt (balloc W (.cells #[.pointer (some ⟨pw, 0, none⟩)] 92))).trans (WS.of_below hA.lt (balloc _ (.cells #[.string nm, .string ds, .bool st, .bool nat, .int .i64 stk, .int .i64 loc, .slice o1 n1 c1, .slice o2 n2 c2, .slice o3 n3 c3] 26))))
  have HB := D.hidIt hB
  have K1 := D.hidIt bx1
  have K2 := D.hidIt bx2
  clear hA hB hW bx1 bx2
  unfold wv ptr at *
  go_enter Tryz.func94, Tryz.ntmps94
  go_wp2_with fail
  refine (g1 _ HB.out).out.mono ?_
  rintro e w1 ⟨rfl, h1, s1⟩
  have H1 := D.hidIt h1
  have S1 := D.hidIt s1
  clear h1 s1 g1
  have k1 := K1.out.step (S1.out)
  have k2 := K2.out.step (S1.out)
  have a1 := cell_row k1.1 0 rfl
  have b1 := cell_row k2.1 1 rfl
  clear k1 k2
  go_wp2_with fail
  refine (g2 _ H1.out).out.mono ?_
  rintro e w2 ⟨rfl, h2, s2⟩
  have H2 := D.hidIt h2
  have S2 := D.hidIt s2
  clear a1 b1
  clear h2 s2 g2
  have k1 := K1.out.step ((S1.out).trans S2.out)
  have k2 := K2.out.step ((S1.out).trans S2.out)
  have a1 := cell_row k1.1 0 rfl
  have b2 := cell_row k2.1 2 rfl
  have b3 := cell_row k2.1 3 rfl
  clear k1 k2
  have g3' := g3 w2.drew (H2.out.below (below_drewN (Below.refl _ _) 1))
  have e1' := e1.out
  have hS2 : Hid (w2.drew.cell? ⟨W.heap.size, 0, none⟩ = some (.pointer (some ⟨pw, 0, none⟩)) ∧ w2.drew.cell? ⟨W.heap.size + 1, 2, none⟩ = some (.bool st) ∧ w2.drew.cell? ⟨W.heap.size + 1, 3, none⟩ = some (.bool nat)) := ⟨a1, b2, b3⟩
  have hS3 : Hid (∀ W3, WS pw w2.drew W3 → (W3.cell? ⟨W.heap.size, 0, none⟩ = some (.pointer (some ⟨pw, 0, none⟩)) ∧ W3.cell? ⟨W.heap.size + 1, 2, none⟩ = some (.bool st) ∧ W3.cell? ⟨W.heap.size + 1, 3, none⟩ = some (.bool nat))) := by
    intro W3 h
    have hd : WS pw w2 W3 := (WS.of_below H2.out.lt (below_drewN (Below.refl _ _) 1)).trans h
    have k1 := K1.out.step ((S1.out.trans S2.out).trans hd)
    have k2 := K2.out.step ((S1.out.trans S2.out).trans hd)
    exact ⟨cell_row k1.1 0 rfl, cell_row k2.1 2 rfl, cell_row k2.1 3 rfl⟩
  clear a1 b2 b3
  go_wp2_with fail
  go_region_held3 (fun W' => W'.cell? ⟨W.heap.size, 0, none⟩ = some (.pointer (some ⟨pw, 0, none⟩)) ∧ W'.cell? ⟨W.heap.size + 1, 2, none⟩ = some (.bool st) ∧ W'.cell? ⟨W.heap.size + 1, 3, none⟩ = some (.bool nat)) (first | exact hS2.out | exact hS3.out _ (by assumption))
    (first
      | (go_at_call 134; refine (gf1 _).out.mono ?_; rintro e wz ⟨rfl, hww⟩; cases hww)
      | (go_at_call 134; refine (gf2 _).out.mono ?_; rintro e wz ⟨rfl, hww⟩; cases hww)
      | (go_at_call 133; refine g3'.out.mono ?_; rintro e w3 ⟨rfl, h3, s3⟩))
  have H3 := D.hidIt h3
  have S3 := D.hidIt ((WS.of_below H2.out.lt (below_drewN (Below.refl _ _) 1)).trans s3)
  clear h3 s3 g3 g3' hS2 hS3
  have k1 := K1.out.step ((S1.out.trans S2.out).trans S3.out)
  have k2 := K2.out.step ((S1.out.trans S2.out).trans S3.out)
  have a1 := cell_row k1.1 0 rfl
  have b4 := cell_row k2.1 4 rfl
  clear k1 k2
  go_wp2_with fail
  refine (g4 _ H3.out).out.mono ?_
  rintro e w4 ⟨rfl, h4, s4⟩
  have H4 := D.hidIt h4
  have S4 := D.hidIt s4
  clear a1 b4
  clear h4 s4 g4
  have k1 := K1.out.step ((((S1.out).trans S2.out).trans S3.out).trans S4.out)
  have k2 := K2.out.step ((((S1.out).trans S2.out).trans S3.out).trans S4.out)
  have a1 := cell_row k1.1 0 rfl
  have b5 := cell_row k2.1 5 rfl
  clear k1 k2
  go_wp2_with fail
  refine (g5 _ H4.out).out.mono ?_
  rintro e w5 ⟨rfl, h5, s5⟩
  have H5 := D.hidIt h5
  have S5 := D.hidIt s5
  clear a1 b5
  clear h5 s5 g5
  have k1 := K1.out.step (((((S1.out).trans S2.out).trans S3.out).trans S4.out).trans S5.out)
  have k2 := K2.out.step (((((S1.out).trans S2.out).trans S3.out).trans S4.out).trans S5.out)
  have a1 := cell_row k1.1 0 rfl
  have b6 := cell_row k2.1 6 rfl
  clear k1 k2
  go_wp2_with fail
  refine (g6 _ H5.out).out.mono ?_
  rintro e w6 ⟨rfl, h6, s6⟩
  have H6 := D.hidIt h6
  have S6 := D.hidIt s6
  clear a1 b6
  clear h6 s6 g6
  have k1 := K1.out.step ((((((S1.out).trans S2.out).trans S3.out).trans S4.out).trans S5.out).trans S6.out)
  have k2 := K2.out.step ((((((S1.out).trans S2.out).trans S3.out).trans S4.out).trans S5.out).trans S6.out)
  have a1 := cell_row k1.1 0 rfl
  have b6 := cell_row k2.1 6 rfl
  clear k1 k2
  go_wp2_with fail
  refine (g7 _ H6.out).out.mono ?_
  rintro e w7 ⟨rfl, h7, s7⟩
  have H7 := D.hidIt h7
  have S7 := D.hidIt s7
  clear a1 b6
  clear h7 s7 g7
  have k1 := K1.out.step (((((((S1.out).trans S2.out).trans S3.out).trans S4.out).trans S5.out).trans S6.out).trans S7.out)
  have k2 := K2.out.step (((((((S1.out).trans S2.out).trans S3.out).trans S4.out).trans S5.out).trans S6.out).trans S7.out)
  have a1 := cell_row k1.1 0 rfl
  have b7 := cell_row k2.1 7 rfl
  clear k1 k2
  go_wp2_with fail
  refine (g8 _ H7.out).out.mono ?_
  rintro e w8 ⟨rfl, h8, s8⟩
  have H8 := D.hidIt h8
  have S8 := D.hidIt s8
  clear a1 b7
  clear h8 s8 g8
  have k1 := K1.out.step ((((((((S1.out).trans S2.out).trans S3.out).trans S4.out).trans S5.out).trans S6.out).trans S7.out).trans S8.out)
  have k2 := K2.out.step ((((((((S1.out).trans S2.out).trans S3.out).trans S4.out).trans S5.out).trans S6.out).trans S7.out).trans S8.out)
  have a1 := cell_row k1.1 0 rfl
  have b8 := cell_row k2.1 8 rfl
  clear k1 k2
  go_wp2_with fail
  refine (g9 _ H8.out).out.mono ?_
  rintro e w9 ⟨rfl, h9, s9⟩
  have H9 := D.hidIt h9
  have S9 := D.hidIt s9
  clear h9 s9 g9
  go_wp2
  go_end0
  exact ⟨rfl, by have := H9.out; simpa only [List.append_assoc] using this, S0.out.trans ((((((((S1.out.trans S2.out).trans S3.out).trans S4.out).trans S5.out).trans S6.out).trans S7.out).trans S8.out).trans S9.out)⟩
end Go.Proofs.YthagaldpopnoeaaGreatDoor
