import Derived.Test.YthagaldpopnoeaaGreatDoorCW
import Derived.Deep.QuietTactic
import Derived.BigQuiet
import Derived.Deep.RegionHeld3

/- Fields, handlers and frames, written. -/
namespace Go.Proofs.YthagaldpopnoeaaGreatDoor
open Go.RowKit D

def fl1 (b : Bool) : Int := if b then 1 else 0
def fl2 (a b : Bool) : Int := (if a then 1 else 0) + (if b then 2 else 0)
def fieldO (f : FD) : List Int := wtextZ f.nm ++ wtextZ f.ds ++ be (fl1 f.st) 1
def handO (h : HD) : List Int := be h.fr 2 ++ be h.tO 2 ++ be h.aT 2 ++ wtextZ h.ty
def textsO (l : List ByteArray) : List Int := be (l.length : Nat) 1 ++ l.flatMap wtextZ
def frameO (f : RD) : List Int := be f.aT 2 ++ textsO f.loc ++ textsO f.stk
def handsO (l : List HD) : List Int := be (l.length : Nat) 1 ++ l.flatMap handO
def framesO (l : List RD) : List Int := be (l.length : Nat) 1 ++ l.flatMap frameO
def methO (m : MD) : List Int := wtextZ m.nm ++ wtextZ m.ds ++ be (fl2 m.st m.nat) 1 ++ be m.stk 1 ++ be m.loc 1 ++ be (m.code.length : Nat) 2 ++ m.code ++ handsO m.hs ++ framesO m.rs
def fieldsO (l : List FD) : List Int := be (l.length : Nat) 1 ++ l.flatMap fieldO
def methsO (l : List MD) : List Int := be (l.length : Nat) 1 ++ l.flatMap methO
def classO (k : KD) : List Int := [202, 254, 186, 190, 0, 1] ++ poolZ k.pool ++ wtextZ k.nm ++ wtextZ k.sup ++ fieldsO k.fs ++ methsO k.ms

theorem cell_row {w : World} {b : Nat} {cs : Array Value} {T : TypeId} (h : w.heap[b]? = some (.cells cs T (0, 0))) (j : Nat) {v : Value} (hv : cs[j]? = some v) : w.cell? ⟨b, j, none⟩ = some v := by
  rw [cell_of_row _ _ _ _ T (0, 0) h]; exact hv
theorem wr_texts (w0 : World) (pw : Nat) (xs : List ByteArray) (ao : Option Addr) (c : Nat) (hL : LAt 1 TextR w0 ao c xs) (hs : ∀ s ∈ xs, s.size ≤ 17179869184) (l : List Int) (w : World) (h : WR w0 pw w l) (hlen : (l ++ textsO xs).length ≤ 137438953472) :
    Calls Tryz.prog 170 #[wv pw, .slice ao xs.length c, .func (.func 90) #[ptr pw] #[]] w fun e w' => e = .returned (.tuple #[]) ∧ WR w0 pw w' (l ++ textsO xs) ∧ WS pw w w' :=
  wr_listS w0 pw wtextZ xs ao c hL (fun x hx W L _ hW hl => wr_text w0 pw L x W hW (by rw [List.length_append] at hl; omega) (hs x hx)) l w h hlen

set_option maxRecDepth 8000 in
set_option maxHeartbeats 2000000 in
theorem one_frame (w0 : World) (pw : Nat) (f : RD) (hs : (∀ s ∈ f.loc, s.size ≤ 17179869184) ∧ ∀ s ∈ f.stk, s.size ≤ 17179869184) : OneR w0 pw frameO f := by
  intro W L o1 c1 o2 c2 hR hW hlen
  obtain ⟨p1, q1, p2, q2, e, k1, k2⟩ := hR
  simp only [List.cons.injEq, Value.slice.injEq] at e
  obtain ⟨_, ⟨rfl, _, rfl⟩, ⟨rfl, _, rfl⟩, _⟩ := e
  unfold frameO at *
  have g1 := fun W (h : WR w0 pw W L) => D.hidIt (wr_pair w0 pw L f.aT W h (by simp only [List.length_append] at hlen; omega))
  have g2 := fun W (h : WR w0 pw W (L ++ be f.aT 2)) => D.hidIt (wr_texts w0 pw f.loc o1 c1 k1 hs.1 _ W h (by simp only [List.length_append] at hlen ⊢; omega))
  have g3 := fun W (h : WR w0 pw W (L ++ be f.aT 2 ++ textsO f.loc)) => D.hidIt (wr_texts w0 pw f.stk o2 c2 k2 hs.2 _ W h (by simp only [List.length_append] at hlen ⊢; omega))
  clear hlen hs k1 k2
  generalize textsO f.loc = X1 at *
  generalize textsO f.stk = X2 at *
  generalize f.loc.length = n1 at *
  generalize f.stk.length = n2 at *
  obtain ⟨aT, loc, stk⟩ := f
  simp only at *
  have hA := hW.below (balloc W (.cells #[.pointer (some ⟨pw, 0, none⟩)] 92))
  have hB := hA.below (balloc _ (.cells #[.int .i64 aT, .slice o1 n1 c1, .slice o2 n2 c2] 74))
  have bx1 := (Keeps.new hW (.cells #[.pointer (some ⟨pw, 0, none⟩)] 92)).step (WS.of_below hA.lt (balloc _ (.cells #[.int .i64 aT, .slice o1 n1 c1, .slice o2 n2 c2] 74)))
  have bx2 := Keeps.new hA (.cells #[.int .i64 aT, .slice o1 n1 c1, .slice o2 n2 c2] 74)
  rw [show (W.alloc (.cells #[.pointer (some ⟨pw, 0, none⟩)] 92)).heap.size = W.heap.size + 1 by simp] at bx2
  have S0 := D.hidIt ((WS.of_below hW.lt (balloc W (.cells #[.pointer (some ⟨pw, 0, none⟩)] 92))).trans (WS.of_below hA.lt (balloc _ (.cells #[.int .i64 aT, .slice o1 n1 c1, .slice o2 n2 c2] 74))))
  have HB := D.hidIt hB
  have K1 := D.hidIt bx1
  have K2 := D.hidIt bx2
  clear hA hB hW bx1 bx2
  unfold wv ptr at *
  go_enter Tryz.func139, Tryz.ntmps139
  go_wp2_with fail
  refine (g1 _ HB.out).out.mono ?_
  rintro e w1 ⟨rfl, h1, s1⟩
  have H1 := D.hidIt h1
  have S1 := D.hidIt s1
  clear h1 s1 g1
  have k1 := K1.out.step S1.out
  have k2 := K2.out.step S1.out
  have a1 := cell_row k1.1 0 rfl
  have a2 := cell_row k2.1 1 rfl
  clear k1 k2
  go_wp2_with fail
  refine (g2 _ H1.out).out.mono ?_
  rintro e w2 ⟨rfl, h2, s2⟩
  have H2 := D.hidIt h2
  have S2 := D.hidIt s2
  clear h2 s2 g2 a1 a2
  have k1 := K1.out.step (S1.out.trans S2.out)
  have k2 := K2.out.step (S1.out.trans S2.out)
  have a1 := cell_row k1.1 0 rfl
  have a2 := cell_row k2.1 2 rfl
  clear k1 k2
  go_wp2_with fail
  refine (g3 _ H2.out).out.mono ?_
  rintro e w3 ⟨rfl, h3, s3⟩
  have H3 := D.hidIt h3
  have S3 := D.hidIt s3
  clear h3 s3 g3 a1 a2
  go_wp2
  go_end0
  exact ⟨rfl, by have := H3.out; simpa only [List.append_assoc] using this, S0.out.trans (S1.out.trans (S2.out.trans S3.out))⟩
end Go.Proofs.YthagaldpopnoeaaGreatDoor

/- Fields and handlers, written. -/
namespace Go.Proofs.YthagaldpopnoeaaGreatDoor
open Go.RowKit D

set_option maxRecDepth 8000 in
set_option maxHeartbeats 2000000 in
theorem one_hand (w0 : World) (pw : Nat) (f : HD) (hs : f.ty.size ≤ 17179869184) : OneH w0 pw handO f := by
  intro W L hR hW hlen
  clear hR
  unfold handO at *
  have g1 := fun W (h : WR w0 pw W L) => D.hidIt (wr_pair w0 pw L f.fr W h (by simp only [List.length_append] at hlen; omega))
  have g2 := fun W (h : WR w0 pw W (L ++ be f.fr 2)) => D.hidIt (wr_pair w0 pw _ f.tO W h (by simp only [List.length_append] at hlen ⊢; omega))
  have g3 := fun W (h : WR w0 pw W (L ++ be f.fr 2 ++ be f.tO 2)) => D.hidIt (wr_pair w0 pw _ f.aT W h (by simp only [List.length_append] at hlen ⊢; omega))
  have g4 := fun W (h : WR w0 pw W (L ++ be f.fr 2 ++ be f.tO 2 ++ be f.aT 2)) => D.hidIt (wr_text w0 pw _ f.ty W h (by simp only [List.length_append] at hlen ⊢; omega) hs)
  clear hlen hs
  generalize wtextZ f.ty = X1 at *
  obtain ⟨fr, tO, aT, ty⟩ := f
  simp only at *
  have hA := hW.below (balloc W (.cells #[.pointer (some ⟨pw, 0, none⟩)] 92))
  have hB := hA.below (balloc _ (.cells #[.int .i64 fr, .int .i64 tO, .int .i64 aT, .string ty] 71))
  have bx1 := (Keeps.new hW (.cells #[.pointer (some ⟨pw, 0, none⟩)] 92)).step (WS.of_below hA.lt (balloc _ (.cells #[.int .i64 fr, .int .i64 tO, .int .i64 aT, .string ty] 71)))
  have bx2 := Keeps.new hA (.cells #[.int .i64 fr, .int .i64 tO, .int .i64 aT, .string ty] 71)
  rw [show (W.alloc (.cells #[.pointer (some ⟨pw, 0, none⟩)] 92)).heap.size = W.heap.size + 1 by simp] at bx2
  have S0 := D.hidIt ((WS.of_below hW.lt (balloc W (.cells #[.pointer (some ⟨pw, 0, none⟩)] 92))).trans (WS.of_below hA.lt (balloc _ (.cells #[.int .i64 fr, .int .i64 tO, .int .i64 aT, .string ty] 71))))
  have HB := D.hidIt hB
  have K1 := D.hidIt bx1
  have K2 := D.hidIt bx2
  clear hA hB hW bx1 bx2
  unfold wv ptr at *
  go_enter Tryz.func137, Tryz.ntmps137
  go_wp2_with fail
  refine (g1 _ HB.out).out.mono ?_
  rintro e w1 ⟨rfl, h1, s1⟩
  have H1 := D.hidIt h1
  have S1 := D.hidIt s1
  clear h1 s1 g1
  have k1 := K1.out.step (S1.out)
  have k2 := K2.out.step (S1.out)
  have a1 := cell_row k1.1 0 rfl
  have b1 := cell_row k2.1 1 rfl
  clear k1 k2
  go_wp2_with fail
  refine (g2 _ H1.out).out.mono ?_
  rintro e w2 ⟨rfl, h2, s2⟩
  have H2 := D.hidIt h2
  have S2 := D.hidIt s2
  clear a1 b1
  clear h2 s2 g2
  have k1 := K1.out.step ((S1.out).trans S2.out)
  have k2 := K2.out.step ((S1.out).trans S2.out)
  have a1 := cell_row k1.1 0 rfl
  have b2 := cell_row k2.1 2 rfl
  clear k1 k2
  go_wp2_with fail
  refine (g3 _ H2.out).out.mono ?_
  rintro e w3 ⟨rfl, h3, s3⟩
  have H3 := D.hidIt h3
  have S3 := D.hidIt s3
  clear a1 b2
  clear h3 s3 g3
  have k1 := K1.out.step (((S1.out).trans S2.out).trans S3.out)
  have k2 := K2.out.step (((S1.out).trans S2.out).trans S3.out)
  have a1 := cell_row k1.1 0 rfl
  have b3 := cell_row k2.1 3 rfl
  clear k1 k2
  go_wp2_with fail
  refine (g4 _ H3.out).out.mono ?_
  rintro e w4 ⟨rfl, h4, s4⟩
  have H4 := D.hidIt h4
  have S4 := D.hidIt s4
  clear h4 s4 g4
  go_wp2
  go_end0
  exact ⟨rfl, by have := H4.out; simpa only [List.append_assoc] using this, S0.out.trans (S1.out.trans (S2.out.trans (S3.out.trans S4.out)))⟩

set_option maxRecDepth 8000 in
set_option maxHeartbeats 4000000 in
theorem one_field (w0 : World) (pw : Nat) (f : FD) (hs : f.nm.size ≤ 17179869184 ∧ f.ds.size ≤ 17179869184) : OneF w0 pw fieldO f := by
  intro W L hR hW hlen
  clear hR
  unfold fieldO at *
  have g1 := fun W (h : WR w0 pw W L) => D.hidIt (wr_text w0 pw L f.nm W h (by simp only [List.length_append] at hlen; omega) hs.1)
  have g2 := fun W (h : WR w0 pw W (L ++ wtextZ f.nm)) => D.hidIt (wr_text w0 pw _ f.ds W h (by simp only [List.length_append] at hlen ⊢; omega) hs.2)
  have g3 := fun W (h : WR w0 pw W (L ++ wtextZ f.nm ++ wtextZ f.ds)) => D.hidIt (wr_byte w0 pw _ (fl1 f.st) W h (by simp only [List.length_append] at hlen ⊢; omega))
  have gf := fun W => D.hidIt (flag_any f.st 1 W)
  clear hlen hs
  generalize wtextZ f.nm = X1 at *
  generalize wtextZ f.ds = X2 at *
  unfold fl1 at *
  generalize (if f.st = true then (1 : Int) else 0) = fl at *
  obtain ⟨nm, ds, st⟩ := f
  simp only at *
  have hA := hW.below (balloc W (.cells #[.pointer (some ⟨pw, 0, none⟩)] 92))
  have hB := hA.below (balloc _ (.cells #[.string nm, .string ds, .bool st] 63))
  have bx1 := (Keeps.new hW (.cells #[.pointer (some ⟨pw, 0, none⟩)] 92)).step (WS.of_below hA.lt (balloc _ (.cells #[.string nm, .string ds, .bool st] 63)))
  have bx2 := Keeps.new hA (.cells #[.string nm, .string ds, .bool st] 63)
  rw [show (W.alloc (.cells #[.pointer (some ⟨pw, 0, none⟩)] 92)).heap.size = W.heap.size + 1 by simp] at bx2
  have S0 := D.hidIt ((WS.of_below hW.lt (balloc W (.cells #[.pointer (some ⟨pw, 0, none⟩)] 92))).trans (WS.of_below hA.lt (balloc _ (.cells #[.string nm, .string ds, .bool st] 63))))
  have HB := D.hidIt hB
  have K1 := D.hidIt bx1
  have K2 := D.hidIt bx2
  clear hA hB hW bx1 bx2
  unfold wv ptr at *
  go_enter Tryz.func92, Tryz.ntmps92
  go_wp2_with fail
  refine (g1 _ HB.out).out.mono ?_
  rintro e w1 ⟨rfl, h1, s1⟩
  have H1 := D.hidIt h1
  have S1 := D.hidIt s1
  clear h1 s1 g1
  have k1 := K1.out.step (S1.out)
  have k2 := K2.out.step (S1.out)
  have a1 := cell_row k1.1 0 rfl
  have b1 := cell_row k2.1 1 rfl
  clear k1 k2
  go_wp2_with fail
  refine (g2 _ H1.out).out.mono ?_
  rintro e w2 ⟨rfl, h2, s2⟩
  have H2 := D.hidIt h2
  have S2 := D.hidIt s2
  clear a1 b1
  clear h2 s2 g2
  have k1 := K1.out.step ((S1.out).trans S2.out)
  have k2 := K2.out.step ((S1.out).trans S2.out)
  have a1 := cell_row k1.1 0 rfl
  have b2 := cell_row k2.1 2 rfl
  clear k1 k2
  have g3' := fun q => g3 (w2.drewN q) (H2.out.below (below_drewN (Below.refl _ _) q))
  clear g3
  go_wp2_with fail
  go_region_with (first | (go_at_call 134; refine (gf _).out.mono ?_; rintro e wz ⟨rfl, hww⟩; cases hww) | (go_at_call 133; refine (g3' _).out.mono ?_; rintro e w3 ⟨rfl, h3, s3⟩))
  all_goals
    have H3 := D.hidIt h3
    have S3 := D.hidIt ((WS.of_below H2.out.lt (below_drewN (Below.refl _ _) _)).trans s3)
    clear h3 s3
    go_wp2
    go_end0
    exact ⟨rfl, by have := H3.out; simpa only [List.append_assoc] using this, S0.out.trans (S1.out.trans (S2.out.trans S3.out))⟩
end Go.Proofs.YthagaldpopnoeaaGreatDoor

/- Methods, written. -/
namespace Go.Proofs.YthagaldpopnoeaaGreatDoor
open Go.RowKit D

/-- What can be written: texts that are not too long for a machine. -/
def MD.Small (m : MD) : Prop := m.nm.size ≤ 17179869184 ∧ m.ds.size ≤ 17179869184 ∧ (∀ h ∈ m.hs, h.ty.size ≤ 17179869184) ∧ ∀ f ∈ m.rs, (∀ s ∈ f.loc, s.size ≤ 17179869184) ∧ ∀ s ∈ f.stk, s.size ≤ 17179869184
theorem or12 (a b : Bool) : bits .or .i64 (if a = true then 1 else 0) (if b = true then 2 else 0) = fl2 a b := by cases a <;> cases b <;> decide
set_option maxRecDepth 8000 in
set_option maxHeartbeats 4000000 in
theorem one_meth (w0 : World) (pw : Nat) (f : MD) (hs : f.Small) : OneM w0 pw methO f := by
  intro W L o1 c1 o2 c2 o3 c3 hR hW hlen
  obtain ⟨p1, q1, p2, q2, p3, q3, e, _, _, vc, kh, kr⟩ := hR
  simp only [List.cons.injEq, Value.slice.injEq] at e
  obtain ⟨_, _, _, _, _, _, ⟨rfl, _, rfl⟩, ⟨rfl, _, rfl⟩, ⟨rfl, _, rfl⟩, _⟩ := e
  obtain ⟨z1, z2, z3, z4⟩ := hs
  unfold methO at *
  have e1 := D.hidIt (or12 f.st f.nat)
  have g1 := fun W (h : WR w0 pw W L) => D.hidIt (wr_text w0 pw L f.nm W h (by simp only [List.length_append] at hlen; omega) z1)
  have g2 := fun W (h : WR w0 pw W (L ++ wtextZ f.nm)) => D.hidIt (wr_text w0 pw _ f.ds W h (by simp only [List.length_append] at hlen ⊢; omega) z2)
  have g3 := fun W (h : WR w0 pw W (L ++ wtextZ f.nm ++ wtextZ f.ds)) => D.hidIt (wr_byte w0 pw _ (fl2 f.st f.nat) W h (by simp only [List.length_append] at hlen ⊢; omega))
  have g4 := fun W (h : WR w0 pw W (L ++ wtextZ f.nm ++ wtextZ f.ds ++ be (fl2 f.st f.nat) 1)) => D.hidIt (wr_byte w0 pw _ f.stk W h (by simp only [List.length_append] at hlen ⊢; omega))
  have g5 := fun W (h : WR w0 pw W (L ++ wtextZ f.nm ++ wtextZ f.ds ++ be (fl2 f.st f.nat) 1 ++ be f.stk 1)) => D.hidIt (wr_byte w0 pw _ f.loc W h (by simp only [List.length_append] at hlen ⊢; omega))
  have g6 := fun W (h : WR w0 pw W (L ++ wtextZ f.nm ++ wtextZ f.ds ++ be (fl2 f.st f.nat) 1 ++ be f.stk 1 ++ be f.loc 1)) => D.hidIt (wr_pair w0 pw _ (f.code.length : Nat) W h (by simp only [List.length_append] at hlen ⊢; omega))
  have g7 := fun W (h : WR w0 pw W (L ++ wtextZ f.nm ++ wtextZ f.ds ++ be (fl2 f.st f.nat) 1 ++ be f.stk 1 ++ be f.loc 1 ++ be (f.code.length : Nat) 2)) => D.hidIt (wr_bytes w0 pw _ f.code _ W h (vc.below h.bel) (by simp only [List.length_append] at hlen ⊢; omega))
  have g8 := fun W (h : WR w0 pw W (L ++ wtextZ f.nm ++ wtextZ f.ds ++ be (fl2 f.st f.nat) 1 ++ be f.stk 1 ++ be f.loc 1 ++ be (f.code.length : Nat) 2 ++ f.code)) => D.hidIt (wr_listH w0 pw handO f.hs o2 c2 kh (fun x hx => one_hand w0 pw x (z3 x hx)) _ W h (by have := hlen; unfold handsO at this; simp only [List.length_append] at this ⊢; omega))
  have g9 := fun W (h : WR w0 pw W (L ++ wtextZ f.nm ++ wtextZ f.ds ++ be (fl2 f.st f.nat) 1 ++ be f.stk 1 ++ be f.loc 1 ++ be (f.code.length : Nat) 2 ++ f.code ++ handsO f.hs)) => D.hidIt (wr_listR w0 pw frameO f.rs o3 c3 kr (fun x hx => one_frame w0 pw x (z4 x hx)) _ W h (by have := hlen; unfold framesO at this; simp only [List.length_append] at this ⊢; omega))
  change ∀ W, _ → Hid (Calls _ _ _ _ fun e w' => _ ∧ WR _ _ _ (_ ++ handsO f.hs) ∧ _) at g8
  change ∀ W, _ → Hid (Calls _ _ _ _ fun e w' => _ ∧ WR _ _ _ (_ ++ framesO f.rs) ∧ _) at g9
  have gf1 := fun W => D.hidIt (flag_any f.st 1 W)
  have gf2 := fun W => D.hidIt (flag_any f.nat 2 W)
  clear hlen z1 z2 z3 z4 vc kh kr
  generalize wtextZ f.nm = X1 at *
  generalize wtextZ f.ds = X2 at *
  generalize handsO f.hs = X3 at *
  generalize framesO f.rs = X4 at *
  generalize fl2 f.st f.nat = F at *
  generalize (if f.st = true then (1 : Int) else 0) = F1 at *
  generalize (if f.nat = true then (2 : Int) else 0) = F2 at *
  generalize f.code.length = n1 at *
  generalize f.hs.length = n2 at *
  generalize f.rs.length = n3 at *
  obtain ⟨nm, ds, st, nat, stk, loc, code, hh, rr⟩ := f
  simp only at *
  have hA := hW.below (balloc W (.cells #[.pointer (some ⟨pw, 0, none⟩)] 92))
  have hB := hA.below (balloc _ (.cells #[.string nm, .string ds, .bool st, .bool nat, .int .i64 stk, .int .i64 loc, .slice o1 n1 c1, .slice o2 n2 c2, .slice o3 n3 c3] 26))
  have bx1 := (Keeps.new hW (.cells #[.pointer (some ⟨pw, 0, none⟩)] 92)).step (WS.of_below hA.lt (balloc _ (.cells #[.string nm, .string ds, .bool st, .bool nat, .int .i64 stk, .int .i64 loc, .slice o1 n1 c1, .slice o2 n2 c2, .slice o3 n3 c3] 26)))
  have bx2 := Keeps.new hA (.cells #[.string nm, .string ds, .bool st, .bool nat, .int .i64 stk, .int .i64 loc, .slice o1 n1 c1, .slice o2 n2 c2, .slice o3 n3 c3] 26)
  rw [show (W.alloc (.cells #[.pointer (some ⟨pw, 0, none⟩)] 92)).heap.size = W.heap.size + 1 by simp] at bx2
  have S0 := D.hidIt ((WS.of_below hW.lt (balloc W (.cells #[.pointer (some ⟨pw, 0, none⟩)] 92))).trans (WS.of_below hA.lt (balloc _ (.cells #[.string nm, .string ds, .bool st, .bool nat, .int .i64 stk, .int .i64 loc, .slice o1 n1 c1, .slice o2 n2 c2, .slice o3 n3 c3] 26))))
  have HB := D.hidIt hB
  have K1 := D.hidIt bx1
  have K2 := D.hidIt bx2
  clear hA hB hW bx1 bx2
  unfold wv ptr at *
  go_enter Tryz.func94, Tryz.ntmps94
  go_wp2_with fail
  refine (g1 _ HB.out).out.mono ?_
  rintro e w1 ⟨rfl, h1, s1⟩
  have H1 := D.hidIt h1
  have S1 := D.hidIt s1
  clear h1 s1 g1
  have k1 := K1.out.step (S1.out)
  have k2 := K2.out.step (S1.out)
  have a1 := cell_row k1.1 0 rfl
  have b1 := cell_row k2.1 1 rfl
  clear k1 k2
  go_wp2_with fail
  refine (g2 _ H1.out).out.mono ?_
  rintro e w2 ⟨rfl, h2, s2⟩
  have H2 := D.hidIt h2
  have S2 := D.hidIt s2
  clear a1 b1
  clear h2 s2 g2
  have k1 := K1.out.step ((S1.out).trans S2.out)
  have k2 := K2.out.step ((S1.out).trans S2.out)
  have a1 := cell_row k1.1 0 rfl
  have b2 := cell_row k2.1 2 rfl
  have b3 := cell_row k2.1 3 rfl
  clear k1 k2
  have g3' := g3 w2.drew (H2.out.below (below_drewN (Below.refl _ _) 1))
  have e1' := e1.out
  have hS2 : Hid (w2.drew.cell? ⟨W.heap.size, 0, none⟩ = some (.pointer (some ⟨pw, 0, none⟩)) ∧ w2.drew.cell? ⟨W.heap.size + 1, 2, none⟩ = some (.bool st) ∧ w2.drew.cell? ⟨W.heap.size + 1, 3, none⟩ = some (.bool nat)) := ⟨a1, b2, b3⟩
  have hS3 : Hid (∀ W3, WS pw w2.drew W3 → (W3.cell? ⟨W.heap.size, 0, none⟩ = some (.pointer (some ⟨pw, 0, none⟩)) ∧ W3.cell? ⟨W.heap.size + 1, 2, none⟩ = some (.bool st) ∧ W3.cell? ⟨W.heap.size + 1, 3, none⟩ = some (.bool nat))) := by
    intro W3 h
    have hd : WS pw w2 W3 := (WS.of_below H2.out.lt (below_drewN (Below.refl _ _) 1)).trans h
    have k1 := K1.out.step ((S1.out.trans S2.out).trans hd)
    have k2 := K2.out.step ((S1.out.trans S2.out).trans hd)
    exact ⟨cell_row k1.1 0 rfl, cell_row k2.1 2 rfl, cell_row k2.1 3 rfl⟩
  clear a1 b2 b3
  go_wp2_with fail
  go_region_held3 (fun W' => W'.cell? ⟨W.heap.size, 0, none⟩ = some (.pointer (some ⟨pw, 0, none⟩)) ∧ W'.cell? ⟨W.heap.size + 1, 2, none⟩ = some (.bool st) ∧ W'.cell? ⟨W.heap.size + 1, 3, none⟩ = some (.bool nat)) (first | exact hS2.out | exact hS3.out _ (by assumption))
    (first
      | (go_at_call 134; refine (gf1 _).out.mono ?_; rintro e wz ⟨rfl, hww⟩; cases hww)
      | (go_at_call 134; refine (gf2 _).out.mono ?_; rintro e wz ⟨rfl, hww⟩; cases hww)
      | (go_at_call 133; refine g3'.out.mono ?_; rintro e w3 ⟨rfl, h3, s3⟩))
  have H3 := D.hidIt h3
  have S3 := D.hidIt ((WS.of_below H2.out.lt (below_drewN (Below.refl _ _) 1)).trans s3)
  clear h3 s3 g3 g3' hS2 hS3
  have k1 := K1.out.step ((S1.out.trans S2.out).trans S3.out)
  have k2 := K2.out.step ((S1.out.trans S2.out).trans S3.out)
  have a1 := cell_row k1.1 0 rfl
  have b4 := cell_row k2.1 4 rfl
  clear k1 k2
  go_wp2_with fail
  refine (g4 _ H3.out).out.mono ?_
  rintro e w4 ⟨rfl, h4, s4⟩
  have H4 := D.hidIt h4
  have S4 := D.hidIt s4
  clear a1 b4
  clear h4 s4 g4
  have k1 := K1.out.step ((((S1.out).trans S2.out).trans S3.out).trans S4.out)
  have k2 := K2.out.step ((((S1.out).trans S2.out).trans S3.out).trans S4.out)
  have a1 := cell_row k1.1 0 rfl
  have b5 := cell_row k2.1 5 rfl
  clear k1 k2
  go_wp2_with fail
  refine (g5 _ H4.out).out.mono ?_
  rintro e w5 ⟨rfl, h5, s5⟩
  have H5 := D.hidIt h5
  have S5 := D.hidIt s5
  clear a1 b5
  clear h5 s5 g5
  have k1 := K1.out.step (((((S1.out).trans S2.out).trans S3.out).trans S4.out).trans S5.out)
  have k2 := K2.out.step (((((S1.out).trans S2.out).trans S3.out).trans S4.out).trans S5.out)
  have a1 := cell_row k1.1 0 rfl
  have b6 := cell_row k2.1 6 rfl
  clear k1 k2
  go_wp2_with fail
  refine (g6 _ H5.out).out.mono ?_
  rintro e w6 ⟨rfl, h6, s6⟩
  have H6 := D.hidIt h6
  have S6 := D.hidIt s6
  clear a1 b6
  clear h6 s6 g6
  have k1 := K1.out.step ((((((S1.out).trans S2.out).trans S3.out).trans S4.out).trans S5.out).trans S6.out)
  have k2 := K2.out.step ((((((S1.out).trans S2.out).trans S3.out).trans S4.out).trans S5.out).trans S6.out)
  have a1 := cell_row k1.1 0 rfl
  have b6 := cell_row k2.1 6 rfl
  clear k1 k2
  go_wp2_with fail
  refine (g7 _ H6.out).out.mono ?_
  rintro e w7 ⟨rfl, h7, s7⟩
  have H7 := D.hidIt h7
  have S7 := D.hidIt s7
  clear a1 b6
  clear h7 s7 g7
  have k1 := K1.out.step (((((((S1.out).trans S2.out).trans S3.out).trans S4.out).trans S5.out).trans S6.out).trans S7.out)
  have k2 := K2.out.step (((((((S1.out).trans S2.out).trans S3.out).trans S4.out).trans S5.out).trans S6.out).trans S7.out)
  have a1 := cell_row k1.1 0 rfl
  have b7 := cell_row k2.1 7 rfl
  clear k1 k2
  go_wp2_with fail
  refine (g8 _ H7.out).out.mono ?_
  rintro e w8 ⟨rfl, h8, s8⟩
  have H8 := D.hidIt h8
  have S8 := D.hidIt s8
  clear a1 b7
  clear h8 s8 g8
  have k1 := K1.out.step ((((((((S1.out).trans S2.out).trans S3.out).trans S4.out).trans S5.out).trans S6.out).trans S7.out).trans S8.out)
  have k2 := K2.out.step ((((((((S1.out).trans S2.out).trans S3.out).trans S4.out).trans S5.out).trans S6.out).trans S7.out).trans S8.out)
  have a1 := cell_row k1.1 0 rfl
  have b8 := cell_row k2.1 8 rfl
  clear k1 k2
  go_wp2_with fail
  refine (g9 _ H8.out).out.mono ?_
  rintro e w9 ⟨rfl, h9, s9⟩
  have H9 := D.hidIt h9
  have S9 := D.hidIt s9
  clear h9 s9 g9
  go_wp2
  go_end0
  exact ⟨rfl, by have := H9.out; simpa only [List.append_assoc] using this, S0.out.trans ((((((((S1.out.trans S2.out).trans S3.out).trans S4.out).trans S5.out).trans S6.out).trans S7.out).trans S8.out).trans S9.out)⟩
end Go.Proofs.YthagaldpopnoeaaGreatDoor
