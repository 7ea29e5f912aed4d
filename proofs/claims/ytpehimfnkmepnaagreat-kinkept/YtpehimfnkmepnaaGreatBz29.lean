import Derived.Test.YtpehimfnkmepnaaGreatBz28
set_option maxRecDepth 8000
set_option maxHeartbeats 40000000
namespace Go.Proofs.YtpehimfnkmepnaaGreat.Q
open Go.RowKit D
theorem zKf (h : HD) (w : World) : Calls Tryz.prog 202 #[.agg #[.int .i64 h.fr, .int .i64 h.tO, .int .i64 h.aT, .string h.ty]] w fun e w' => e = .returned (.bool (zI0 h)) ∧ Below w.heap.size w w' := by
 have h1 := fun w => D.zA0 (zDv h.fr 65535 w)
 have h2 := fun w => D.zA0 (zDv h.tO 65535 w)
 have h3 := fun w => D.zA0 (zDv h.aT 65535 w)
 have h4 := fun w => D.zA0 (zDc h.ty w)
 unfold zI0 bsB
 generalize inB h.fr 65535 = a at *
 generalize inB h.tO 65535 = b at *
 generalize inB h.aT 65535 = c at *
 generalize zB9 h.ty.data.toList = d at *
 obtain ⟨fr, tO, aT, ty⟩ := h
 simp only at h1 h2 h3 h4 ⊢
 cases a
 · go_enter Tryz.func202, Tryz.ntmps202
   go_wp2_with fail
   refine (h1 _).out.mono ?_
   rintro e w' ⟨rfl, hww⟩; cases hww
   go_wp2
   go_ret
   exact ⟨rfl, zA9 _ _⟩
 cases b
 · go_enter Tryz.func202, Tryz.ntmps202
   go_wp2_with fail
   refine (h1 _).out.mono ?_
   rintro e w' ⟨rfl, hww⟩; cases hww
   go_wp2_with fail
   refine (h2 _).out.mono ?_
   rintro e w' ⟨rfl, hww⟩; cases hww
   go_wp2
   go_ret
   exact ⟨rfl, zA9 _ _⟩
 cases c
 · go_enter Tryz.func202, Tryz.ntmps202
   go_wp2_with fail
   refine (h1 _).out.mono ?_
   rintro e w' ⟨rfl, hww⟩; cases hww
   go_wp2_with fail
   refine (h2 _).out.mono ?_
   rintro e w' ⟨rfl, hww⟩; cases hww
   go_wp2_with fail
   refine (h3 _).out.mono ?_
   rintro e w' ⟨rfl, hww⟩; cases hww
   go_wp2
   go_ret
   exact ⟨rfl, zA9 _ _⟩
 · go_enter Tryz.func202, Tryz.ntmps202
   go_wp2_with fail
   refine (h1 _).out.mono ?_
   rintro e w' ⟨rfl, hww⟩; cases hww
   go_wp2_with fail
   refine (h2 _).out.mono ?_
   rintro e w' ⟨rfl, hww⟩; cases hww
   go_wp2_with fail
   refine (h3 _).out.mono ?_
   rintro e w' ⟨rfl, hww⟩; cases hww
   go_wp2_with fail
   refine (h4 _).out.mono ?_
   rintro e w' ⟨rfl, hww⟩; cases hww
   go_wp2
   go_ret
   exact ⟨by cases d <;> rfl, zA9 _ _⟩
theorem zP7 (a : Int) (o1 : Option Addr) (n1 c1 : Nat) (o2 : Option Addr) (n2 c2 : Nat) (w : World) : Calls Tryz.prog 204 #[.agg #[.int .i64 a, .slice o1 n1 c1, .slice o2 n2 c2]] w fun e w' => e = .returned (.bool (inB a 65535)) ∧ Below w.heap.size w w' := by
 have h1 := fun w => D.zA0 (zDv a 65535 w)
 go_enter Tryz.func204, Tryz.ntmps204
 go_wp2_with (go_at_call 179; refine (h1 _).out.mono ?_; rintro e w' ⟨rfl, hww⟩; cases hww)
 go_ret
 exact ⟨rfl, zA9 _ _⟩
theorem zPy (a : Int) (o1 : Option Addr) (n1 c1 : Nat) (o2 : Option Addr) (n2 c2 : Nat) (w : World) : Calls Tryz.prog 205 #[.agg #[.int .i64 a, .slice o1 n1 c1, .slice o2 n2 c2]] w fun e w' => e = .returned (.bool (decide (n1 ≤ 16) && decide (n2 ≤ 16))) ∧ Below w.heap.size w w' := by
 by_cases h1 : n1 ≤ 16
 · have h1' : (n1 : Int) ≤ 16 := by omega
   by_cases h2 : n2 ≤ 16
   · have h2' : (n2 : Int) ≤ 16 := by omega
     go_enter Tryz.func205, Tryz.ntmps205
     go_wp2
     go_ret
     exact ⟨by first | rfl | (rw [decide_eq_true h1, decide_eq_true h2]; rfl), zA9 _ _⟩
   · have h2' : ¬ (n2 : Int) ≤ 16 := by omega
     go_enter Tryz.func205, Tryz.ntmps205
     go_wp2
     go_ret
     exact ⟨by first | rfl | (rw [decide_eq_true h1, decide_eq_false h2]; rfl), zA9 _ _⟩
 · have h1' : ¬ (n1 : Int) ≤ 16 := by omega
   go_enter Tryz.func205, Tryz.ntmps205
   go_wp2
   go_ret
   exact ⟨by first | rfl | (rw [decide_eq_false h1]; rfl), zA9 _ _⟩
theorem zLr (ao : Option Addr) (c : Nat) (l : List ByteArray) (w : World) (h : LAt 1 zDm w ao c l) : Calls Tryz.prog 217 #[.slice ao l.length c, fnv 65] w fun e w' => e = .returned (.bool (l.all zEx)) ∧ Below w.heap.size w w' := by
 obtain ⟨h1, h2, rows, h3, h4⟩ := h
 have hr : zAk 1 w ao l.length (fun j => [.string (l.getD j ⟨#[]⟩)]) := by
  intro hn
  obtain ⟨b, off, e, hlt, hc⟩ := h3 hn
  refine ⟨b, off, e, hlt, fun j hj i v hv => ?_⟩
  have := (h4 j l[j] (List.getElem?_eq_getElem hj)).1
  refine hc j hj i v ?_
  rw [this, ← hv]
  simp [List.getD_eq_getElem?_getD, List.getElem?_eq_getElem hj]
 have := allS 65 (enters_of Tryz.func65 (by kernel_rfl) rfl) (fun j => l.getD j ⟨#[]⟩) (fun j => zEx (l.getD j ⟨#[]⟩)) ao l.length c w (by unfold maxLen at h2; omega) hr (fun j hj W hW => by
  have h5 := (h4 j l[j] (List.getElem?_eq_getElem hj)).2
  have e : l.getD j ⟨#[]⟩ = l[j] := by simp [List.getD_eq_getElem?_getD, List.getElem?_eq_getElem hj]
  rw [e]
  refine (zPm _ W h5).mono ?_
  rintro e w' ⟨rfl, rfl⟩
  exact ⟨rfl, Below.refl _ _⟩)
 rw [zFn l _ zEx (fun i x hx => by rw [List.getD_eq_getElem?_getD, hx]; rfl)] at this
 exact this
theorem zNq (a : Int) (o1 : Option Addr) (c1 : Nat) (o2 : Option Addr) (c2 : Nat) (l1 l2 : List ByteArray) (w : World) (k1 : LAt 1 zDm w o1 c1 l1) (k2 : LAt 1 zDm w o2 c2 l2) : Calls Tryz.prog 206 #[.agg #[.int .i64 a, .slice o1 l1.length c1, .slice o2 l2.length c2]] w fun e w' => e = .returned (.bool (l1.all zEx && l2.all zEx)) ∧ Below w.heap.size w w' := by
 have h1 := fun o => D.zA0 (zLr o1 c1 l1 (w.alloc o) (k1.below (zA9 _ _) (fun _ _ h => h)))
 have h2 := fun W (hW : Below w.heap.size w W) => D.zA0 (zLr o2 c2 l2 W (k2.below hW (fun _ _ h => h)))
 generalize l1.all zEx = x at *
 generalize l2.all zEx = y at *
 generalize l1.length = n1 at *
 generalize l2.length = n2 at *
 unfold fnv at h1 h2
 cases x
 · go_enter Tryz.func206, Tryz.ntmps206
   go_wp2_with (go_at_call 217; refine (h1 _).out.mono ?_; rintro e w' ⟨rfl, hb⟩)
   go_ret
   exact ⟨rfl, next (zA9 _ _) hb⟩
 · go_enter Tryz.func206, Tryz.ntmps206
   go_wp2_with fail
   refine (h1 _).out.mono ?_
   rintro e w1 ⟨rfl, hb⟩
   have hb1 := next (zA9 _ _) hb
   have hc := cell_later hb (show (w.alloc (.cells #[.int .i64 a, .slice o1 n1 c1, .slice o2 n2 c2] 67)).cell? ⟨w.heap.size, 2, none⟩ = some (.slice o2 n2 c2) by simp)
   have h2' := h2 w1 hb1
   clear h2 h1
   go_wp2_with (go_at_call 217; refine h2'.out.mono ?_; rintro e w2 ⟨rfl, hb2⟩)
   go_ret
   exact ⟨by cases y <;> rfl, next hb1 hb2⟩
theorem zHo (g : Nat) (eg : ∀ args w, (callFunc g args).run Tryz.prog w = .ok (.enter g args) w) (f : RD → Bool)
 (hg : ∀ (W : World) (r : List Value) (x : RD), zAx W r x → Calls Tryz.prog g #[.agg r.toArray] W fun e w' => e = .returned (.bool (f x)) ∧ Below W.heap.size W w')
 (ao : Option Addr) (c : Nat) (l : List RD) (w : World) (h : LAt 3 zAx w ao c l) : Calls Tryz.prog 203 #[.slice ao l.length c, fnv g] w fun e w' => e = .returned (.bool (l.all f)) ∧ Below w.heap.size w w' := by
 have hbig := h.big
 obtain ⟨h1, h2, rows, h3, h4⟩ := h
 have := allR g eg rows (fun j => f (l.getD j ⟨0, [], []⟩)) ao l.length c w (fun j hj => by
  obtain ⟨o1, c1, o2, c2, e, _, _⟩ := h4 j l[j] (List.getElem?_eq_getElem hj)
  exact ⟨_, _, _, _, _, _, _, e⟩) hbig h3 (fun j hj W hW => by
  have e : l.getD j ⟨0, [], []⟩ = l[j] := by simp [List.getD_eq_getElem?_getD, List.getElem?_eq_getElem hj]
  rw [e]
  exact hg W _ _ ((h4 j l[j] (List.getElem?_eq_getElem hj)).below hW))
 rw [zFn l _ f (fun i x hx => by rw [List.getD_eq_getElem?_getD, hx]; rfl)] at this
 exact this
theorem zL0 (ao : Option Addr) (c : Nat) (l : List HD) (w : World) (h : LAt 4 zHl w ao c l) : Calls Tryz.prog 201 #[.slice ao l.length c, fnv 202] w fun e w' => e = .returned (.bool (l.all zI0)) ∧ Below w.heap.size w w' := by
 have hbig := h.big
 obtain ⟨h1, h2, rows, h3, h4⟩ := h
 have := allH 202 (enters_of Tryz.func202 (by kernel_rfl) rfl) rows (fun j => zI0 (l.getD j ⟨0, 0, 0, ⟨#[]⟩⟩)) ao l.length c w (fun j hj => by
  exact ⟨_, _, _, _, (h4 j l[j] (List.getElem?_eq_getElem hj)).1⟩) hbig h3 (fun j hj W hW => by
  have e : l.getD j ⟨0, 0, 0, ⟨#[]⟩⟩ = l[j] := by simp [List.getD_eq_getElem?_getD, List.getElem?_eq_getElem hj]
  rw [e, (h4 j l[j] (List.getElem?_eq_getElem hj)).1]
  exact zKf _ W)
 rw [zFn l _ zI0 (fun i x hx => by rw [List.getD_eq_getElem?_getD, hx]; rfl)] at this
 exact this
theorem zNt (ao : Option Addr) (c : Nat) (l : List CD) (w : World) (h : LAt 5 zHe w ao c l) : Calls Tryz.prog 148 #[.slice ao l.length c, fnv 149] w fun e w' => e = .returned (.bool (l.all zBd)) ∧ Below w.heap.size w w' := by
 have hbig := h.big
 obtain ⟨h1, h2, rows, h3, h4⟩ := h
 have := allC 149 (enters_of Tryz.func149 (by kernel_rfl) rfl) rows (fun j => zBd (l.getD j zP0)) ao l.length c w (fun j hj => by
  exact ⟨_, _, _, _, _, (h4 j l[j] (List.getElem?_eq_getElem hj)).1⟩) hbig h3 (fun j hj W hW => by
  have e : l.getD j zP0 = l[j] := by simp [List.getD_eq_getElem?_getD, List.getElem?_eq_getElem hj]
  rw [e, (h4 j l[j] (List.getElem?_eq_getElem hj)).1]
  exact zNp _ W (h4 j l[j] (List.getElem?_eq_getElem hj)).2.toFits)
 rw [zFn l _ zBd (fun i x hx => by rw [List.getD_eq_getElem?_getD, hx]; rfl)] at this
 exact this
theorem zO6 (ao : Option Addr) (c : Nat) (l : List RD) (w : World) (h : LAt 3 zAx w ao c l) : Calls Tryz.prog 203 #[.slice ao l.length c, fnv 204] w fun e w' => e = .returned (.bool (l.all zGy)) ∧ Below w.heap.size w w' :=
 zHo 204 (enters_of Tryz.func204 (by kernel_rfl) rfl) zGy (fun W r x hx => by obtain ⟨o1, c1, o2, c2, rfl, _, _⟩ := hx; exact zP7 _ _ _ _ _ _ _ W) ao c l w h
theorem zQ2 (ao : Option Addr) (c : Nat) (l : List RD) (w : World) (h : LAt 3 zAx w ao c l) : Calls Tryz.prog 203 #[.slice ao l.length c, fnv 205] w fun e w' => e = .returned (.bool (l.all zLa)) ∧ Below w.heap.size w w' :=
 zHo 205 (enters_of Tryz.func205 (by kernel_rfl) rfl) zLa (fun W r x hx => by obtain ⟨o1, c1, o2, c2, rfl, _, _⟩ := hx; exact zPy _ _ _ _ _ _ _ W) ao c l w h
theorem zQb (ao : Option Addr) (c : Nat) (l : List RD) (w : World) (h : LAt 3 zAx w ao c l) : Calls Tryz.prog 203 #[.slice ao l.length c, fnv 206] w fun e w' => e = .returned (.bool (l.all zIl)) ∧ Below w.heap.size w w' :=
 zHo 206 (enters_of Tryz.func206 (by kernel_rfl) rfl) zIl (fun W r x hx => by obtain ⟨o1, c1, o2, c2, rfl, k1, k2⟩ := hx; exact zNq _ _ _ _ _ _ _ W k1 k2) ao c l w h
theorem zOa (m : MD) (o1 : Option Addr) (n1 c1 : Nat) (o2 : Option Addr) (c2 : Nat) (o3 : Option Addr) (c3 : Nat) (w : World) (k2 : LAt 4 zHl w o2 c2 m.hs) (k3 : LAt 3 zAx w o3 c3 m.rs) :
 Calls Tryz.prog 181 #[.agg #[.string m.nm, .string m.ds, .bool m.st, .bool m.nat, .int .i64 m.stk, .int .i64 m.loc, .slice o1 n1 c1, .slice o2 m.hs.length c2, .slice o3 m.rs.length c3]] w fun e w' => e = .returned (.int .i64 (zH8 m)) ∧ Below w.heap.size w w' := by
 have h1 := fun o => D.zA0 (zL0 o2 c2 m.hs (w.alloc o) (k2.below (zA9 _ _) (fun _ _ h => h)))
 have h2 := fun W (hW : Below w.heap.size w W) => D.zA0 (zO6 o3 c3 m.rs W (k3.below hW (fun _ _ h => h.below hW)))
 have h3 := fun W (hW : Below w.heap.size w W) => D.zA0 (zQ2 o3 c3 m.rs W (k3.below hW (fun _ _ h => h.below hW)))
 have h4 := fun W (hW : Below w.heap.size w W) => D.zA0 (zQb o3 c3 m.rs W (k3.below hW (fun _ _ h => h.below hW)))
 unfold zH8
 generalize m.hs.all zI0 = x1 at *
 generalize m.rs.all zGy = x2 at *
 generalize m.rs.all zLa = x3 at *
 generalize m.rs.all zIl = x4 at *
 clear k2 k3
 generalize m.hs.length = n2 at *
 generalize m.rs.length = n3 at *
 obtain ⟨nm, ds, st, nat, stk, loc, code, hs, rs⟩ := m
 simp only at h1 h2 h3 h4 ⊢
 have hcell : ∀ W, Below (w.alloc (.cells #[.string nm, .string ds, .bool st, .bool nat, .int .i64 stk, .int .i64 loc, .slice o1 n1 c1, .slice o2 n2 c2, .slice o3 n3 c3] 39)).heap.size (w.alloc (.cells #[.string nm, .string ds, .bool st, .bool nat, .int .i64 stk, .int .i64 loc, .slice o1 n1 c1, .slice o2 n2 c2, .slice o3 n3 c3] 39)) W → W.cell? ⟨w.heap.size, 8, none⟩ = some (.slice o3 n3 c3) := fun W hW => cell_later hW (by simp)
 unfold fnv at h1 h2 h3 h4
 have B0 := zA9 w (.cells #[.string nm, .string ds, .bool st, .bool nat, .int .i64 stk, .int .i64 loc, .slice o1 n1 c1, .slice o2 n2 c2, .slice o3 n3 c3] 39)
 cases x1
 · go_enter Tryz.func181, Tryz.ntmps181
   go_wp2_with fail
   refine (h1 _).out.mono ?_
   rintro e w1 ⟨rfl, b1⟩
   go_wp2
   go_ret
   exact ⟨rfl, next B0 b1⟩
 go_enter Tryz.func181, Tryz.ntmps181
 go_wp2_with fail
 refine (h1 _).out.mono ?_
 rintro e w1 ⟨rfl, b1⟩
 have l1 := hcell _ b1
 have g2 := h2 w1 (next B0 b1)
 clear h1 h2
 cases x2
 · go_wp2_with fail
   refine g2.out.mono ?_
   rintro e w2 ⟨rfl, b2⟩
   go_wp2
   go_ret
   exact ⟨rfl, next B0 (next b1 b2)⟩
 go_wp2_with fail
 refine g2.out.mono ?_
 rintro e w2 ⟨rfl, b2⟩
 have l2 := hcell _ (next b1 b2)
 have g3 := h3 w2 (next B0 (next b1 b2))
 clear h3 g2
 cases x3
 · go_wp2_with fail
   refine g3.out.mono ?_
   rintro e w3 ⟨rfl, b3⟩
   go_wp2
   go_ret
   exact ⟨rfl, next B0 (next b1 (next b2 b3))⟩
 go_wp2_with fail
 refine g3.out.mono ?_
 rintro e w3 ⟨rfl, b3⟩
 have l3 := hcell _ (next b1 (next b2 b3))
 have g4 := h4 w3 (next B0 (next b1 (next b2 b3)))
 clear h4 g3
 cases x4
 · go_wp2_with fail
   refine g4.out.mono ?_
   rintro e w4 ⟨rfl, b4⟩
   go_wp2
   go_ret
   exact ⟨rfl, next B0 (next b1 (next b2 (next b3 b4)))⟩
 go_wp2_with fail
 refine g4.out.mono ?_
 rintro e w4 ⟨rfl, b4⟩
 go_wp2
 go_ret
 exact ⟨rfl, next B0 (next b1 (next b2 (next b3 b4)))⟩
theorem zKr (m : MD) (o1 : Option Addr) (c1 : Nat) (o2 : Option Addr) (c2 : Nat) (o3 : Option Addr) (c3 : Nat) (w : World) :
 Calls Tryz.prog 180 #[.agg #[.string m.nm, .string m.ds, .bool m.st, .bool m.nat, .int .i64 m.stk, .int .i64 m.loc, .slice o1 m.code.length c1, .slice o2 m.hs.length c2, .slice o3 m.rs.length c3]] w fun e w' => e = .returned (.bool (zQc m)) ∧ Below w.heap.size w w' := by
 unfold zQc
 generalize m.code.length = n1 at *
 generalize m.hs.length = n2 at *
 generalize m.rs.length = n3 at *
 obtain ⟨nm, ds, st, nat, stk, loc, code, hs, rs⟩ := m
 simp only
 have B0 := zA9 w (.cells #[.string nm, .string ds, .bool st, .bool nat, .int .i64 stk, .int .i64 loc, .slice o1 n1 c1, .slice o2 n2 c2, .slice o3 n3 c3] 39)
 by_cases h1 : 0 < n1
 · have h1' : (0 : Int) < n1 := by omega
   rw [decide_eq_true h1]
   go_enter Tryz.func180, Tryz.ntmps180
   go_wp2
   go_ret
   exact ⟨rfl, B0⟩
 have h1' : ¬ (0 : Int) < n1 := by omega
 rw [decide_eq_false h1]
 by_cases h2 : 0 < n2
 · have h2' : (0 : Int) < n2 := by omega
   rw [decide_eq_true h2]
   go_enter Tryz.func180, Tryz.ntmps180
   go_wp2
   go_ret
   exact ⟨rfl, B0⟩
 have h2' : ¬ (0 : Int) < n2 := by omega
 rw [decide_eq_false h2]
 by_cases h3 : 0 < n3
 · have h3' : (0 : Int) < n3 := by omega
   rw [decide_eq_true h3]
   go_enter Tryz.func180, Tryz.ntmps180
   go_wp2
   go_ret
   exact ⟨rfl, B0⟩
 have h3' : ¬ (0 : Int) < n3 := by omega
 rw [decide_eq_false h3]
 by_cases h4 : 0 < stk
 · rw [decide_eq_true h4]
   go_enter Tryz.func180, Tryz.ntmps180
   go_wp2
   go_ret
   exact ⟨rfl, B0⟩
 rw [decide_eq_false h4]
 by_cases h5 : 0 < loc
 · rw [decide_eq_true h5]
   go_enter Tryz.func180, Tryz.ntmps180
   go_wp2
   go_ret
   exact ⟨rfl, B0⟩
 · rw [decide_eq_false h5]
   go_enter Tryz.func180, Tryz.ntmps180
   go_wp2
   go_ret
   exact ⟨rfl, B0⟩
theorem zPw (f o : FD) (B : Nat) (w : World) (c0 : w.cell? ⟨B, 0, none⟩ = some (.string f.nm)) (c1 : w.cell? ⟨B, 1, none⟩ = some (.string f.ds)) :
 Calls Tryz.prog 175 #[.agg #[.string o.nm, .string o.ds, .bool o.st], .pointer (some ⟨B, 0, none⟩)] w fun e w' => e = .returned (.bool (zL6 f o)) ∧ Below w.heap.size w w' := by
 have a0 := fun x => cell_later (zA9 w x) c0
 have a1 := fun x => cell_later (zA9 w x) c1
 have B0 := zA9 w (.cells #[.string o.nm, .string o.ds, .bool o.st] 44)
 unfold zL6
 obtain ⟨nm, ds, st⟩ := f
 obtain ⟨pm, ps, pt⟩ := o
 simp only at *
 cases h1 : pm.toList == nm.toList
 · go_enter Tryz.func175, Tryz.ntmps175
   go_wp2
   go_ret
   exact ⟨rfl, B0⟩
 · cases h2 : ps.toList == ds.toList <;>
   · go_enter Tryz.func175, Tryz.ntmps175
     go_wp2
     go_ret
     exact ⟨rfl, B0⟩
theorem zPp (f o : MD) (x1 x2 x3 : Option Addr) (y1 y2 y3 z1 z2 z3 : Nat) (B : Nat) (w : World) (c0 : w.cell? ⟨B, 0, none⟩ = some (.string f.nm)) (c1 : w.cell? ⟨B, 1, none⟩ = some (.string f.ds)) :
 Calls Tryz.prog 177 #[.agg #[.string o.nm, .string o.ds, .bool o.st, .bool o.nat, .int .i64 o.stk, .int .i64 o.loc, .slice x1 y1 z1, .slice x2 y2 z2, .slice x3 y3 z3], .pointer (some ⟨B, 0, none⟩)] w fun e w' => e = .returned (.bool (zIq f o)) ∧ Below w.heap.size w w' := by
 have a0 := fun x => cell_later (zA9 w x) c0
 have a1 := fun x => cell_later (zA9 w x) c1
 have B0 := zA9 w (.cells #[.string o.nm, .string o.ds, .bool o.st, .bool o.nat, .int .i64 o.stk, .int .i64 o.loc, .slice x1 y1 z1, .slice x2 y2 z2, .slice x3 y3 z3] 39)
 unfold zIq
 obtain ⟨nm, ds, st, nat, stk, loc, code, hs, rs⟩ := f
 obtain ⟨pm, ps, pt, pnat, pstk, ploc, pcode, phs, prs⟩ := o
 simp only at *
 cases h1 : pm.toList == nm.toList
 · go_enter Tryz.func177, Tryz.ntmps177
   go_wp2
   go_ret
   exact ⟨rfl, B0⟩
 · cases h2 : ps.toList == ds.toList <;>
   · go_enter Tryz.func177, Tryz.ntmps177
     go_wp2
     go_ret
     exact ⟨rfl, B0⟩
theorem anyF (f : FD) (B : Nat) (ao : Option Addr) (c : Nat) (l : List FD) (w : World) (h : LAt 3 zFd w ao c l) (c0 : w.cell? ⟨B, 0, none⟩ = some (.string f.nm)) (c1 : w.cell? ⟨B, 1, none⟩ = some (.string f.ds)) :
 Calls Tryz.prog 176 #[.slice ao l.length c, .func (.func 175) #[] #[.pointer (some ⟨B, 0, none⟩)]] w fun e w' => e = .returned (.bool (l.any (zL6 f))) ∧ Below w.heap.size w w' := by
 have hbig := h.big
 obtain ⟨h1, h2, rows, h3, h4⟩ := h
 have := hasQ Tryz.hasF 3 Tryz.isAgg44 Tryz.sizeOf44 rows l.length (fun j hj => by rw [(h4 j l[j] (List.getElem?_eq_getElem hj)).1]; rfl) (fun j => zL6 f (l.getD j ⟨⟨#[]⟩, ⟨#[]⟩, false⟩)) 175 #[.pointer (some ⟨B, 0, none⟩)] (enters_of Tryz.func175 (by kernel_rfl) rfl) ao c w (fun W j hj hW => by
  have e : l.getD j ⟨⟨#[]⟩, ⟨#[]⟩, false⟩ = l[j] := by simp [List.getD_eq_getElem?_getD, List.getElem?_eq_getElem hj]
  rw [e, (h4 j l[j] (List.getElem?_eq_getElem hj)).1]
  refine (zPw f l[j] B W (cell_later hW c0) (cell_later hW c1)).mono ?_
  rintro e w' ⟨rfl, hb⟩
  exact ⟨rfl, next hW hb⟩) hbig h3
 rw [zEi l _ (zL6 f) (fun i x hx => by rw [List.getD_eq_getElem?_getD, hx]; rfl)] at this
 exact this
theorem anyM (f : MD) (B : Nat) (ao : Option Addr) (c : Nat) (l : List MD) (w : World) (h : LAt 9 zB1 w ao c l) (c0 : w.cell? ⟨B, 0, none⟩ = some (.string f.nm)) (c1 : w.cell? ⟨B, 1, none⟩ = some (.string f.ds)) :
 Calls Tryz.prog 104 #[.slice ao l.length c, .func (.func 177) #[] #[.pointer (some ⟨B, 0, none⟩)]] w fun e w' => e = .returned (.bool (l.any (zIq f))) ∧ Below w.heap.size w w' := by
 have hbig := h.big
 obtain ⟨h1, h2, rows, h3, h4⟩ := h
 have := hasQ Tryz.hasM 9 Tryz.isAgg39 Tryz.sizeOf39 rows l.length (fun j hj => by obtain ⟨_, _, _, _, _, _, e, _⟩ := h4 j l[j] (List.getElem?_eq_getElem hj); rw [e]; rfl) (fun j => zIq f (l.getD j ⟨⟨#[]⟩, ⟨#[]⟩, false, false, 0, 0, [], [], []⟩)) 177 #[.pointer (some ⟨B, 0, none⟩)] (enters_of Tryz.func177 (by kernel_rfl) rfl) ao c w (fun W j hj hW => by
  have e : l.getD j ⟨⟨#[]⟩, ⟨#[]⟩, false, false, 0, 0, [], [], []⟩ = l[j] := by simp [List.getD_eq_getElem?_getD, List.getElem?_eq_getElem hj]
  obtain ⟨_, _, _, _, _, _, er, _⟩ := h4 j l[j] (List.getElem?_eq_getElem hj)
  rw [e, er]
  refine (zPp f l[j] _ _ _ _ _ _ _ _ _ B W (cell_later hW c0) (cell_later hW c1)).mono ?_
  rintro e w' ⟨rfl, hb⟩
  exact ⟨rfl, next hW hb⟩) hbig h3
 rw [zEi l _ (zIq f) (fun i x hx => by rw [List.getD_eq_getElem?_getD, hx]; rfl)] at this
 exact this
theorem zLc (f : FD) (ao : Option Addr) (c : Nat) (l : List FD) (w : World) (hs : f.ds.size ≤ 9223372036854775807) (h : LAt 3 zFd w ao c l) :
 Calls Tryz.prog 150 #[.agg #[.string f.nm, .string f.ds, .bool f.st], .slice ao l.length c] w fun e w' => e = .returned (.int .i64 (zGa f l)) ∧ Below w.heap.size w w' := by
 have B0 := zA9 w (.cells #[.string f.nm, .string f.ds, .bool f.st] 44)
 have hA := D.zA0 (anyF f w.heap.size ao c l (w.alloc (.cells #[.string f.nm, .string f.ds, .bool f.st] 44)) (h.below B0 (fun _ _ h => h)) (by simp) (by simp))
 have hN := fun W => D.zA0 (zDc f.nm W)
 have hF := fun W => D.zA0 (zAy f.ds W hs)
 unfold zGa bsB
 generalize l.any (zL6 f) = x3 at *
 generalize zB9 f.nm.data.toList = x1 at *
 generalize zB8 f.ds.data.toList = x2 at *
 clear h
 generalize l.length = n at *
 obtain ⟨nm, ds, st⟩ := f
 simp only at *
 cases x1
 · go_enter Tryz.func150, Tryz.ntmps150
   go_wp2_with fail
   refine (hN _).out.mono ?_
   rintro e w' ⟨rfl, hww⟩; cases hww
   go_wp2
   go_ret
   exact ⟨rfl, B0⟩
 go_enter Tryz.func150, Tryz.ntmps150
 go_wp2_with fail
 refine (hN _).out.mono ?_
 rintro e w' ⟨rfl, hww⟩; cases hww
 cases x2
 · go_wp2_with fail
   refine (hF _).out.mono ?_
   rintro e w' ⟨rfl, hww⟩; cases hww
   go_wp2
   go_ret
   exact ⟨rfl, B0⟩
 go_wp2_with fail
 refine (hF _).out.mono ?_
 rintro e w' ⟨rfl, hww⟩; cases hww
 cases x3 <;>
 · go_wp2_with fail
   refine hA.out.mono ?_
   rintro e w1 ⟨rfl, b1⟩
   go_wp2
   go_ret
   exact ⟨rfl, next B0 b1⟩
theorem zMt (m : MD) (o1 : Option Addr) (c1 : Nat) (o2 : Option Addr) (c2 : Nat) (o3 : Option Addr) (c3 : Nat) (ao : Option Addr) (c : Nat) (l : List MD) (w : World) (hs : m.ds.size ≤ 9223372036854775807) (k2 : LAt 4 zHl w o2 c2 m.hs) (k3 : LAt 3 zAx w o3 c3 m.rs) (h : LAt 9 zB1 w ao c l) :
 Calls Tryz.prog 151 #[.agg #[.string m.nm, .string m.ds, .bool m.st, .bool m.nat, .int .i64 m.stk, .int .i64 m.loc, .slice o1 m.code.length c1, .slice o2 m.hs.length c2, .slice o3 m.rs.length c3], .slice ao l.length c] w fun e w' => e = .returned (.int .i64 (zFr m l)) ∧ Below w.heap.size w w' := by
 have B0 := zA9 w (.cells #[.string m.nm, .string m.ds, .bool m.st, .bool m.nat, .int .i64 m.stk, .int .i64 m.loc, .slice o1 m.code.length c1, .slice o2 m.hs.length c2, .slice o3 m.rs.length c3] 39)
 have hA := fun W (hW : Below (w.alloc (.cells #[.string m.nm, .string m.ds, .bool m.st, .bool m.nat, .int .i64 m.stk, .int .i64 m.loc, .slice o1 m.code.length c1, .slice o2 m.hs.length c2, .slice o3 m.rs.length c3] 39)).heap.size (w.alloc (.cells #[.string m.nm, .string m.ds, .bool m.st, .bool m.nat, .int .i64 m.stk, .int .i64 m.loc, .slice o1 m.code.length c1, .slice o2 m.hs.length c2, .slice o3 m.rs.length c3] 39)) W) => D.zA0 (anyM m w.heap.size ao c l W (h.below (next B0 hW) (fun _ _ h => h.below (next B0 hW))) (cell_later hW (by simp)) (cell_later hW (by simp)))
 have hN := fun W => D.zA0 (zDc m.nm W)
 have hD := fun W => D.zA0 (zHz m.ds W hs)
 have hW1 := fun W => D.zA0 (zDv m.stk 16 W)
 have hW2 := fun W => D.zA0 (zDv m.loc 16 W)
 have hBd := fun W => D.zA0 (zKr m o1 c1 o2 c2 o3 c3 W)
 have hM := fun W (hW : Below w.heap.size w W) => D.zA0 (zOa m o1 m.code.length c1 o2 c2 o3 c3 W (k2.below hW (fun _ _ h => h)) (k3.below hW (fun _ _ h => h.below hW)))
 unfold zFr bsB
 generalize l.any (zIq m) = x3 at *
 generalize zB9 m.nm.data.toList = x1 at *
 generalize zBj m.ds = x2 at *
 generalize inB m.stk 16 = x4 at *
 generalize inB m.loc 16 = x5 at *
 generalize zQc m = x6 at *
 generalize zH8 m = Z at *
 clear h k2 k3
 generalize l.length = n at *
 generalize m.code.length = n1 at *
 generalize m.hs.length = n2 at *
 generalize m.rs.length = n3 at *
 obtain ⟨nm, ds, st, nat, stk, loc, code, hh, rr⟩ := m
 simp only at *
 have hcell : ∀ W, Below (w.alloc (.cells #[.string nm, .string ds, .bool st, .bool nat, .int .i64 stk, .int .i64 loc, .slice o1 n1 c1, .slice o2 n2 c2, .slice o3 n3 c3] 39)).heap.size (w.alloc (.cells #[.string nm, .string ds, .bool st, .bool nat, .int .i64 stk, .int .i64 loc, .slice o1 n1 c1, .slice o2 n2 c2, .slice o3 n3 c3] 39)) W → W.heap[w.heap.size]? = some (.cells #[.string nm, .string ds, .bool st, .bool nat, .int .i64 stk, .int .i64 loc, .slice o1 n1 c1, .slice o2 n2 c2, .slice o3 n3 c3] 39 (0, 0)) := fun W hW => (hW.block _ (by simp)).trans (heap_alloc_new _ _)
 have cells : ∀ W : World, W.heap[w.heap.size]? = some (.cells #[.string nm, .string ds, .bool st, .bool nat, .int .i64 stk, .int .i64 loc, .slice o1 n1 c1, .slice o2 n2 c2, .slice o3 n3 c3] 39 (0, 0)) → (W.cell? ⟨w.heap.size, 0, none⟩ = some (.string nm) ∧ W.cell? ⟨w.heap.size, 1, none⟩ = some (.string ds) ∧ W.cell? ⟨w.heap.size, 2, none⟩ = some (.bool st) ∧ W.cell? ⟨w.heap.size, 3, none⟩ = some (.bool nat)) ∧ (W.cell? ⟨w.heap.size, 4, none⟩ = some (.int .i64 stk) ∧ W.cell? ⟨w.heap.size, 5, none⟩ = some (.int .i64 loc) ∧ W.cell? ⟨w.heap.size, 6, none⟩ = some (.slice o1 n1 c1) ∧ W.cell? ⟨w.heap.size, 7, none⟩ = some (.slice o2 n2 c2) ∧ W.cell? ⟨w.heap.size, 8, none⟩ = some (.slice o3 n3 c3)) := by
  intro W hW
  refine ⟨⟨?_, ?_, ?_, ?_⟩, ?_, ?_, ?_, ?_, ?_⟩ <;> (rw [cell_of_row _ _ _ _ 39 (0, 0) hW]; rfl)
 generalize e1 : decide (n1 ≤ 1024) = y1
 generalize e2 : decide (n2 ≤ 64) = y2
 generalize e3 : decide (n3 ≤ 64) = y3
 have E1 := D.zA0 e1
 have E2 := D.zA0 e2
 have E3 := D.zA0 e3
 clear e1 e2 e3
 go_enter Tryz.func151, Tryz.ntmps151
 go_wp2_with fail
 refine (hN _).out.mono ?_
 rintro e w' ⟨rfl, hww⟩; cases hww
 cases x1
 · go_wp2
   go_ret
   exact ⟨rfl, B0⟩
 go_wp2_with fail
 refine (hD _).out.mono ?_
 rintro e w1 ⟨rfl, b1⟩
 cases x2
 · go_wp2
   go_ret
   exact ⟨rfl, next B0 b1⟩
 have hA' := hA w1 b1
 clear hA hD hN
 go_wp2_with fail
 refine hA'.out.mono ?_
 rintro e w2 ⟨rfl, b2⟩
 clear hA'
 cases x3
 rotate_left
 · go_wp2
   go_ret
   exact ⟨rfl, next B0 (next b1 b2)⟩
 have hb2 := next b1 b2
 obtain ⟨⟨l0, l1, l2, l3⟩, l4, l5, l6, l7, l8⟩ := cells _ (hcell _ hb2)
 go_wp2_with fail
 refine (hW1 _).out.mono ?_
 rintro e w' ⟨rfl, hww⟩; cases hww
 cases x4
 · go_wp2
   go_ret
   exact ⟨rfl, next B0 hb2⟩
 go_wp2_with fail
 refine (hW2 _).out.mono ?_
 rintro e w' ⟨rfl, hww⟩; cases hww
 cases x5
 · go_wp2
   go_ret
   exact ⟨rfl, next B0 hb2⟩
 cases y1
 · have q1' : (1024 : Int) < n1 := by have := of_decide_eq_false E1.out; omega
   go_wp2
   go_ret
   exact ⟨rfl, next B0 hb2⟩
 have q1' : ¬ (1024 : Int) < n1 := by have := of_decide_eq_true E1.out; omega
 clear hW1 hW2
 cases nat
 · cases y2
   · have q2' : (64 : Int) < n2 := by have := of_decide_eq_false E2.out; omega
     go_wp2
     go_ret
     exact ⟨rfl, next B0 hb2⟩
   have q2' : ¬ (64 : Int) < n2 := by have := of_decide_eq_true E2.out; omega
   cases y3
   · have q3' : (64 : Int) < n3 := by have := of_decide_eq_false E3.out; omega
     go_wp2
     go_ret
     exact ⟨rfl, next B0 hb2⟩
   have q3' : ¬ (64 : Int) < n3 := by have := of_decide_eq_true E3.out; omega
   have hM' := hM w2 (next B0 hb2)
   clear hM hBd
   go_wp2_with fail
   refine hM'.out.mono ?_
   rintro e w3 ⟨rfl, b3⟩
   go_wp2
   go_ret
   exact ⟨rfl, next B0 (next hb2 b3)⟩
 · have hB' := hBd w2
   clear hBd
   cases x6
   rotate_left
   · go_wp2_with fail
     refine hB'.out.mono ?_
     rintro e w3 ⟨rfl, b3⟩
     go_wp2
     go_ret
     exact ⟨rfl, next B0 (next hb2 b3)⟩
   · go_wp2_with fail
     refine hB'.out.mono ?_
     rintro e w3 ⟨rfl, b3⟩
     have hb3 := next hb2 b3
     obtain ⟨⟨j0, j1, j2, j3⟩, j4, j5, j6, j7, j8⟩ := cells _ (hcell _ hb3)
     cases y2
     · have q2' : (64 : Int) < n2 := by have := of_decide_eq_false E2.out; omega
       go_wp2
       go_ret
       exact ⟨rfl, next B0 hb3⟩
     have q2' : ¬ (64 : Int) < n2 := by have := of_decide_eq_true E2.out; omega
     cases y3
     · have q3' : (64 : Int) < n3 := by have := of_decide_eq_false E3.out; omega
       go_wp2
       go_ret
       exact ⟨rfl, next B0 hb3⟩
     have q3' : ¬ (64 : Int) < n3 := by have := of_decide_eq_true E3.out; omega
     have hM' := hM w3 (next B0 hb3)
     clear hM
     go_wp2_with fail
     refine hM'.out.mono ?_
     rintro e w4 ⟨rfl, b4⟩
     go_wp2
     go_ret
     exact ⟨rfl, next B0 (next hb3 b4)⟩
end Go.Proofs.YtpehimfnkmepnaaGreat.Q
