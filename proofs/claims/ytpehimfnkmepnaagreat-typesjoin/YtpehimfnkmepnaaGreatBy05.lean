import Derived.Test.YtpehimfnkmepnaaGreatBy04
set_option maxRecDepth 8000
set_option maxHeartbeats 40000000
namespace Go.Proofs.YtpehimfnkmepnaaGreat.Q
open Go.RowKit D
theorem zTg (f o : FD) (B : Nat) (w : World) (c0 : w.cell? ⟨B, 0, none⟩ = some (.string f.nm)) (c1 : w.cell? ⟨B, 1, none⟩ = some (.string f.ds)) :
 Calls Tryz.prog 175 #[.agg #[.string o.nm, .string o.ds, .bool o.st], .pointer (some ⟨B, 0, none⟩)] w fun e w' => e = .returned (.bool (zHm f o)) ∧ Below w.heap.size w w' := by
 have a0 := fun x => cell_later (zA6 w x) c0
 have a1 := fun x => cell_later (zA6 w x) c1
 have B0 := zA6 w (.cells #[.string o.nm, .string o.ds, .bool o.st] 44)
 unfold zHm
 obtain ⟨nm, ds, st⟩ := f
 obtain ⟨pm, ps, pt⟩ := o
 simp only at *
 cases h1 : pm.toList == nm.toList
 · go_enter Tryz.func175, Tryz.ntmps175
   go_wp2
   go_ret
   exact ⟨rfl, B0⟩
 · cases h2 : ps.toList == ds.toList <;>
   · go_enter Tryz.func175, Tryz.ntmps175
     go_wp2
     go_ret
     exact ⟨rfl, B0⟩
theorem zTu (f o : MD) (x1 x2 x3 : Option Addr) (y1 y2 y3 z1 z2 z3 : Nat) (B : Nat) (w : World) (c0 : w.cell? ⟨B, 0, none⟩ = some (.string f.nm)) (c1 : w.cell? ⟨B, 1, none⟩ = some (.string f.ds)) :
 Calls Tryz.prog 177 #[.agg #[.string o.nm, .string o.ds, .bool o.st, .bool o.nat, .int .i64 o.stk, .int .i64 o.loc, .slice x1 y1 z1, .slice x2 y2 z2, .slice x3 y3 z3], .pointer (some ⟨B, 0, none⟩)] w fun e w' => e = .returned (.bool (zHt f o)) ∧ Below w.heap.size w w' := by
 have a0 := fun x => cell_later (zA6 w x) c0
 have a1 := fun x => cell_later (zA6 w x) c1
 have B0 := zA6 w (.cells #[.string o.nm, .string o.ds, .bool o.st, .bool o.nat, .int .i64 o.stk, .int .i64 o.loc, .slice x1 y1 z1, .slice x2 y2 z2, .slice x3 y3 z3] 39)
 unfold zHt
 obtain ⟨nm, ds, st, nat, stk, loc, code, hs, rs⟩ := f
 obtain ⟨pm, ps, pt, pnat, pstk, ploc, pcode, phs, prs⟩ := o
 simp only at *
 cases h1 : pm.toList == nm.toList
 · go_enter Tryz.func177, Tryz.ntmps177
   go_wp2
   go_ret
   exact ⟨rfl, B0⟩
 · cases h2 : ps.toList == ds.toList <;>
   · go_enter Tryz.func177, Tryz.ntmps177
     go_wp2
     go_ret
     exact ⟨rfl, B0⟩
theorem anyF (f : FD) (B : Nat) (ao : Option Addr) (c : Nat) (l : List FD) (w : World) (h : LAt 3 zH8 w ao c l) (c0 : w.cell? ⟨B, 0, none⟩ = some (.string f.nm)) (c1 : w.cell? ⟨B, 1, none⟩ = some (.string f.ds)) :
 Calls Tryz.prog 176 #[.slice ao l.length c, .func (.func 175) #[] #[.pointer (some ⟨B, 0, none⟩)]] w fun e w' => e = .returned (.bool (l.any (zHm f))) ∧ Below w.heap.size w w' := by
 have hbig := h.big
 obtain ⟨h1, h2, rows, h3, h4⟩ := h
 have := hasQ Tryz.hasF 3 Tryz.isAgg44 Tryz.sizeOf44 rows l.length (fun j hj => by rw [(h4 j l[j] (List.getElem?_eq_getElem hj)).1]; rfl) (fun j => zHm f (l.getD j ⟨⟨#[]⟩, ⟨#[]⟩, false⟩)) 175 #[.pointer (some ⟨B, 0, none⟩)] (enters_of Tryz.func175 (by kernel_rfl) rfl) ao c w (fun W j hj hW => by
  have e : l.getD j ⟨⟨#[]⟩, ⟨#[]⟩, false⟩ = l[j] := by simp [List.getD_eq_getElem?_getD, List.getElem?_eq_getElem hj]
  rw [e, (h4 j l[j] (List.getElem?_eq_getElem hj)).1]
  refine (zTg f l[j] B W (cell_later hW c0) (cell_later hW c1)).mono ?_
  rintro e w' ⟨rfl, hb⟩
  exact ⟨rfl, next hW hb⟩) hbig h3
 rw [zFw l _ (zHm f) (fun i x hx => by rw [List.getD_eq_getElem?_getD, hx]; rfl)] at this
 exact this
theorem anyM (f : MD) (B : Nat) (ao : Option Addr) (c : Nat) (l : List MD) (w : World) (h : LAt 9 zBk w ao c l) (c0 : w.cell? ⟨B, 0, none⟩ = some (.string f.nm)) (c1 : w.cell? ⟨B, 1, none⟩ = some (.string f.ds)) :
 Calls Tryz.prog 104 #[.slice ao l.length c, .func (.func 177) #[] #[.pointer (some ⟨B, 0, none⟩)]] w fun e w' => e = .returned (.bool (l.any (zHt f))) ∧ Below w.heap.size w w' := by
 have hbig := h.big
 obtain ⟨h1, h2, rows, h3, h4⟩ := h
 have := hasQ Tryz.hasM 9 Tryz.isAgg39 Tryz.sizeOf39 rows l.length (fun j hj => by obtain ⟨_, _, _, _, _, _, e, _⟩ := h4 j l[j] (List.getElem?_eq_getElem hj); rw [e]; rfl) (fun j => zHt f (l.getD j ⟨⟨#[]⟩, ⟨#[]⟩, false, false, 0, 0, [], [], []⟩)) 177 #[.pointer (some ⟨B, 0, none⟩)] (enters_of Tryz.func177 (by kernel_rfl) rfl) ao c w (fun W j hj hW => by
  have e : l.getD j ⟨⟨#[]⟩, ⟨#[]⟩, false, false, 0, 0, [], [], []⟩ = l[j] := by simp [List.getD_eq_getElem?_getD, List.getElem?_eq_getElem hj]
  obtain ⟨_, _, _, _, _, _, er, _⟩ := h4 j l[j] (List.getElem?_eq_getElem hj)
  rw [e, er]
  refine (zTu f l[j] _ _ _ _ _ _ _ _ _ B W (cell_later hW c0) (cell_later hW c1)).mono ?_
  rintro e w' ⟨rfl, hb⟩
  exact ⟨rfl, next hW hb⟩) hbig h3
 rw [zFw l _ (zHt f) (fun i x hx => by rw [List.getD_eq_getElem?_getD, hx]; rfl)] at this
 exact this
theorem zO2 (f : FD) (ao : Option Addr) (c : Nat) (l : List FD) (w : World) (hs : f.ds.size ≤ 9223372036854775807) (h : LAt 3 zH8 w ao c l) :
 Calls Tryz.prog 150 #[.agg #[.string f.nm, .string f.ds, .bool f.st], .slice ao l.length c] w fun e w' => e = .returned (.int .i64 (zFh f l)) ∧ Below w.heap.size w w' := by
 have B0 := zA6 w (.cells #[.string f.nm, .string f.ds, .bool f.st] 44)
 have hA := D.zA0 (anyF f w.heap.size ao c l (w.alloc (.cells #[.string f.nm, .string f.ds, .bool f.st] 44)) (h.below B0 (fun _ _ h => h)) (by simp) (by simp))
 have hN := fun W => D.zA0 (zEg f.nm W)
 have hF := fun W => D.zA0 (zB5 f.ds W hs)
 unfold zFh bsB
 generalize l.any (zHm f) = x3 at *
 generalize zAw f.nm.data.toList = x1 at *
 generalize zAp f.ds.data.toList = x2 at *
 clear h
 generalize l.length = n at *
 obtain ⟨nm, ds, st⟩ := f
 simp only at *
 cases x1
 · go_enter Tryz.func150, Tryz.ntmps150
   go_wp2_with fail
   refine (hN _).out.mono ?_
   rintro e w' ⟨rfl, hww⟩; cases hww
   go_wp2
   go_ret
   exact ⟨rfl, B0⟩
 go_enter Tryz.func150, Tryz.ntmps150
 go_wp2_with fail
 refine (hN _).out.mono ?_
 rintro e w' ⟨rfl, hww⟩; cases hww
 cases x2
 · go_wp2_with fail
   refine (hF _).out.mono ?_
   rintro e w' ⟨rfl, hww⟩; cases hww
   go_wp2
   go_ret
   exact ⟨rfl, B0⟩
 go_wp2_with fail
 refine (hF _).out.mono ?_
 rintro e w' ⟨rfl, hww⟩; cases hww
 cases x3 <;>
 · go_wp2_with fail
   refine hA.out.mono ?_
   rintro e w1 ⟨rfl, b1⟩
   go_wp2
   go_ret
   exact ⟨rfl, next B0 b1⟩
theorem zPt (m : MD) (o1 : Option Addr) (c1 : Nat) (o2 : Option Addr) (c2 : Nat) (o3 : Option Addr) (c3 : Nat) (ao : Option Addr) (c : Nat) (l : List MD) (w : World) (hs : m.ds.size ≤ 9223372036854775807) (k2 : LAt 4 zJ9 w o2 c2 m.hs) (k3 : LAt 3 zBi w o3 c3 m.rs) (h : LAt 9 zBk w ao c l) :
 Calls Tryz.prog 151 #[.agg #[.string m.nm, .string m.ds, .bool m.st, .bool m.nat, .int .i64 m.stk, .int .i64 m.loc, .slice o1 m.code.length c1, .slice o2 m.hs.length c2, .slice o3 m.rs.length c3], .slice ao l.length c] w fun e w' => e = .returned (.int .i64 (zGl m l)) ∧ Below w.heap.size w w' := by
 have B0 := zA6 w (.cells #[.string m.nm, .string m.ds, .bool m.st, .bool m.nat, .int .i64 m.stk, .int .i64 m.loc, .slice o1 m.code.length c1, .slice o2 m.hs.length c2, .slice o3 m.rs.length c3] 39)
 have hA := fun W (hW : Below (w.alloc (.cells #[.string m.nm, .string m.ds, .bool m.st, .bool m.nat, .int .i64 m.stk, .int .i64 m.loc, .slice o1 m.code.length c1, .slice o2 m.hs.length c2, .slice o3 m.rs.length c3] 39)).heap.size (w.alloc (.cells #[.string m.nm, .string m.ds, .bool m.st, .bool m.nat, .int .i64 m.stk, .int .i64 m.loc, .slice o1 m.code.length c1, .slice o2 m.hs.length c2, .slice o3 m.rs.length c3] 39)) W) => D.zA0 (anyM m w.heap.size ao c l W (h.below (next B0 hW) (fun _ _ h => h.below (next B0 hW))) (cell_later hW (by simp)) (cell_later hW (by simp)))
 have hN := fun W => D.zA0 (zEg m.nm W)
 have hD := fun W => D.zA0 (zK4 m.ds W hs)
 have hW1 := fun W => D.zA0 (zEv m.stk 16 W)
 have hW2 := fun W => D.zA0 (zEv m.loc 16 W)
 have hBd := fun W => D.zA0 (zN3 m o1 c1 o2 c2 o3 c3 W)
 have hM := fun W (hW : Below w.heap.size w W) => D.zA0 (zS7 m o1 m.code.length c1 o2 c2 o3 c3 W (k2.below hW (fun _ _ h => h)) (k3.below hW (fun _ _ h => h.below hW)))
 unfold zGl bsB
 generalize l.any (zHt m) = x3 at *
 generalize zAw m.nm.data.toList = x1 at *
 generalize zBr m.ds = x2 at *
 generalize inB m.stk 16 = x4 at *
 generalize inB m.loc 16 = x5 at *
 generalize zTe m = x6 at *
 generalize zJi m = Z at *
 clear h k2 k3
 generalize l.length = n at *
 generalize m.code.length = n1 at *
 generalize m.hs.length = n2 at *
 generalize m.rs.length = n3 at *
 obtain ⟨nm, ds, st, nat, stk, loc, code, hh, rr⟩ := m
 simp only at *
 have hcell : ∀ W, Below (w.alloc (.cells #[.string nm, .string ds, .bool st, .bool nat, .int .i64 stk, .int .i64 loc, .slice o1 n1 c1, .slice o2 n2 c2, .slice o3 n3 c3] 39)).heap.size (w.alloc (.cells #[.string nm, .string ds, .bool st, .bool nat, .int .i64 stk, .int .i64 loc, .slice o1 n1 c1, .slice o2 n2 c2, .slice o3 n3 c3] 39)) W → W.heap[w.heap.size]? = some (.cells #[.string nm, .string ds, .bool st, .bool nat, .int .i64 stk, .int .i64 loc, .slice o1 n1 c1, .slice o2 n2 c2, .slice o3 n3 c3] 39 (0, 0)) := fun W hW => (hW.block _ (by simp)).trans (heap_alloc_new _ _)
 have cells : ∀ W : World, W.heap[w.heap.size]? = some (.cells #[.string nm, .string ds, .bool st, .bool nat, .int .i64 stk, .int .i64 loc, .slice o1 n1 c1, .slice o2 n2 c2, .slice o3 n3 c3] 39 (0, 0)) → (W.cell? ⟨w.heap.size, 0, none⟩ = some (.string nm) ∧ W.cell? ⟨w.heap.size, 1, none⟩ = some (.string ds) ∧ W.cell? ⟨w.heap.size, 2, none⟩ = some (.bool st) ∧ W.cell? ⟨w.heap.size, 3, none⟩ = some (.bool nat)) ∧ (W.cell? ⟨w.heap.size, 4, none⟩ = some (.int .i64 stk) ∧ W.cell? ⟨w.heap.size, 5, none⟩ = some (.int .i64 loc) ∧ W.cell? ⟨w.heap.size, 6, none⟩ = some (.slice o1 n1 c1) ∧ W.cell? ⟨w.heap.size, 7, none⟩ = some (.slice o2 n2 c2) ∧ W.cell? ⟨w.heap.size, 8, none⟩ = some (.slice o3 n3 c3)) := by
  intro W hW
  refine ⟨⟨?_, ?_, ?_, ?_⟩, ?_, ?_, ?_, ?_, ?_⟩ <;> (rw [cell_of_row _ _ _ _ 39 (0, 0) hW]; rfl)
 generalize e1 : decide (n1 ≤ 1024) = y1
 generalize e2 : decide (n2 ≤ 64) = y2
 generalize e3 : decide (n3 ≤ 64) = y3
 have E1 := D.zA0 e1
 have E2 := D.zA0 e2
 have E3 := D.zA0 e3
 clear e1 e2 e3
 go_enter Tryz.func151, Tryz.ntmps151
 go_wp2_with fail
 refine (hN _).out.mono ?_
 rintro e w' ⟨rfl, hww⟩; cases hww
 cases x1
 · go_wp2
   go_ret
   exact ⟨rfl, B0⟩
 go_wp2_with fail
 refine (hD _).out.mono ?_
 rintro e w1 ⟨rfl, b1⟩
 cases x2
 · go_wp2
   go_ret
   exact ⟨rfl, next B0 b1⟩
 have hA' := hA w1 b1
 clear hA hD hN
 go_wp2_with fail
 refine hA'.out.mono ?_
 rintro e w2 ⟨rfl, b2⟩
 clear hA'
 cases x3
 rotate_left
 · go_wp2
   go_ret
   exact ⟨rfl, next B0 (next b1 b2)⟩
 have hb2 := next b1 b2
 obtain ⟨⟨l0, l1, l2, l3⟩, l4, l5, l6, l7, l8⟩ := cells _ (hcell _ hb2)
 go_wp2_with fail
 refine (hW1 _).out.mono ?_
 rintro e w' ⟨rfl, hww⟩; cases hww
 cases x4
 · go_wp2
   go_ret
   exact ⟨rfl, next B0 hb2⟩
 go_wp2_with fail
 refine (hW2 _).out.mono ?_
 rintro e w' ⟨rfl, hww⟩; cases hww
 cases x5
 · go_wp2
   go_ret
   exact ⟨rfl, next B0 hb2⟩
 cases y1
 · have q1' : (1024 : Int) < n1 := by have := of_decide_eq_false E1.out; omega
   go_wp2
   go_ret
   exact ⟨rfl, next B0 hb2⟩
 have q1' : ¬ (1024 : Int) < n1 := by have := of_decide_eq_true E1.out; omega
 clear hW1 hW2
 cases nat
 · cases y2
   · have q2' : (64 : Int) < n2 := by have := of_decide_eq_false E2.out; omega
     go_wp2
     go_ret
     exact ⟨rfl, next B0 hb2⟩
   have q2' : ¬ (64 : Int) < n2 := by have := of_decide_eq_true E2.out; omega
   cases y3
   · have q3' : (64 : Int) < n3 := by have := of_decide_eq_false E3.out; omega
     go_wp2
     go_ret
     exact ⟨rfl, next B0 hb2⟩
   have q3' : ¬ (64 : Int) < n3 := by have := of_decide_eq_true E3.out; omega
   have hM' := hM w2 (next B0 hb2)
   clear hM hBd
   go_wp2_with fail
   refine hM'.out.mono ?_
   rintro e w3 ⟨rfl, b3⟩
   go_wp2
   go_ret
   exact ⟨rfl, next B0 (next hb2 b3)⟩
 · have hB' := hBd w2
   clear hBd
   cases x6
   rotate_left
   · go_wp2_with fail
     refine hB'.out.mono ?_
     rintro e w3 ⟨rfl, b3⟩
     go_wp2
     go_ret
     exact ⟨rfl, next B0 (next hb2 b3)⟩
   · go_wp2_with fail
     refine hB'.out.mono ?_
     rintro e w3 ⟨rfl, b3⟩
     have hb3 := next hb2 b3
     obtain ⟨⟨j0, j1, j2, j3⟩, j4, j5, j6, j7, j8⟩ := cells _ (hcell _ hb3)
     cases y2
     · have q2' : (64 : Int) < n2 := by have := of_decide_eq_false E2.out; omega
       go_wp2
       go_ret
       exact ⟨rfl, next B0 hb3⟩
     have q2' : ¬ (64 : Int) < n2 := by have := of_decide_eq_true E2.out; omega
     cases y3
     · have q3' : (64 : Int) < n3 := by have := of_decide_eq_false E3.out; omega
       go_wp2
       go_ret
       exact ⟨rfl, next B0 hb3⟩
     have q3' : ¬ (64 : Int) < n3 := by have := of_decide_eq_true E3.out; omega
     have hM' := hM w3 (next B0 hb3)
     clear hM
     go_wp2_with fail
     refine hM'.out.mono ?_
     rintro e w4 ⟨rfl, b4⟩
     go_wp2
     go_ret
     exact ⟨rfl, next B0 (next hb3 b4)⟩
theorem zQ9 {l : List FD} {j : Nat} {x : FD} (h : l[j]? = some x) : zCs (l.take j) (l.drop j) = if zFh x (l.take j) = 0 then zCs (l.take (j + 1)) (l.drop (j + 1)) else zFh x (l.take j) := by
 obtain ⟨hj, e⟩ := List.getElem?_eq_some_iff.1 h
 rw [List.drop_eq_getElem_cons hj, e, List.take_add_one, h]
 rfl
theorem zQj {l : List MD} {j : Nat} {x : MD} (h : l[j]? = some x) : zEb (l.take j) (l.drop j) = if zGl x (l.take j) = 0 then zEb (l.take (j + 1)) (l.drop (j + 1)) else zGl x (l.take j) := by
 obtain ⟨hj, e⟩ := List.getElem?_eq_some_iff.1 h
 rw [List.drop_eq_getElem_cons hj, e, List.take_add_one, h]
 rfl
theorem LAt.row {α : Type} {k : Nat} {R : World → List Value → α → Prop} {w : World} {ao : Option Addr} {c : Nat} {l : List α} (h : LAt k R w ao c l) {j : Nat} {x : α} (hx : l[j]? = some x) :
 ∃ b off r, ao = some ⟨b, off, none⟩ ∧ R w r x ∧ ∀ i v, r[i]? = some v → w.cell? ⟨b, off + j * k + i, none⟩ = some v := by
 obtain ⟨_, _, rows, h3, h4⟩ := h
 have hj : j < l.length := (List.getElem?_eq_some_iff.1 hx).1
 obtain ⟨b, off, e, _, hc⟩ := h3 (by omega)
 exact ⟨b, off, rows j, e, h4 j x hx, hc j hj⟩
theorem LAt.lens {α : Type} {k : Nat} {R : World → List Value → α → Prop} {w : World} {ao : Option Addr} {c : Nat} {l : List α} (h : LAt k R w ao c l) : l.length ≤ c ∧ c ≤ 9223372036854775807 := by
 have h1 := h.1; have h2 := h.2.1; unfold maxLen at h2; omega
theorem zNk (k : KD) (v : Value) (w : World) (h : zAg w v k) : Calls Tryz.prog 103 #[v] w fun e w' => e = .returned (.int .i64 (zDl k)) ∧ Below w.heap.size w w' := by
 obtain ⟨o1, c1, o2, c2, o3, c3, rfl, s1, s2, k1, k2, k3⟩ := h
 obtain ⟨nm, sup, pool, fs, ms⟩ := k
 simp only at *
 have B0 := zA6 w (.cells #[.string nm, .string sup, .slice o1 pool.length c1, .slice o2 fs.length c2, .slice o3 ms.length c3] 31)
 have hN1 := fun W => D.zA0 (zEg nm W)
 have hN2 := fun W => D.zA0 (zEg sup W)
 have hC := D.zA0 (zRi o1 c1 pool _ (k1.below B0 (fun _ _ h => h)))
 have hF : ∀ (W : World) (hW : Below w.heap.size w W) (x : FD) (j : Nat), x.ds.size ≤ 9223372036854775807 → j ≤ fs.length → Hid (Calls Tryz.prog 150 #[.agg #[.string x.nm, .string x.ds, .bool x.st], .slice o2 j c2] W fun e w' => e = .returned (.int .i64 (zFh x (fs.take j))) ∧ Below W.heap.size W w') := by
  intro W hW x j hx hj
  have := zO2 x o2 c2 (fs.take j) W hx ((k2.take j).below hW (fun _ _ h => h))
  rw [List.length_take, Nat.min_eq_left hj] at this
  exact this
 have hM : ∀ (W : World) (hW : Below w.heap.size w W) (x : MD) (p1 : Option Addr) (q1 : Nat) (p2 : Option Addr) (q2 : Nat) (p3 : Option Addr) (q3 : Nat) (j : Nat), x.ds.size ≤ 9223372036854775807 → LAt 4 zJ9 W p2 q2 x.hs → LAt 3 zBi W p3 q3 x.rs → j ≤ ms.length → Hid (Calls Tryz.prog 151 #[.agg #[.string x.nm, .string x.ds, .bool x.st, .bool x.nat, .int .i64 x.stk, .int .i64 x.loc, .slice p1 x.code.length q1, .slice p2 x.hs.length q2, .slice p3 x.rs.length q3], .slice o3 j c3] W fun e w' => e = .returned (.int .i64 (zGl x (ms.take j))) ∧ Below W.heap.size W w') := by
  intro W hW x p1 q1 p2 q2 p3 q3 j hx hh hr hj
  have := zPt x p1 q1 p2 q2 p3 q3 o3 c3 (ms.take j) W hx hh hr ((k3.take j).below hW (fun _ _ h => h.below hW))
  rw [List.length_take, Nat.min_eq_left hj] at this
  exact this
 have rowF : ∀ (W : World) (hW : Below w.heap.size w W) (j : Nat) (x : FD), fs[j]? = some x → ∃ b off, o2 = some ⟨b, off, none⟩ ∧ x.ds.size ≤ 9223372036854775807 ∧ W.cell? ⟨b, off + j * 3, none⟩ = some (.string x.nm) ∧ W.cell? ⟨b, off + j * 3 + 1, none⟩ = some (.string x.ds) ∧ W.cell? ⟨b, off + j * 3 + 2, none⟩ = some (.bool x.st) := by
  intro W hW j x hx
  obtain ⟨b, off, r, e, ⟨rfl, _, hd⟩, hc⟩ := (k2.below hW (fun _ _ h => h)).row hx
  exact ⟨b, off, e, hd, hc 0 _ rfl, hc 1 _ rfl, hc 2 _ rfl⟩
 have rowM : ∀ (W : World) (hW : Below w.heap.size w W) (j : Nat) (x : MD), ms[j]? = some x → ∃ b off p1 q1 p2 q2 p3 q3, o3 = some ⟨b, off, none⟩ ∧ x.ds.size ≤ 9223372036854775807 ∧ LAt 4 zJ9 W p2 q2 x.hs ∧ LAt 3 zBi W p3 q3 x.rs ∧
  (W.cell? ⟨b, off + j * 9, none⟩ = some (.string x.nm) ∧ W.cell? ⟨b, off + j * 9 + 1, none⟩ = some (.string x.ds) ∧ W.cell? ⟨b, off + j * 9 + 2, none⟩ = some (.bool x.st) ∧ W.cell? ⟨b, off + j * 9 + 3, none⟩ = some (.bool x.nat)) ∧
  (W.cell? ⟨b, off + j * 9 + 4, none⟩ = some (.int .i64 x.stk) ∧ W.cell? ⟨b, off + j * 9 + 5, none⟩ = some (.int .i64 x.loc) ∧ W.cell? ⟨b, off + j * 9 + 6, none⟩ = some (.slice p1 x.code.length q1) ∧ W.cell? ⟨b, off + j * 9 + 7, none⟩ = some (.slice p2 x.hs.length q2) ∧ W.cell? ⟨b, off + j * 9 + 8, none⟩ = some (.slice p3 x.rs.length q3)) := by
  intro W hW j x hx
  obtain ⟨b, off, r, e, ⟨p1, q1, p2, q2, p3, q3, rfl, _, hd, _, hh, hr⟩, hc⟩ := (k3.below hW (fun _ _ h => h.below hW)).row hx
  exact ⟨b, off, p1, q1, p2, q2, p3, q3, e, hd, hh, hr, ⟨hc 0 _ rfl, hc 1 _ rfl, hc 2 _ rfl, hc 3 _ rfl⟩, hc 4 _ rfl, hc 5 _ rfl, hc 6 _ rfl, hc 7 _ rfl, hc 8 _ rfl⟩
 have ln2 := k2.lens
 have ln3 := k3.lens
 have FE := D.zA0 (show zCs [] fs = zCs (fs.take 0) (fs.drop 0) by simp)
 have ME := D.zA0 (show zEb [] ms = zEb (ms.take 0) (ms.drop 0) by simp)
 unfold zDl bsB
 simp only
 generalize zCs [] fs = ZF at *
 generalize zEb [] ms = ZM at *
 generalize hR : (if ZF = 0 then ZM else ZF) = R at *
 have HR := D.zA0 hR
 clear hR
 generalize zAw nm.data.toList = x1 at *
 generalize zAw sup.data.toList = x2 at *
 generalize pool.all zB2 = x3 at *
 clear k1 k2 k3
 generalize pool.length = n1 at *
 have GF := D.zA0 (Eq.refl fs.length)
 have GM := D.zA0 (Eq.refl ms.length)
 revert GF GM
 generalize hn2 : fs.length = n2 at *
 generalize hn3 : ms.length = n3 at *
 intro GM GF
 have N2 := D.zA0 hn2
 have N3 := D.zA0 hn3
 clear hn2 hn3 GM GF
 obtain ⟨lf1, lf2⟩ := ln2
 obtain ⟨lm1, lm2⟩ := ln3
 have hcell : ∀ W, Below (w.alloc (.cells #[.string nm, .string sup, .slice o1 n1 c1, .slice o2 n2 c2, .slice o3 n3 c3] 31)).heap.size (w.alloc (.cells #[.string nm, .string sup, .slice o1 n1 c1, .slice o2 n2 c2, .slice o3 n3 c3] 31)) W → W.heap[w.heap.size]? = some (.cells #[.string nm, .string sup, .slice o1 n1 c1, .slice o2 n2 c2, .slice o3 n3 c3] 31 (0, 0)) := fun W hW => (hW.block _ (by simp)).trans (heap_alloc_new _ _)
 have cells : ∀ W : World, W.heap[w.heap.size]? = some (.cells #[.string nm, .string sup, .slice o1 n1 c1, .slice o2 n2 c2, .slice o3 n3 c3] 31 (0, 0)) → (W.cell? ⟨w.heap.size, 3, none⟩ = some (.slice o2 n2 c2) ∧ W.cell? ⟨w.heap.size, 4, none⟩ = some (.slice o3 n3 c3)) := by
  intro W hW
  refine ⟨?_, ?_⟩ <;> (rw [cell_of_row _ _ _ _ 31 (0, 0) hW]; rfl)
 generalize e1 : decide (n1 ≤ 256) = y1
 generalize e2 : decide (n2 ≤ 16) = y2
 generalize e3 : decide (n3 ≤ 16) = y3
 generalize e0 : zCp sup = y0
 have E0 := D.zA0 e0
 have E1 := D.zA0 e1
 have E2 := D.zA0 e2
 have E3 := D.zA0 e3
 clear e0 e1 e2 e3
 unfold fnv at hC
 have HCELL := D.zA0 hcell
 have CELLS := D.zA0 cells
 have HF := D.zA0 hF
 have HM := D.zA0 hM
 have ROWF := D.zA0 rowF
 have ROWM := D.zA0 rowM
 clear hcell cells hF hM rowF rowM
 unfold zCp at E0
 go_enter Tryz.func103, Tryz.ntmps103
 go_wp2_with fail
 refine (hN1 _).out.mono ?_
 rintro e w' ⟨rfl, hww⟩; cases hww
 cases x1
 · go_wp2
   go_ret
   exact ⟨rfl, B0⟩
 cases y0
 case' false =>
  have q0 := E0.out
  go_wp2_with fail
  refine (hN2 _).out.mono ?_
  rintro e w' ⟨rfl, hww⟩; cases hww
  cases x2
  case false =>
   go_wp2
   go_ret
   exact ⟨rfl, B0⟩
 case' true =>
  have q0 := E0.out
 all_goals
  clear hN1 hN2
  cases y1
  · have q1' : (256 : Int) < n1 := by have := of_decide_eq_false E1.out; omega
    go_wp2
    go_ret
    exact ⟨rfl, B0⟩
  have q1' : ¬ (256 : Int) < n1 := by have := of_decide_eq_true E1.out; omega
  cases y2
  · have q2' : (16 : Int) < n2 := by have := of_decide_eq_false E2.out; omega
    go_wp2
    go_ret
    exact ⟨rfl, B0⟩
  have q2' : ¬ (16 : Int) < n2 := by have := of_decide_eq_true E2.out; omega
  cases y3
  · have q3' : (16 : Int) < n3 := by have := of_decide_eq_false E3.out; omega
    go_wp2
    go_ret
    exact ⟨rfl, B0⟩
  have q3' : ¬ (16 : Int) < n3 := by have := of_decide_eq_true E3.out; omega
  go_wp2_with fail
  refine hC.out.mono ?_
  rintro e w1 ⟨rfl, b1⟩
  clear hC
  cases x3
  · go_wp2
    go_ret
    exact ⟨rfl, next B0 b1⟩
  obtain ⟨d3, d4⟩ := CELLS.out _ (HCELL.out _ b1)
  go_wp2
  go_loopw [50] (fun i wr => ∃ kk : Nat, i = .int .i64 (kk : Int) ∧ kk ≤ n2 ∧ Hid (ZF = zCs (fs.take kk) (fs.drop kk)) ∧ Hid (Below w1.heap.size w1 wr)) (fun i _ => n2 - (intOf i).toNat)
  case atStart => exact ⟨0, rfl, Nat.zero_le _, FE, Below.refl _ _⟩
  case round =>
   obtain ⟨kk, rfl, hk, HZ, hb⟩ := hrel
   by_cases hlt : kk < n2
   · have hlt' : (kk : Int) < (n2 : Int) := by omega
     have hbw := next b1 hb.out
     obtain ⟨g3, g4⟩ := CELLS.out _ (HCELL.out _ hbw)
     obtain ⟨x, hx⟩ : ∃ x, fs[kk]? = some x := ⟨_, List.getElem?_eq_getElem (by rw [N2.out]; exact hlt)⟩
     have HX := D.zA0 hx
     clear hx
     obtain ⟨b, off, rfl, hds, r0, r1, r2⟩ := ROWF.out wr (next B0 hbw) kk _ HX.out
     have HFx := fun W hW => HF.out W hW x kk hds hk
     have HZ' := D.zA0 (HZ.out.trans (zQ9 HX.out))
     clear HZ
     obtain ⟨xn, xd, xs⟩ := x
     simp only at *
     go_wp2_with fail
     have hW0 : Below wr.heap.size wr (wr.alloc (.cells #[.string xn, .string xd, .bool xs] 44)) := zA6 _ _
     have m0 : (wr.alloc (.cells #[.string xn, .string xd, .bool xs] 44)).cell? ⟨wr.heap.size, 0, none⟩ = some (.string xn) := by simp
     have m1 : (wr.alloc (.cells #[.string xn, .string xd, .bool xs] 44)).cell? ⟨wr.heap.size, 1, none⟩ = some (.string xd) := by simp
     have m2 : (wr.alloc (.cells #[.string xn, .string xd, .bool xs] 44)).cell? ⟨wr.heap.size, 2, none⟩ = some (.bool xs) := by simp
     have m3 := cell_later hW0 g3
     have HW0 := D.zA0 (next hb.out hW0)
     clear g3 g4 r0 r1 r2 hW0
     generalize wr.alloc (.cells #[.string xn, .string xd, .bool xs] 44) = W0 at *
     have hkc : (kk : Int) ≤ (c2 : Int) := by omega
     have HFd := fun q => HFx (W0.drewN q) (zAe (next B0 (next b1 HW0.out)) q)
     clear HFx
     generalize zFh ⟨xn, xd, xs⟩ (fs.take kk) = Z at *
     go_region_with (go_at_call 150; refine (HFd _).out.mono ?_; rintro e w2 ⟨rfl, b2⟩)
     all_goals
      have HB2 := D.zA0 (next HW0.out (next (zAe (Below.refl _ W0) _) b2))
      clear b2 HFd m0 m1 m2 m3
      cases hz : Z != 0
      · have hz' : Z = 0 := by simpa using hz
        go_wp2
        refine ⟨⟨kk + 1, by go_num, by omega, ?_, HB2.out⟩, by simp [intOf]; omega⟩
        have := HZ'.out
        rw [if_pos hz'] at this
        exact this
      · have hz' : ¬ Z = 0 := by simpa using hz
        go_wp2
        go_ret
        have := HZ'.out
        rw [if_neg hz'] at this
        exact ⟨by rw [← HR.out, this, if_neg hz']; rfl, next B0 (next b1 HB2.out)⟩
   · have hlt' : ¬ (kk : Int) < (n2 : Int) := by omega
     have hbw := next b1 hb.out
     obtain ⟨g3, g4⟩ := CELLS.out _ (HCELL.out _ hbw)
     have F0 : Hid (ZF = 0) := by
      show _ = _
      have := HZ.out
      rw [List.drop_eq_nil_of_le (by rw [N2.out]; omega)] at this
      exact this
     clear HZ
     have HB1 := D.zA0 hbw
     clear hb b1 d3 d4 hbw
     obtain ⟨wv, rfl⟩ : ∃ wv, wv = wr := ⟨_, rfl⟩
     clear HF ROWF
     go_wp2
     go_loopw [68] (fun i wr => ∃ kk : Nat, i = .int .i64 (kk : Int) ∧ kk ≤ n3 ∧ Hid (ZM = zEb (ms.take kk) (ms.drop kk)) ∧ Hid (Below wv.heap.size wv wr)) (fun i _ => n3 - (intOf i).toNat)
     case atStart => exact ⟨0, rfl, Nat.zero_le _, ME, Below.refl _ _⟩
     case round =>
      obtain ⟨jj, rfl, hj, HZ, hb⟩ := hrel
      by_cases hjt : jj < n3
      · have hjt' : (jj : Int) < (n3 : Int) := by omega
        have hbw := next HB1.out hb.out
        obtain ⟨g3, g4⟩ := CELLS.out _ (HCELL.out _ hbw)
        obtain ⟨x, hx⟩ : ∃ x, ms[jj]? = some x := ⟨_, List.getElem?_eq_getElem (by rw [N3.out]; exact hjt)⟩
        have HX := D.zA0 hx
        clear hx
        obtain ⟨b, off, p1, q1, p2, q2, p3, q3, rfl, hds, hh, hr, ⟨r0, r1, r2, r3⟩, r4, r5, r6, r7, r8⟩ := ROWM.out wr (next B0 hbw) jj _ HX.out
        have HFx := fun W hW (hWx : Below wr.heap.size wr W) => HM.out W hW x p1 q1 p2 q2 p3 q3 jj hds (hh.below hWx (fun _ _ h => h)) (hr.below hWx (fun _ _ h => h.below hWx)) hj
        have HZ' := D.zA0 (HZ.out.trans (zQj HX.out))
        clear HZ hh hr
        generalize zGl x (ms.take jj) = Z at *
        generalize x.code.length = l1 at *
        generalize x.hs.length = l2 at *
        generalize x.rs.length = l3 at *
        obtain ⟨xn, xd, xs, xa, xk, xl, xc, xh, xr⟩ := x
        simp only at *
        clear g3
        go_wp2_with fail
        have hW0 : Below wr.heap.size wr (wr.alloc (.cells #[.string xn, .string xd, .bool xs, .bool xa, .int .i64 xk, .int .i64 xl, .slice p1 l1 q1, .slice p2 l2 q2, .slice p3 l3 q3] 39)) := zA6 _ _
        have m0 : (wr.alloc (.cells #[.string xn, .string xd, .bool xs, .bool xa, .int .i64 xk, .int .i64 xl, .slice p1 l1 q1, .slice p2 l2 q2, .slice p3 l3 q3] 39)).cell? ⟨wr.heap.size, 0, none⟩ = some (.string xn) := by simp
        have m1 : (wr.alloc (.cells #[.string xn, .string xd, .bool xs, .bool xa, .int .i64 xk, .int .i64 xl, .slice p1 l1 q1, .slice p2 l2 q2, .slice p3 l3 q3] 39)).cell? ⟨wr.heap.size, 1, none⟩ = some (.string xd) := by simp
        have m2 : (wr.alloc (.cells #[.string xn, .string xd, .bool xs, .bool xa, .int .i64 xk, .int .i64 xl, .slice p1 l1 q1, .slice p2 l2 q2, .slice p3 l3 q3] 39)).cell? ⟨wr.heap.size, 2, none⟩ = some (.bool xs) := by simp
        have m3 : (wr.alloc (.cells #[.string xn, .string xd, .bool xs, .bool xa, .int .i64 xk, .int .i64 xl, .slice p1 l1 q1, .slice p2 l2 q2, .slice p3 l3 q3] 39)).cell? ⟨wr.heap.size, 3, none⟩ = some (.bool xa) := by simp
        have m4 : (wr.alloc (.cells #[.string xn, .string xd, .bool xs, .bool xa, .int .i64 xk, .int .i64 xl, .slice p1 l1 q1, .slice p2 l2 q2, .slice p3 l3 q3] 39)).cell? ⟨wr.heap.size, 4, none⟩ = some (.int .i64 xk) := by simp
        have m5 : (wr.alloc (.cells #[.string xn, .string xd, .bool xs, .bool xa, .int .i64 xk, .int .i64 xl, .slice p1 l1 q1, .slice p2 l2 q2, .slice p3 l3 q3] 39)).cell? ⟨wr.heap.size, 5, none⟩ = some (.int .i64 xl) := by simp
        have m6 : (wr.alloc (.cells #[.string xn, .string xd, .bool xs, .bool xa, .int .i64 xk, .int .i64 xl, .slice p1 l1 q1, .slice p2 l2 q2, .slice p3 l3 q3] 39)).cell? ⟨wr.heap.size, 6, none⟩ = some (.slice p1 l1 q1) := by simp
        have m7 : (wr.alloc (.cells #[.string xn, .string xd, .bool xs, .bool xa, .int .i64 xk, .int .i64 xl, .slice p1 l1 q1, .slice p2 l2 q2, .slice p3 l3 q3] 39)).cell? ⟨wr.heap.size, 7, none⟩ = some (.slice p2 l2 q2) := by simp
        have m8 : (wr.alloc (.cells #[.string xn, .string xd, .bool xs, .bool xa, .int .i64 xk, .int .i64 xl, .slice p1 l1 q1, .slice p2 l2 q2, .slice p3 l3 q3] 39)).cell? ⟨wr.heap.size, 8, none⟩ = some (.slice p3 l3 q3) := by simp
        have mm := cell_later hW0 g4
        have HW0 := D.zA0 hW0
        clear g4 r0 r1 r2 r3 r4 r5 r6 r7 r8 hW0
        generalize wr.alloc (.cells #[.string xn, .string xd, .bool xs, .bool xa, .int .i64 xk, .int .i64 xl, .slice p1 l1 q1, .slice p2 l2 q2, .slice p3 l3 q3] 39) = W0 at *
        have hkc : (jj : Int) ≤ (c3 : Int) := by omega
        have HFd := fun q => HFx (W0.drewN q) (zAe (next B0 (next hbw HW0.out)) q) (zAe HW0.out q)
        clear HFx
        go_region_with (go_at_call 151; refine (HFd _).out.mono ?_; rintro e w2 ⟨rfl, b2⟩)
        all_goals
         have HB2 := D.zA0 (next hb.out (next HW0.out (next (zAe (Below.refl _ W0) _) b2)))
         clear b2 HFd m0 m1 m2 m3 m4 m5 m6 m7 m8 mm
         cases hz : Z != 0
         · have hz' : Z = 0 := by simpa using hz
           go_wp2
           refine ⟨⟨jj + 1, by go_num, by omega, ?_, HB2.out⟩, by simp [intOf]; omega⟩
           have := HZ'.out
           rw [if_pos hz'] at this
           exact this
         · have hz' : ¬ Z = 0 := by simpa using hz
           go_wp2
           go_ret
           have := HZ'.out
           rw [if_neg hz'] at this
           exact ⟨by rw [← HR.out, F0.out, this]; rfl, next B0 (next HB1.out HB2.out)⟩
      · have hjt' : ¬ (jj : Int) < (n3 : Int) := by omega
        have M0 : ZM = 0 := by
         have := HZ.out
         rw [List.drop_eq_nil_of_le (by rw [N3.out]; omega)] at this
         exact this
        have HM0 := D.zA0 M0
        clear M0 HZ
        go_wp2
        go_ret
        exact ⟨by rw [← HR.out, F0.out, HM0.out]; rfl, next B0 (next HB1.out hb.out)⟩
end Go.Proofs.YtpehimfnkmepnaaGreat.Q
