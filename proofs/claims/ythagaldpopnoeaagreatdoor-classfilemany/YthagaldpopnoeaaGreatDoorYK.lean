import Derived.Test.YthagaldpopnoeaaGreatDoorCJ

/- A class without fields and methods, read: walked. -/
namespace Go.Proofs.YthagaldpopnoeaaGreatDoor
open Go.RowKit D

def headL : List Int := [202, 254, 186, 190, 0, 1]
/-- The refusal behind the first six bytes. -/
def hdY (l : List Int) (a : Nat) (y : Int) : Int := if (strOfNums (tk l a y 6).1).toList = [202, 254, 186, 190, 0, 1] then (tk l a y 6).2.2 else fl (tk l a y 6).2.2 12
theorem slice_of_own {w : World} {B e s n : Nat} {v : Value} {xs : List Value} (h : w.ownsRow B e s v n xs) : ∃ ao cap, v = .slice ao n cap := by
  rcases h.2 with ⟨rfl, rfl⟩ | ⟨g, cap, cur, rfl, _⟩
  · exact ⟨_, _, rfl⟩
  · exact ⟨_, _, rfl⟩

theorem row5 {w : World} {g : Nat} {b0 b1 b2 b3 b4 : Value} {T : TypeId} (h : w.heap[g]? = some (.cells #[b0, b1, b2, b3, b4] T (0, 0))) :
    w.cell? ⟨g, 0, none⟩ = some b0 ∧ w.cell? ⟨g, 1, none⟩ = some b1 ∧ w.cell? ⟨g, 2, none⟩ = some b2 ∧ w.cell? ⟨g, 3, none⟩ = some b3 ∧ w.cell? ⟨g, 4, none⟩ = some b4 ∧ ∀ x, w.frozen? ⟨g, x, none⟩ = false :=
  ⟨cell_row h 0 rfl, cell_row h 1 rfl, cell_row h 2 rfl, cell_row h 3 rfl, cell_row h 4 rfl, fun x => frozen_row h x⟩
theorem set5T {w : World} {g : Nat} {T : TypeId} {b0 b1 b2 b3 b4 : Value} (v0 v1 v2 v3 v4 : Value) (h : w.heap[g]? = some (.cells #[b0, b1, b2, b3, b4] T (0, 0))) :
    (((((w.setCell ⟨g, 0, none⟩ v0).setCell ⟨g, 1, none⟩ v1).setCell ⟨g, 2, none⟩ v2).setCell ⟨g, 3, none⟩ v3).setCell ⟨g, 4, none⟩ v4).heap[g]? = some (.cells #[v0, v1, v2, v3, v4] T (0, 0)) := by
  have h1 := gset_row (j := 0) (u := v0) h
  have h2 := gset_row (j := 1) (u := v1) h1
  have h3 := gset_row (j := 2) (u := v2) h2
  have h4 := gset_row (j := 3) (u := v3) h3
  exact gset_row (j := 4) (u := v4) h4
theorem off5 {w : World} {g b : Nat} {u : Value} (v0 v1 v2 v3 v4 : Value) (hne : b ≠ g) (h : w.cell? ⟨b, 0, none⟩ = some u) :
    (((((w.setCell ⟨g, 0, none⟩ v0).setCell ⟨g, 1, none⟩ v1).setCell ⟨g, 2, none⟩ v2).setCell ⟨g, 3, none⟩ v3).setCell ⟨g, 4, none⟩ v4).cell? ⟨b, 0, none⟩ = some u := by
  rw [World.cell?_of_block (a := ⟨b, 0, none⟩) (w := w), h]
  rw [Below.heap_setCell _ _ _ _ hne, Below.heap_setCell _ _ _ _ hne, Below.heap_setCell _ _ _ _ hne, Below.heap_setCell _ _ _ _ hne, Below.heap_setCell _ _ _ _ hne]

set_option maxRecDepth 8000 in
set_option maxHeartbeats 4000000 in
theorem class0_any (pr : Nat) (v : Value) (l : List Int) (a a1 a2 a3 a4 a5 a6 : Nat) (y Y1 y2 y3 y4 y5 y6 : Int) (nm sup : ByteArray) (w : World) (h : IsR pr w v l a y) (hlen : l.length ≤ 140737488355328)
    (e1 : (tk l a y 6).2.1 = a1) (e1' : hdY l a y = Y1) (e2 : (rdP l a1 Y1).2 = (a2, y2)) (e3 : rtext l a2 y2 = (nm, a3, y3)) (e4 : rtext l a3 y3 = (sup, a4, y4)) (e5 : tk l a4 y4 1 = ([], a5, y5) ∨ tk l a4 y4 1 = ([0], a5, y5)) (e6 : tk l a5 y5 1 = ([], a6, y6) ∨ tk l a5 y5 1 = ([0], a6, y6)) :
    Calls Tryz.prog 33 #[rv pr] w fun e w' => (∃ ao n c, e = .returned (.agg #[.string nm, .string sup, .slice ao n c, .slice none 0 0, .slice none 0 0])) ∧ IsR pr w' v l a6 y6 ∧ Only pr w w' := by
  have hby : AllBytes l := by obtain ⟨_, _, _, _, _, h, _⟩ := h.view; exact h
  have z5 : beVal (tk l a4 y4 1).1 = 0 ∧ (tk l a4 y4 1).2.1 = a5 ∧ (tk l a4 y4 1).2.2 = y5 := by rcases e5 with e | e <;> rw [e] <;> exact ⟨rfl, rfl, rfl⟩
  have z6 : beVal (tk l a5 y5 1).1 = 0 ∧ (tk l a5 y5 1).2.1 = a6 ∧ (tk l a5 y5 1).2.2 = y6 := by rcases e6 with e | e <;> rw [e] <;> exact ⟨rfl, rfl, rfl⟩
  have gB := fun W (h : IsR pr W v l a y) => D.hidIt (rbytes_any pr v l a y 6 W h hlen)
  have gF := fun W (h : IsR pr W v l a1 (tk l a y 6).2.2) => D.hidIt (fail_any pr v l a1 _ 12 W h)
  have gP := fun W (h : IsR pr W v l a1 Y1) => D.hidIt (read_any pr v l a1 Y1 W h)
  have gN := fun W (h : IsR pr W v l a2 y2) => D.hidIt (rtext_any pr v l a2 y2 W h)
  have gS := fun W (h : IsR pr W v l a3 y3) => D.hidIt (rtext_any pr v l a3 y3 W h)
  have g5 := fun W (h : IsR pr W v l a4 y4) => D.hidIt (list0F pr v l a4 y4 W h z5.1)
  have g6 := fun W (h : IsR pr W v l a5 y5) => D.hidIt (list0M pr v l a5 y5 W h z6.1)
  rw [z5.2.1, z5.2.2] at g5
  rw [z6.2.1, z6.2.2] at g6
  rw [e3] at gN
  rw [e4] at gS
  rw [e2] at gP
  rw [e1] at gB
  have HB := D.hidIt (tk_bytes l a y 6 hby)
  have E1 := D.hidIt e1'
  unfold hdY at E1
  clear e1 e1' e2 e3 e4 e5 e6 z5 z6 hby
  simp only at gN gS
  generalize (tk l a y 6).1 = bs at *
  generalize (tk l a y 6).2.2 = y1 at *
  have hp : pr ≠ w.heap.size ∧ pr ≠ w.heap.size + 1 := by have := h.lt; omega
  have hA := h.below (balloc w (.cells #[.pointer (some ⟨pr, 0, none⟩)] 79))
  have hZ := hA.below (balloc _ (.cells #[.string ⟨#[]⟩, .string ⟨#[]⟩, .slice none 0 0, .slice none 0 0, .slice none 0 0] 33))
  have HZ := D.hidIt hZ
  have O0 := D.hidIt ((only_alloc pr w (.cells #[.pointer (some ⟨pr, 0, none⟩)] 79)).trans (only_alloc pr _ (.cells #[.string ⟨#[]⟩, .string ⟨#[]⟩, .slice none 0 0, .slice none 0 0, .slice none 0 0] 33)))
  have bx1 : Hid (((w.alloc (.cells #[.pointer (some ⟨pr, 0, none⟩)] 79)).alloc (.cells #[.string ⟨#[]⟩, .string ⟨#[]⟩, .slice none 0 0, .slice none 0 0, .slice none 0 0] 33)).heap[w.heap.size]? = some (.cells #[.pointer (some ⟨pr, 0, none⟩)] 79)) := by
    show _ = _
    rw [Below.heap_alloc _ _ _ (by simp)]; exact heap_alloc_new _ _
  have bx2 : Hid (((w.alloc (.cells #[.pointer (some ⟨pr, 0, none⟩)] 79)).alloc (.cells #[.string ⟨#[]⟩, .string ⟨#[]⟩, .slice none 0 0, .slice none 0 0, .slice none 0 0] 33)).heap[w.heap.size + 1]? = some (.cells #[.string ⟨#[]⟩, .string ⟨#[]⟩, .slice none 0 0, .slice none 0 0, .slice none 0 0] 33)) := by
    show _ = _
    have := heap_alloc_new (w.alloc (.cells #[.pointer (some ⟨pr, 0, none⟩)] 79)) (.cells #[.string ⟨#[]⟩, .string ⟨#[]⟩, .slice none 0 0, .slice none 0 0, .slice none 0 0] 33)
    simpa using this
  have H00 := D.hidIt h
  clear hA hZ h
  unfold rv at *
  go_enter Tryz.func33, Tryz.ntmps33
  go_wp2_with fail
  refine (gB _ HZ.out).out.mono ?_
  rintro e w1 ⟨v1, rfl, o1, h1, on1⟩
  have V1 := View.of_own o1 HB.out
  have cs := run_string V1
  obtain ⟨ao1, cap1, rfl, -⟩ := id V1
  have H1 := D.hidIt h1
  have ON1 := D.hidIt on1
  clear o1 V1 h1 on1 gB HB
  have c1 := cell_row ((ON1.out.block w.heap.size (by simp; omega) (by omega)).trans bx1.out) 0 rfl
  generalize strOfNums bs = sb at *
  have KS : Hid (∀ W, Only pr ((w.alloc (.cells #[.pointer (some ⟨pr, 0, none⟩)] 79)).alloc (.cells #[.string ⟨#[]⟩, .string ⟨#[]⟩, .slice none 0 0, .slice none 0 0, .slice none 0 0] 33)) W → (W.cell? ⟨w.heap.size, 0, none⟩ = some (.pointer (some ⟨pr, 0, none⟩))) ∧ W.heap[w.heap.size + 1]? = some (.cells #[.string ⟨#[]⟩, .string ⟨#[]⟩, .slice none 0 0, .slice none 0 0, .slice none 0 0] 33)) := fun W ho =>
    ⟨cell_row ((ho.block w.heap.size (by simp; omega) (by omega)).trans bx1.out) 0 rfl, (ho.block (w.heap.size + 1) (by simp) (by omega)).trans bx2.out⟩
  clear bx1 bx2 HZ
  cases hh : sb.toList == [202, 254, 186, 190, 0, 1]
  case' true =>
    have hh' : sb.toList = [202, 254, 186, 190, 0, 1] := by simpa using hh
    have H2 : Hid (IsR pr w1 v l a1 Y1) := by
      have := E1.out
      rw [if_pos hh'] at this
      show IsR _ _ _ _ _ _
      rw [← this]; exact H1.out
    clear hh' H1 gF E1
    obtain ⟨w2, rfl⟩ : ∃ w2, w2 = w1 := ⟨_, rfl⟩
    have ON2 := ON1
    clear ON1
  case' false =>
    have hh' : ¬ sb.toList = [202, 254, 186, 190, 0, 1] := by simpa using hh
    have E2 : Hid (fl y1 12 = Y1) := by
      have := E1.out
      rw [if_neg hh'] at this
      exact this
    clear hh' E1
    go_wp2_with fail
    refine (gF _ H1.out).out.mono ?_
    rintro e w2 ⟨rfl, h2, on2⟩
    have H2 : Hid (IsR pr w2 v l a1 Y1) := by
      show IsR _ _ _ _ _ _
      rw [← E2.out]; exact h2
    have ON2 := D.hidIt (ON1.out.trans on2)
    clear h2 on2 H1 ON1 gF E2 c1
  · have d1 := (KS.out _ ON2.out).1
    have QS : Hid (∀ W, Only pr w2.drew W → W.cell? ⟨w.heap.size, 0, none⟩ = some (.pointer (some ⟨pr, 0, none⟩))) := fun W ho => (KS.out W (ON2.out.trans ((Only.drewN pr w2 1).trans ho))).1
    have QH : Hid (∀ W, Only pr w2.drew W → W.heap[w.heap.size + 1]? = some (.cells #[.string ⟨#[]⟩, .string ⟨#[]⟩, .slice none 0 0, .slice none 0 0, .slice none 0 0] 33)) := fun W ho => (KS.out W (ON2.out.trans ((Only.drewN pr w2 1).trans ho))).2
    have R2 : IsR pr w2.drew v l a1 Y1 := H2.out.below (below_drewN (Below.refl _ _) 1)
    have HNE : Hid (w.heap.size ≠ w.heap.size + 1) := by show _ ≠ _; omega
    have N2 : Only pr w2.drew w2.drew := Only.refl _ _
    go_wp2_with fail
    refine wp_region_noPanic ?_
    refine wp_region_held_drew (S := (fun W' => W'.cell? ⟨w.heap.size, 0, none⟩ = some (.pointer (some ⟨pr, 0, none⟩)))) (by kernel_rfl) ?_ (fun hHeld => ?_)
    · (try dsimp only); (first | (with_reducible exact QS.out _ N2) | (with_reducible exact QS.out _ N3) | (with_reducible exact QS.out _ N4) | (with_reducible exact QS.out _ N5) | (with_reducible exact QS.out _ N6) | (with_reducible exact QS.out _ N7) | (with_reducible exact off5 _ _ _ _ _ HNE.out K7.out))
    refine wpAnyH_take (i := 0) (oi := { dst := some 11, op := Go.Op.fieldAddr 79 (Go.Operand.tmp 1) 0, type := 0, pos := "bytes.go:117", after := #[], guard := none }) (v := ?va1) rfl (by kernel_rfl) (by kernel_rfl) (by kernel_rfl) (fun _ _ _ h => h) (Or.inl ⟨by rfl, ?hya1⟩) (by assumption) ?resta1
    case hya1 => intro w hSw; (try dsimp only at hSw); go_simp; try with_reducible rfl
    try simp only [Act.put, List.setIfInBounds_toArray, List.set_cons_zero, List.set_cons_succ]
    refine wpAnyH_take (i := 1) (oi := { dst := some 12, op := Go.Op.load 76 (Go.Operand.tmp 11), type := 76, pos := "bytes.go:117", after := #[{ on := 0, ground := Go.Ground.data }], guard := none }) (v := ?va2) rfl (by kernel_rfl) (by kernel_rfl) (by kernel_rfl) (fun _ _ _ h => h) (Or.inl ⟨by rfl, ?hya2⟩) (by assumption) ?resta2
    case hya2 => intro w hSw; (try dsimp only at hSw); go_simp; try with_reducible rfl
    try simp only [Act.put, List.setIfInBounds_toArray, List.set_cons_zero, List.set_cons_succ]
    refine wpAnyH_take (i := 3) (oi := { dst := some 14, op := Go.Op.fieldAddr 79 (Go.Operand.tmp 1) 0, type := 0, pos := "bytes.go:117", after := #[], guard := none }) (v := ?va3) rfl (by kernel_rfl) (by kernel_rfl) (by kernel_rfl) (fun _ _ _ h => h) (Or.inl ⟨by rfl, ?hya3⟩) (by assumption) ?resta3
    case hya3 => intro w hSw; (try dsimp only at hSw); go_simp; try with_reducible rfl
    try simp only [Act.put, List.setIfInBounds_toArray, List.set_cons_zero, List.set_cons_succ]
    refine wpAnyH_take (i := 4) (oi := { dst := some 15, op := Go.Op.load 76 (Go.Operand.tmp 14), type := 76, pos := "bytes.go:117", after := #[{ on := 3, ground := Go.Ground.data }], guard := none }) (v := ?va4) rfl (by kernel_rfl) (by kernel_rfl) (by kernel_rfl) (fun _ _ _ h => h) (Or.inl ⟨by rfl, ?hya4⟩) (by assumption) ?resta4
    case hya4 => intro w hSw; (try dsimp only at hSw); go_simp; try with_reducible rfl
    try simp only [Act.put, List.setIfInBounds_toArray, List.set_cons_zero, List.set_cons_succ]
    refine wpAnyH_take (i := 6) (oi := { dst := some 17, op := Go.Op.fieldAddr 79 (Go.Operand.tmp 1) 0, type := 0, pos := "bytes.go:117", after := #[], guard := none }) (v := ?va5) rfl (by kernel_rfl) (by kernel_rfl) (by kernel_rfl) (fun _ _ _ h => h) (Or.inl ⟨by rfl, ?hya5⟩) (by assumption) ?resta5
    case hya5 => intro w hSw; (try dsimp only at hSw); go_simp; try with_reducible rfl
    try simp only [Act.put, List.setIfInBounds_toArray, List.set_cons_zero, List.set_cons_succ]
    refine wpAnyH_take (i := 7) (oi := { dst := some 18, op := Go.Op.load 76 (Go.Operand.tmp 17), type := 76, pos := "bytes.go:117", after := #[{ on := 6, ground := Go.Ground.data }], guard := none }) (v := ?va6) rfl (by kernel_rfl) (by kernel_rfl) (by kernel_rfl) (fun _ _ _ h => h) (Or.inl ⟨by rfl, ?hya6⟩) (by assumption) ?resta6
    case hya6 => intro w hSw; (try dsimp only at hSw); go_simp; try with_reducible rfl
    try simp only [Act.put, List.setIfInBounds_toArray, List.set_cons_zero, List.set_cons_succ]
    refine wpAnyH_take (i := 9) (oi := { dst := some 20, op := Go.Op.load 79 (Go.Operand.tmp 1), type := 79, pos := "bytes.go:117", after := #[], guard := none }) (v := ?va7) rfl (by kernel_rfl) (by kernel_rfl) (by kernel_rfl) (fun _ _ _ h => h) (Or.inl ⟨by rfl, ?hya7⟩) (by assumption) ?resta7
    case hya7 => intro w hSw; (try dsimp only at hSw); go_simp; try with_reducible rfl
    try simp only [Act.put, List.setIfInBounds_toArray, List.set_cons_zero, List.set_cons_succ]
    refine wpAnyH_take (i := 10) (oi := { dst := some 21, op := Go.Op.load 79 (Go.Operand.tmp 1), type := 79, pos := "bytes.go:117", after := #[], guard := none }) (v := ?va8) rfl (by kernel_rfl) (by kernel_rfl) (by kernel_rfl) (fun _ _ _ h => h) (Or.inl ⟨by rfl, ?hya8⟩) (by assumption) ?resta8
    case hya8 => intro w hSw; (try dsimp only at hSw); go_simp; try with_reducible rfl
    try simp only [Act.put, List.setIfInBounds_toArray, List.set_cons_zero, List.set_cons_succ]
    refine wpAnyH_take (i := 11) (oi := { dst := some 22, op := Go.Op.makeFunc (Go.Fn.func 70) #[Go.Operand.tmp 21] #[], type := 127, pos := "bytes.go:117", after := #[{ on := 10, ground := Go.Ground.data }], guard := none }) (v := ?va9) rfl (by kernel_rfl) (by kernel_rfl) (by kernel_rfl) (fun _ _ _ h => h) (Or.inl ⟨by rfl, ?hya9⟩) (by assumption) ?resta9
    case hya9 => intro w hSw; (try dsimp only at hSw); go_simp; try with_reducible rfl
    try simp only [Act.put, List.setIfInBounds_toArray, List.set_cons_zero, List.set_cons_succ]
    refine wpAnyH_take (i := 13) (oi := { dst := some 24, op := Go.Op.load 79 (Go.Operand.tmp 1), type := 79, pos := "bytes.go:117", after := #[], guard := none }) (v := ?va10) rfl (by kernel_rfl) (by kernel_rfl) (by kernel_rfl) (fun _ _ _ h => h) (Or.inl ⟨by rfl, ?hya10⟩) (by assumption) ?resta10
    case hya10 => intro w hSw; (try dsimp only at hSw); go_simp; try with_reducible rfl
    try simp only [Act.put, List.setIfInBounds_toArray, List.set_cons_zero, List.set_cons_succ]
    refine wpAnyH_take (i := 14) (oi := { dst := some 25, op := Go.Op.load 79 (Go.Operand.tmp 1), type := 79, pos := "bytes.go:117", after := #[], guard := none }) (v := ?va11) rfl (by kernel_rfl) (by kernel_rfl) (by kernel_rfl) (fun _ _ _ h => h) (Or.inl ⟨by rfl, ?hya11⟩) (by assumption) ?resta11
    case hya11 => intro w hSw; (try dsimp only at hSw); go_simp; try with_reducible rfl
    try simp only [Act.put, List.setIfInBounds_toArray, List.set_cons_zero, List.set_cons_succ]
    refine wpAnyH_take (i := 15) (oi := { dst := some 26, op := Go.Op.makeFunc (Go.Fn.func 72) #[Go.Operand.tmp 25] #[], type := 129, pos := "bytes.go:117", after := #[{ on := 14, ground := Go.Ground.data }], guard := none }) (v := ?va12) rfl (by kernel_rfl) (by kernel_rfl) (by kernel_rfl) (fun _ _ _ h => h) (Or.inl ⟨by rfl, ?hya12⟩) (by assumption) ?resta12
    case hya12 => intro w hSw; (try dsimp only at hSw); go_simp; try with_reducible rfl
    try simp only [Act.put, List.setIfInBounds_toArray, List.set_cons_zero, List.set_cons_succ]
    refine wpAnyH_ready (rs := [2]) (by kernel_rfl) (by simp) ?_
    refine AllReadyH.cons (o := { dst := some 13, op := Go.Op.call { callee := Go.Callee.value (Go.Operand.func 67), args := #[Go.Operand.tmp 12], argTypes := #[76] }, type := 29, pos := "bytes.go:118", after := #[{ on := 1, ground := Go.Ground.data }], guard := none }) rfl (fun K hK => ?_) AllReadyH.nil
    go_simp
    refine (gP _ R2).out.mono ?_; rintro e w3 ⟨vp, rfl, op, R3, on3⟩; have N3 := N2.trans on3; obtain ⟨aop, cpp, rfl⟩ := slice_of_own op; clear op
    try go_wp2_with fail
    refine hK.out _ _ ?hSa13 ?resta13
    case hSa13 => (try dsimp only); (first | (with_reducible exact QS.out _ N2) | (with_reducible exact QS.out _ N3) | (with_reducible exact QS.out _ N4) | (with_reducible exact QS.out _ N5) | (with_reducible exact QS.out _ N6) | (with_reducible exact QS.out _ N7) | (with_reducible exact off5 _ _ _ _ _ HNE.out K7.out))
    clear hK K hHeld
    intro hHeld
    try simp only [Act.put, List.setIfInBounds_toArray, List.set_cons_zero, List.set_cons_succ]
    refine wpAnyH_ready (rs := [5]) (by kernel_rfl) (by simp) ?_
    refine AllReadyH.cons (o := { dst := some 16, op := Go.Op.call { callee := Go.Callee.value (Go.Operand.func 68), args := #[Go.Operand.tmp 15], argTypes := #[76] }, type := 9, pos := "bytes.go:119", after := #[{ on := 4, ground := Go.Ground.data }, { on := 2, ground := Go.Ground.chain }], guard := none }) rfl (fun K hK => ?_) AllReadyH.nil
    go_simp
    refine (gN _ R3).out.mono ?_; rintro e w4 ⟨rfl, R4, on4⟩; have N4 := N3.trans on4
    try go_wp2_with fail
    refine hK.out _ _ ?hSa14 ?resta14
    case hSa14 => (try dsimp only); (first | (with_reducible exact QS.out _ N2) | (with_reducible exact QS.out _ N3) | (with_reducible exact QS.out _ N4) | (with_reducible exact QS.out _ N5) | (with_reducible exact QS.out _ N6) | (with_reducible exact QS.out _ N7) | (with_reducible exact off5 _ _ _ _ _ HNE.out K7.out))
    clear hK K hHeld
    intro hHeld
    try simp only [Act.put, List.setIfInBounds_toArray, List.set_cons_zero, List.set_cons_succ]
    refine wpAnyH_ready (rs := [8]) (by kernel_rfl) (by simp) ?_
    refine AllReadyH.cons (o := { dst := some 19, op := Go.Op.call { callee := Go.Callee.value (Go.Operand.func 68), args := #[Go.Operand.tmp 18], argTypes := #[76] }, type := 9, pos := "bytes.go:120", after := #[{ on := 7, ground := Go.Ground.data }, { on := 5, ground := Go.Ground.chain }], guard := none }) rfl (fun K hK => ?_) AllReadyH.nil
    go_simp
    refine (gS _ R4).out.mono ?_; rintro e w5 ⟨rfl, R5, on5⟩; have N5 := N4.trans on5
    try go_wp2_with fail
    refine hK.out _ _ ?hSa15 ?resta15
    case hSa15 => (try dsimp only); (first | (with_reducible exact QS.out _ N2) | (with_reducible exact QS.out _ N3) | (with_reducible exact QS.out _ N4) | (with_reducible exact QS.out _ N5) | (with_reducible exact QS.out _ N6) | (with_reducible exact QS.out _ N7) | (with_reducible exact off5 _ _ _ _ _ HNE.out K7.out))
    clear hK K hHeld
    intro hHeld
    try simp only [Act.put, List.setIfInBounds_toArray, List.set_cons_zero, List.set_cons_succ]
    refine wpAnyH_ready (rs := [12]) (by kernel_rfl) (by simp) ?_
    refine AllReadyH.cons (o := { dst := some 23, op := Go.Op.call { callee := Go.Callee.value (Go.Operand.func 69), args := #[Go.Operand.tmp 20, Go.Operand.tmp 22], argTypes := #[79, 127] }, type := 30, pos := "bytes.go:121", after := #[{ on := 9, ground := Go.Ground.data }, { on := 11, ground := Go.Ground.data }, { on := 8, ground := Go.Ground.chain }], guard := none }) rfl (fun K hK => ?_) AllReadyH.nil
    go_simp
    refine (g5 _ R5).out.mono ?_; rintro e w6 ⟨rfl, R6, on6⟩; have N6 := N5.trans on6
    try go_wp2_with fail
    refine hK.out _ _ ?hSa16 ?resta16
    case hSa16 => (try dsimp only); (first | (with_reducible exact QS.out _ N2) | (with_reducible exact QS.out _ N3) | (with_reducible exact QS.out _ N4) | (with_reducible exact QS.out _ N5) | (with_reducible exact QS.out _ N6) | (with_reducible exact QS.out _ N7) | (with_reducible exact off5 _ _ _ _ _ HNE.out K7.out))
    clear hK K hHeld
    intro hHeld
    try simp only [Act.put, List.setIfInBounds_toArray, List.set_cons_zero, List.set_cons_succ]
    refine wpAnyH_ready (rs := [16]) (by kernel_rfl) (by simp) ?_
    refine AllReadyH.cons (o := { dst := some 27, op := Go.Op.call { callee := Go.Callee.value (Go.Operand.func 71), args := #[Go.Operand.tmp 24, Go.Operand.tmp 26], argTypes := #[79, 129] }, type := 31, pos := "bytes.go:122", after := #[{ on := 13, ground := Go.Ground.data }, { on := 15, ground := Go.Ground.data }, { on := 12, ground := Go.Ground.chain }], guard := none }) rfl (fun K hK => ?_) AllReadyH.nil
    go_simp
    refine (g6 _ R6).out.mono ?_; rintro e w7 ⟨rfl, R7, on7⟩; have N7 := N6.trans on7; have H7 := D.hidIt (QH.out w7 N7); have K7 := D.hidIt (QS.out w7 N7)
    try go_wp2_with fail
    refine hK.out _ _ ?hSa17 ?resta17
    case hSa17 => (try dsimp only); (first | (with_reducible exact QS.out _ N2) | (with_reducible exact QS.out _ N3) | (with_reducible exact QS.out _ N4) | (with_reducible exact QS.out _ N5) | (with_reducible exact QS.out _ N6) | (with_reducible exact QS.out _ N7) | (with_reducible exact off5 _ _ _ _ _ HNE.out K7.out))
    clear hK K hHeld
    intro hHeld
    try simp only [Act.put, List.setIfInBounds_toArray, List.set_cons_zero, List.set_cons_succ]
    refine wpAnyH_take (i := 17) (oi := { dst := some 28, op := Go.Op.build 33 #[(2, Go.Operand.tmp 13), (0, Go.Operand.tmp 16), (1, Go.Operand.tmp 19), (3, Go.Operand.tmp 23), (4, Go.Operand.tmp 27)], type := 33, pos := "bytes.go:117", after := #[{ on := 2, ground := Go.Ground.data }, { on := 5, ground := Go.Ground.data }, { on := 8, ground := Go.Ground.data }, { on := 12, ground := Go.Ground.data }, { on := 16, ground := Go.Ground.data }], guard := none }) (v := ?va18) rfl (by kernel_rfl) (by kernel_rfl) (by kernel_rfl) (fun _ _ _ h => h) (Or.inl ⟨by rfl, ?hya18⟩) (by assumption) ?resta18
    case hya18 => intro w hSw; (try dsimp only at hSw); go_simp; try with_reducible rfl
    try simp only [Act.put, List.setIfInBounds_toArray, List.set_cons_zero, List.set_cons_succ]
    refine wpAnyH_ready (rs := [18]) (by kernel_rfl) (by simp) ?_
    refine AllReadyH.cons (o := { dst := none, op := Go.Op.store 33 (Go.Operand.tmp 2) (Go.Operand.tmp 28), type := 0, pos := "bytes.go:117", after := #[{ on := 17, ground := Go.Ground.data }, { on := 16, ground := Go.Ground.chain }, { on := 0, ground := Go.Ground.phase }, { on := 1, ground := Go.Ground.phase }, { on := 2, ground := Go.Ground.phase }, { on := 3, ground := Go.Ground.phase }, { on := 4, ground := Go.Ground.phase }, { on := 5, ground := Go.Ground.phase }, { on := 6, ground := Go.Ground.phase }, { on := 7, ground := Go.Ground.phase }, { on := 8, ground := Go.Ground.phase }, { on := 9, ground := Go.Ground.phase }, { on := 10, ground := Go.Ground.phase }, { on := 11, ground := Go.Ground.phase }, { on := 12, ground := Go.Ground.phase }, { on := 13, ground := Go.Ground.phase }, { on := 14, ground := Go.Ground.phase }, { on := 15, ground := Go.Ground.phase }, { on := 16, ground := Go.Ground.phase }, { on := 17, ground := Go.Ground.phase }], guard := none }) rfl (fun K hK => ?_) AllReadyH.nil
    go_simp
    obtain ⟨f0, f1, f2, f3, f4, ff⟩ := row5 H7.out
    try go_wp2_with fail
    refine hK.out _ _ ?hSa19 ?resta19
    case hSa19 => (try dsimp only); (first | (with_reducible exact QS.out _ N2) | (with_reducible exact QS.out _ N3) | (with_reducible exact QS.out _ N4) | (with_reducible exact QS.out _ N5) | (with_reducible exact QS.out _ N6) | (with_reducible exact QS.out _ N7) | (with_reducible exact off5 _ _ _ _ _ HNE.out K7.out))
    clear hK K hHeld
    intro hHeld
    try simp only [Act.put, List.setIfInBounds_toArray, List.set_cons_zero, List.set_cons_succ]
    refine wpAnyH_done (by kernel_rfl) ?_ _
    refine NoPanic.normal ?_
    have OO := D.hidIt (O0.out.trans (ON2.out.trans ((Only.drewN pr w2 1).trans N7)))
    have FIN := D.hidIt (put5R (g := w.heap.size + 1) (.string nm) (.string sup) (.slice aop (rdO l a1 Y1).length cpp) (.slice none 0 0) (.slice none 0 0) H00.out OO.out R7 (by omega))
    have H5 := D.hidIt (set5T (.string nm) (.string sup) (.slice aop (rdO l a1 Y1).length cpp) (.slice none 0 0) (.slice none 0 0) H7.out)
    clear f0 f1 f2 f3 f4 ff R2 N2 R3 N3 R4 N4 R5 N5 R6 N6 R7 N7 on3 on4 on5 on6 on7
    go_wp2
    refine bodyPost_ret (results_cell_row rfl _ _ (w.heap.size + 1) 33 _ (0, 0) _ rfl H5.out Tryz.underlying33 rfl (by kernel_rfl)) rfl ?_
    exact ⟨⟨_, _, _, rfl⟩, FIN.out.1, FIN.out.2⟩
    refine hK.out _ _ ?hSa29 ?resta29
    case hSa29 => (try dsimp only); (first | (with_reducible exact QS.out _ N2) | (with_reducible exact QS.out _ N3) | (with_reducible exact QS.out _ N4) | (with_reducible exact QS.out _ N5) | (with_reducible exact QS.out _ N6) | (with_reducible exact QS.out _ N7) | (with_reducible exact off5 _ _ _ _ _ HNE.out K7.out))
    clear hK K hHeld
    intro hHeld
    try simp only [Act.put, List.setIfInBounds_toArray, List.set_cons_zero, List.set_cons_succ]
    refine wpAnyH_done (by kernel_rfl) ?_ _
    refine NoPanic.normal ?_
    have OO := D.hidIt (O0.out.trans (ON2.out.trans ((Only.drewN pr w2 1).trans N7)))
    have FIN := D.hidIt (put5R (g := w.heap.size + 1) (.string nm) (.string sup) (.slice aop (rdO l a1 Y1).length cpp) (.slice none 0 0) (.slice none 0 0) H00.out OO.out R7 (by omega))
    have H5 := D.hidIt (set5T (.string nm) (.string sup) (.slice aop (rdO l a1 Y1).length cpp) (.slice none 0 0) (.slice none 0 0) H7.out)
    clear f0 f1 f2 f3 f4 ff R2 N2 R3 N3 R4 N4 R5 N5 R6 N6 R7 N7 on3 on4 on5 on6 on7
    go_wp2
    refine bodyPost_ret (results_cell_row rfl _ _ (w.heap.size + 1) 33 _ (0, 0) _ rfl H5.out Tryz.underlying33 rfl (by kernel_rfl)) rfl ?_
    exact ⟨⟨_, _, _, rfl⟩, FIN.out.1, FIN.out.2⟩
  · have d1 := (KS.out _ ON2.out).1
    have QS : Hid (∀ W, Only pr w2.drew W → W.cell? ⟨w.heap.size, 0, none⟩ = some (.pointer (some ⟨pr, 0, none⟩))) := fun W ho => (KS.out W (ON2.out.trans ((Only.drewN pr w2 1).trans ho))).1
    have QH : Hid (∀ W, Only pr w2.drew W → W.heap[w.heap.size + 1]? = some (.cells #[.string ⟨#[]⟩, .string ⟨#[]⟩, .slice none 0 0, .slice none 0 0, .slice none 0 0] 33)) := fun W ho => (KS.out W (ON2.out.trans ((Only.drewN pr w2 1).trans ho))).2
    have R2 : IsR pr w2.drew v l a1 Y1 := H2.out.below (below_drewN (Below.refl _ _) 1)
    have HNE : Hid (w.heap.size ≠ w.heap.size + 1) := by show _ ≠ _; omega
    have N2 : Only pr w2.drew w2.drew := Only.refl _ _
    go_wp2_with fail
    refine wp_region_noPanic ?_
    refine wp_region_held_drew (S := (fun W' => W'.cell? ⟨w.heap.size, 0, none⟩ = some (.pointer (some ⟨pr, 0, none⟩)))) (by kernel_rfl) ?_ (fun hHeld => ?_)
    · (try dsimp only); (first | (with_reducible exact QS.out _ N2) | (with_reducible exact QS.out _ N3) | (with_reducible exact QS.out _ N4) | (with_reducible exact QS.out _ N5) | (with_reducible exact QS.out _ N6) | (with_reducible exact QS.out _ N7) | (with_reducible exact off5 _ _ _ _ _ HNE.out K7.out))
    refine wpAnyH_take (i := 0) (oi := { dst := some 11, op := Go.Op.fieldAddr 79 (Go.Operand.tmp 1) 0, type := 0, pos := "bytes.go:117", after := #[], guard := none }) (v := ?vb1) rfl (by kernel_rfl) (by kernel_rfl) (by kernel_rfl) (fun _ _ _ h => h) (Or.inl ⟨by rfl, ?hyb1⟩) (by assumption) ?restb1
    case hyb1 => intro w hSw; (try dsimp only at hSw); go_simp; try with_reducible rfl
    try simp only [Act.put, List.setIfInBounds_toArray, List.set_cons_zero, List.set_cons_succ]
    refine wpAnyH_take (i := 1) (oi := { dst := some 12, op := Go.Op.load 76 (Go.Operand.tmp 11), type := 76, pos := "bytes.go:117", after := #[{ on := 0, ground := Go.Ground.data }], guard := none }) (v := ?vb2) rfl (by kernel_rfl) (by kernel_rfl) (by kernel_rfl) (fun _ _ _ h => h) (Or.inl ⟨by rfl, ?hyb2⟩) (by assumption) ?restb2
    case hyb2 => intro w hSw; (try dsimp only at hSw); go_simp; try with_reducible rfl
    try simp only [Act.put, List.setIfInBounds_toArray, List.set_cons_zero, List.set_cons_succ]
    refine wpAnyH_take (i := 3) (oi := { dst := some 14, op := Go.Op.fieldAddr 79 (Go.Operand.tmp 1) 0, type := 0, pos := "bytes.go:117", after := #[], guard := none }) (v := ?vb3) rfl (by kernel_rfl) (by kernel_rfl) (by kernel_rfl) (fun _ _ _ h => h) (Or.inl ⟨by rfl, ?hyb3⟩) (by assumption) ?restb3
    case hyb3 => intro w hSw; (try dsimp only at hSw); go_simp; try with_reducible rfl
    try simp only [Act.put, List.setIfInBounds_toArray, List.set_cons_zero, List.set_cons_succ]
    refine wpAnyH_take (i := 4) (oi := { dst := some 15, op := Go.Op.load 76 (Go.Operand.tmp 14), type := 76, pos := "bytes.go:117", after := #[{ on := 3, ground := Go.Ground.data }], guard := none }) (v := ?vb4) rfl (by kernel_rfl) (by kernel_rfl) (by kernel_rfl) (fun _ _ _ h => h) (Or.inl ⟨by rfl, ?hyb4⟩) (by assumption) ?restb4
    case hyb4 => intro w hSw; (try dsimp only at hSw); go_simp; try with_reducible rfl
    try simp only [Act.put, List.setIfInBounds_toArray, List.set_cons_zero, List.set_cons_succ]
    refine wpAnyH_take (i := 6) (oi := { dst := some 17, op := Go.Op.fieldAddr 79 (Go.Operand.tmp 1) 0, type := 0, pos := "bytes.go:117", after := #[], guard := none }) (v := ?vb5) rfl (by kernel_rfl) (by kernel_rfl) (by kernel_rfl) (fun _ _ _ h => h) (Or.inl ⟨by rfl, ?hyb5⟩) (by assumption) ?restb5
    case hyb5 => intro w hSw; (try dsimp only at hSw); go_simp; try with_reducible rfl
    try simp only [Act.put, List.setIfInBounds_toArray, List.set_cons_zero, List.set_cons_succ]
    refine wpAnyH_take (i := 7) (oi := { dst := some 18, op := Go.Op.load 76 (Go.Operand.tmp 17), type := 76, pos := "bytes.go:117", after := #[{ on := 6, ground := Go.Ground.data }], guard := none }) (v := ?vb6) rfl (by kernel_rfl) (by kernel_rfl) (by kernel_rfl) (fun _ _ _ h => h) (Or.inl ⟨by rfl, ?hyb6⟩) (by assumption) ?restb6
    case hyb6 => intro w hSw; (try dsimp only at hSw); go_simp; try with_reducible rfl
    try simp only [Act.put, List.setIfInBounds_toArray, List.set_cons_zero, List.set_cons_succ]
    refine wpAnyH_take (i := 9) (oi := { dst := some 20, op := Go.Op.load 79 (Go.Operand.tmp 1), type := 79, pos := "bytes.go:117", after := #[], guard := none }) (v := ?vb7) rfl (by kernel_rfl) (by kernel_rfl) (by kernel_rfl) (fun _ _ _ h => h) (Or.inl ⟨by rfl, ?hyb7⟩) (by assumption) ?restb7
    case hyb7 => intro w hSw; (try dsimp only at hSw); go_simp; try with_reducible rfl
    try simp only [Act.put, List.setIfInBounds_toArray, List.set_cons_zero, List.set_cons_succ]
    refine wpAnyH_take (i := 10) (oi := { dst := some 21, op := Go.Op.load 79 (Go.Operand.tmp 1), type := 79, pos := "bytes.go:117", after := #[], guard := none }) (v := ?vb8) rfl (by kernel_rfl) (by kernel_rfl) (by kernel_rfl) (fun _ _ _ h => h) (Or.inl ⟨by rfl, ?hyb8⟩) (by assumption) ?restb8
    case hyb8 => intro w hSw; (try dsimp only at hSw); go_simp; try with_reducible rfl
    try simp only [Act.put, List.setIfInBounds_toArray, List.set_cons_zero, List.set_cons_succ]
    refine wpAnyH_take (i := 11) (oi := { dst := some 22, op := Go.Op.makeFunc (Go.Fn.func 70) #[Go.Operand.tmp 21] #[], type := 127, pos := "bytes.go:117", after := #[{ on := 10, ground := Go.Ground.data }], guard := none }) (v := ?vb9) rfl (by kernel_rfl) (by kernel_rfl) (by kernel_rfl) (fun _ _ _ h => h) (Or.inl ⟨by rfl, ?hyb9⟩) (by assumption) ?restb9
    case hyb9 => intro w hSw; (try dsimp only at hSw); go_simp; try with_reducible rfl
    try simp only [Act.put, List.setIfInBounds_toArray, List.set_cons_zero, List.set_cons_succ]
    refine wpAnyH_take (i := 13) (oi := { dst := some 24, op := Go.Op.load 79 (Go.Operand.tmp 1), type := 79, pos := "bytes.go:117", after := #[], guard := none }) (v := ?vb10) rfl (by kernel_rfl) (by kernel_rfl) (by kernel_rfl) (fun _ _ _ h => h) (Or.inl ⟨by rfl, ?hyb10⟩) (by assumption) ?restb10
    case hyb10 => intro w hSw; (try dsimp only at hSw); go_simp; try with_reducible rfl
    try simp only [Act.put, List.setIfInBounds_toArray, List.set_cons_zero, List.set_cons_succ]
    refine wpAnyH_take (i := 14) (oi := { dst := some 25, op := Go.Op.load 79 (Go.Operand.tmp 1), type := 79, pos := "bytes.go:117", after := #[], guard := none }) (v := ?vb11) rfl (by kernel_rfl) (by kernel_rfl) (by kernel_rfl) (fun _ _ _ h => h) (Or.inl ⟨by rfl, ?hyb11⟩) (by assumption) ?restb11
    case hyb11 => intro w hSw; (try dsimp only at hSw); go_simp; try with_reducible rfl
    try simp only [Act.put, List.setIfInBounds_toArray, List.set_cons_zero, List.set_cons_succ]
    refine wpAnyH_take (i := 15) (oi := { dst := some 26, op := Go.Op.makeFunc (Go.Fn.func 72) #[Go.Operand.tmp 25] #[], type := 129, pos := "bytes.go:117", after := #[{ on := 14, ground := Go.Ground.data }], guard := none }) (v := ?vb12) rfl (by kernel_rfl) (by kernel_rfl) (by kernel_rfl) (fun _ _ _ h => h) (Or.inl ⟨by rfl, ?hyb12⟩) (by assumption) ?restb12
    case hyb12 => intro w hSw; (try dsimp only at hSw); go_simp; try with_reducible rfl
    try simp only [Act.put, List.setIfInBounds_toArray, List.set_cons_zero, List.set_cons_succ]
    refine wpAnyH_ready (rs := [2]) (by kernel_rfl) (by simp) ?_
    refine AllReadyH.cons (o := { dst := some 13, op := Go.Op.call { callee := Go.Callee.value (Go.Operand.func 67), args := #[Go.Operand.tmp 12], argTypes := #[76] }, type := 29, pos := "bytes.go:118", after := #[{ on := 1, ground := Go.Ground.data }], guard := none }) rfl (fun K hK => ?_) AllReadyH.nil
    go_simp
    refine (gP _ R2).out.mono ?_; rintro e w3 ⟨vp, rfl, op, R3, on3⟩; have N3 := N2.trans on3; obtain ⟨aop, cpp, rfl⟩ := slice_of_own op; clear op
    try go_wp2_with fail
    refine hK.out _ _ ?hSb13 ?restb13
    case hSb13 => (try dsimp only); (first | (with_reducible exact QS.out _ N2) | (with_reducible exact QS.out _ N3) | (with_reducible exact QS.out _ N4) | (with_reducible exact QS.out _ N5) | (with_reducible exact QS.out _ N6) | (with_reducible exact QS.out _ N7) | (with_reducible exact off5 _ _ _ _ _ HNE.out K7.out))
    clear hK K hHeld
    intro hHeld
    try simp only [Act.put, List.setIfInBounds_toArray, List.set_cons_zero, List.set_cons_succ]
    refine wpAnyH_ready (rs := [5]) (by kernel_rfl) (by simp) ?_
    refine AllReadyH.cons (o := { dst := some 16, op := Go.Op.call { callee := Go.Callee.value (Go.Operand.func 68), args := #[Go.Operand.tmp 15], argTypes := #[76] }, type := 9, pos := "bytes.go:119", after := #[{ on := 4, ground := Go.Ground.data }, { on := 2, ground := Go.Ground.chain }], guard := none }) rfl (fun K hK => ?_) AllReadyH.nil
    go_simp
    refine (gN _ R3).out.mono ?_; rintro e w4 ⟨rfl, R4, on4⟩; have N4 := N3.trans on4
    try go_wp2_with fail
    refine hK.out _ _ ?hSb14 ?restb14
    case hSb14 => (try dsimp only); (first | (with_reducible exact QS.out _ N2) | (with_reducible exact QS.out _ N3) | (with_reducible exact QS.out _ N4) | (with_reducible exact QS.out _ N5) | (with_reducible exact QS.out _ N6) | (with_reducible exact QS.out _ N7) | (with_reducible exact off5 _ _ _ _ _ HNE.out K7.out))
    clear hK K hHeld
    intro hHeld
    try simp only [Act.put, List.setIfInBounds_toArray, List.set_cons_zero, List.set_cons_succ]
    refine wpAnyH_ready (rs := [8]) (by kernel_rfl) (by simp) ?_
    refine AllReadyH.cons (o := { dst := some 19, op := Go.Op.call { callee := Go.Callee.value (Go.Operand.func 68), args := #[Go.Operand.tmp 18], argTypes := #[76] }, type := 9, pos := "bytes.go:120", after := #[{ on := 7, ground := Go.Ground.data }, { on := 5, ground := Go.Ground.chain }], guard := none }) rfl (fun K hK => ?_) AllReadyH.nil
    go_simp
    refine (gS _ R4).out.mono ?_; rintro e w5 ⟨rfl, R5, on5⟩; have N5 := N4.trans on5
    try go_wp2_with fail
    refine hK.out _ _ ?hSb15 ?restb15
    case hSb15 => (try dsimp only); (first | (with_reducible exact QS.out _ N2) | (with_reducible exact QS.out _ N3) | (with_reducible exact QS.out _ N4) | (with_reducible exact QS.out _ N5) | (with_reducible exact QS.out _ N6) | (with_reducible exact QS.out _ N7) | (with_reducible exact off5 _ _ _ _ _ HNE.out K7.out))
    clear hK K hHeld
    intro hHeld
    try simp only [Act.put, List.setIfInBounds_toArray, List.set_cons_zero, List.set_cons_succ]
    refine wpAnyH_ready (rs := [12]) (by kernel_rfl) (by simp) ?_
    refine AllReadyH.cons (o := { dst := some 23, op := Go.Op.call { callee := Go.Callee.value (Go.Operand.func 69), args := #[Go.Operand.tmp 20, Go.Operand.tmp 22], argTypes := #[79, 127] }, type := 30, pos := "bytes.go:121", after := #[{ on := 9, ground := Go.Ground.data }, { on := 11, ground := Go.Ground.data }, { on := 8, ground := Go.Ground.chain }], guard := none }) rfl (fun K hK => ?_) AllReadyH.nil
    go_simp
    refine (g5 _ R5).out.mono ?_; rintro e w6 ⟨rfl, R6, on6⟩; have N6 := N5.trans on6
    try go_wp2_with fail
    refine hK.out _ _ ?hSb16 ?restb16
    case hSb16 => (try dsimp only); (first | (with_reducible exact QS.out _ N2) | (with_reducible exact QS.out _ N3) | (with_reducible exact QS.out _ N4) | (with_reducible exact QS.out _ N5) | (with_reducible exact QS.out _ N6) | (with_reducible exact QS.out _ N7) | (with_reducible exact off5 _ _ _ _ _ HNE.out K7.out))
    clear hK K hHeld
    intro hHeld
    try simp only [Act.put, List.setIfInBounds_toArray, List.set_cons_zero, List.set_cons_succ]
    refine wpAnyH_ready (rs := [16]) (by kernel_rfl) (by simp) ?_
    refine AllReadyH.cons (o := { dst := some 27, op := Go.Op.call { callee := Go.Callee.value (Go.Operand.func 71), args := #[Go.Operand.tmp 24, Go.Operand.tmp 26], argTypes := #[79, 129] }, type := 31, pos := "bytes.go:122", after := #[{ on := 13, ground := Go.Ground.data }, { on := 15, ground := Go.Ground.data }, { on := 12, ground := Go.Ground.chain }], guard := none }) rfl (fun K hK => ?_) AllReadyH.nil
    go_simp
    refine (g6 _ R6).out.mono ?_; rintro e w7 ⟨rfl, R7, on7⟩; have N7 := N6.trans on7; have H7 := D.hidIt (QH.out w7 N7); have K7 := D.hidIt (QS.out w7 N7)
    try go_wp2_with fail
    refine hK.out _ _ ?hSb17 ?restb17
    case hSb17 => (try dsimp only); (first | (with_reducible exact QS.out _ N2) | (with_reducible exact QS.out _ N3) | (with_reducible exact QS.out _ N4) | (with_reducible exact QS.out _ N5) | (with_reducible exact QS.out _ N6) | (with_reducible exact QS.out _ N7) | (with_reducible exact off5 _ _ _ _ _ HNE.out K7.out))
    clear hK K hHeld
    intro hHeld
    try simp only [Act.put, List.setIfInBounds_toArray, List.set_cons_zero, List.set_cons_succ]
    refine wpAnyH_take (i := 17) (oi := { dst := some 28, op := Go.Op.build 33 #[(2, Go.Operand.tmp 13), (0, Go.Operand.tmp 16), (1, Go.Operand.tmp 19), (3, Go.Operand.tmp 23), (4, Go.Operand.tmp 27)], type := 33, pos := "bytes.go:117", after := #[{ on := 2, ground := Go.Ground.data }, { on := 5, ground := Go.Ground.data }, { on := 8, ground := Go.Ground.data }, { on := 12, ground := Go.Ground.data }, { on := 16, ground := Go.Ground.data }], guard := none }) (v := ?vb18) rfl (by kernel_rfl) (by kernel_rfl) (by kernel_rfl) (fun _ _ _ h => h) (Or.inl ⟨by rfl, ?hyb18⟩) (by assumption) ?restb18
    case hyb18 => intro w hSw; (try dsimp only at hSw); go_simp; try with_reducible rfl
    try simp only [Act.put, List.setIfInBounds_toArray, List.set_cons_zero, List.set_cons_succ]
    refine wpAnyH_ready (rs := [18]) (by kernel_rfl) (by simp) ?_
    refine AllReadyH.cons (o := { dst := none, op := Go.Op.store 33 (Go.Operand.tmp 2) (Go.Operand.tmp 28), type := 0, pos := "bytes.go:117", after := #[{ on := 17, ground := Go.Ground.data }, { on := 16, ground := Go.Ground.chain }, { on := 0, ground := Go.Ground.phase }, { on := 1, ground := Go.Ground.phase }, { on := 2, ground := Go.Ground.phase }, { on := 3, ground := Go.Ground.phase }, { on := 4, ground := Go.Ground.phase }, { on := 5, ground := Go.Ground.phase }, { on := 6, ground := Go.Ground.phase }, { on := 7, ground := Go.Ground.phase }, { on := 8, ground := Go.Ground.phase }, { on := 9, ground := Go.Ground.phase }, { on := 10, ground := Go.Ground.phase }, { on := 11, ground := Go.Ground.phase }, { on := 12, ground := Go.Ground.phase }, { on := 13, ground := Go.Ground.phase }, { on := 14, ground := Go.Ground.phase }, { on := 15, ground := Go.Ground.phase }, { on := 16, ground := Go.Ground.phase }, { on := 17, ground := Go.Ground.phase }], guard := none }) rfl (fun K hK => ?_) AllReadyH.nil
    go_simp
    obtain ⟨f0, f1, f2, f3, f4, ff⟩ := row5 H7.out
    try go_wp2_with fail
    refine hK.out _ _ ?hSb19 ?restb19
    case hSb19 => (try dsimp only); (first | (with_reducible exact QS.out _ N2) | (with_reducible exact QS.out _ N3) | (with_reducible exact QS.out _ N4) | (with_reducible exact QS.out _ N5) | (with_reducible exact QS.out _ N6) | (with_reducible exact QS.out _ N7) | (with_reducible exact off5 _ _ _ _ _ HNE.out K7.out))
    clear hK K hHeld
    intro hHeld
    try simp only [Act.put, List.setIfInBounds_toArray, List.set_cons_zero, List.set_cons_succ]
    refine wpAnyH_done (by kernel_rfl) ?_ _
    refine NoPanic.normal ?_
    have OO := D.hidIt (O0.out.trans (ON2.out.trans ((Only.drewN pr w2 1).trans N7)))
    have FIN := D.hidIt (put5R (g := w.heap.size + 1) (.string nm) (.string sup) (.slice aop (rdO l a1 Y1).length cpp) (.slice none 0 0) (.slice none 0 0) H00.out OO.out R7 (by omega))
    have H5 := D.hidIt (set5T (.string nm) (.string sup) (.slice aop (rdO l a1 Y1).length cpp) (.slice none 0 0) (.slice none 0 0) H7.out)
    clear f0 f1 f2 f3 f4 ff R2 N2 R3 N3 R4 N4 R5 N5 R6 N6 R7 N7 on3 on4 on5 on6 on7
    go_wp2
    refine bodyPost_ret (results_cell_row rfl _ _ (w.heap.size + 1) 33 _ (0, 0) _ rfl H5.out Tryz.underlying33 rfl (by kernel_rfl)) rfl ?_
    exact ⟨⟨_, _, _, rfl⟩, FIN.out.1, FIN.out.2⟩
    refine hK.out _ _ ?hSb29 ?restb29
    case hSb29 => (try dsimp only); (first | (with_reducible exact QS.out _ N2) | (with_reducible exact QS.out _ N3) | (with_reducible exact QS.out _ N4) | (with_reducible exact QS.out _ N5) | (with_reducible exact QS.out _ N6) | (with_reducible exact QS.out _ N7) | (with_reducible exact off5 _ _ _ _ _ HNE.out K7.out))
    clear hK K hHeld
    intro hHeld
    try simp only [Act.put, List.setIfInBounds_toArray, List.set_cons_zero, List.set_cons_succ]
    refine wpAnyH_done (by kernel_rfl) ?_ _
    refine NoPanic.normal ?_
    have OO := D.hidIt (O0.out.trans (ON2.out.trans ((Only.drewN pr w2 1).trans N7)))
    have FIN := D.hidIt (put5R (g := w.heap.size + 1) (.string nm) (.string sup) (.slice aop (rdO l a1 Y1).length cpp) (.slice none 0 0) (.slice none 0 0) H00.out OO.out R7 (by omega))
    have H5 := D.hidIt (set5T (.string nm) (.string sup) (.slice aop (rdO l a1 Y1).length cpp) (.slice none 0 0) (.slice none 0 0) H7.out)
    clear f0 f1 f2 f3 f4 ff R2 N2 R3 N3 R4 N4 R5 N5 R6 N6 R7 N7 on3 on4 on5 on6 on7
    go_wp2
    refine bodyPost_ret (results_cell_row rfl _ _ (w.heap.size + 1) 33 _ (0, 0) _ rfl H5.out Tryz.underlying33 rfl (by kernel_rfl)) rfl ?_
    exact ⟨⟨_, _, _, rfl⟩, FIN.out.1, FIN.out.2⟩
end Go.Proofs.YthagaldpopnoeaaGreatDoor

/- Decode, where there are too many bytes: walked. -/
namespace Go.Proofs.YthagaldpopnoeaaGreatDoor
open Go.RowKit D

def zeroK : Value := .agg #[.string ⟨#[]⟩, .string ⟨#[]⟩, .slice none 0 0, .slice none 0 0, .slice none 0 0]
/-- A struct in a cell, and two values. -/
theorem results_row2 {fn : Func} {p t1 t2 : Tmp} {ty : TypeId} (h : fn.results = #[.cell p ty, .tmp t1, .tmp t2]) (tmps : Array Value) (w : World) (g : Nat) (t : TypeId) (cs : Array Value) (fr : Nat × Nat) (d : TypeDesc)
    (hp : tmps.getD p undef = .pointer (some ⟨g, 0, none⟩)) (hg : w.heap[g]? = some (.cells cs t fr))
    (hu : Tryz.prog.underlying ty = some d) (hd : (match d with | .struct _ | .array _ _ => true | _ => false) = true) (hi : (Tryz.prog.info? ty).map (·.size) = some cs.size) :
    (results fn tmps).run Tryz.prog w = .ok (.tuple #[.agg cs, tmps.getD t1 undef, tmps.getD t2 undef]) w := by
  have hp' : tmps[p]?.getD undef = .pointer (some ⟨g, 0, none⟩) := by simpa using hp
  have hL := run_loadVar_row (P := Tryz.prog) w g t ty cs fr d hg hu (by cases d <;> simp_all) hi
  simp [results, h, hp', asAddr, hL, Result.andThen]
set_option maxRecDepth 8000 in
set_option maxHeartbeats 2000000 in
theorem decode_long (ao : Option Addr) (n c : Nat) (w : World) (hn : 32768 < n) :
    Calls Tryz.prog 10 #[.slice ao n c] w fun e w' => e = .returned (.tuple #[zeroK, .int .i64 3, .int .i64 0]) ∧ Below w.heap.size w w' := by
  have hn' : (32768 : Int) < (n : Int) := by omega
  have B0 := balloc w (.cells #[.string ⟨#[]⟩, .string ⟨#[]⟩, .slice none 0 0, .slice none 0 0, .slice none 0 0] 33)
  unfold zeroK
  go_enter Tryz.func10, Tryz.ntmps10
  go_wp2
  go_returns
  exact ⟨rfl, B0⟩

set_option maxRecDepth 8000 in
set_option maxHeartbeats 4000000 in
theorem decode_refused (v : Value) (l : List Int) (a1 a2 a3 a4 a5 a6 : Nat) (Y1 y2 y3 y4 y5 y6 why at_ : Int) (nm sup : ByteArray) (w : World) (hv : View w v l) (hlen : l.length ≤ 32768)
    (e1 : (tk l 0 0 6).2.1 = a1) (e1' : hdY l 0 0 = Y1) (e2 : (rdP l a1 Y1).2 = (a2, y2)) (e3 : rtext l a2 y2 = (nm, a3, y3)) (e4 : rtext l a3 y3 = (sup, a4, y4)) (e5 : tk l a4 y4 1 = ([], a5, y5) ∨ tk l a4 y4 1 = ([0], a5, y5)) (e6 : tk l a5 y5 1 = ([], a6, y6) ∨ tk l a5 y5 1 = ([0], a6, y6))
    (e7 : endZ l a6 y6 = (why, at_)) (hy : why ≠ 0) :
    Calls Tryz.prog 10 #[v] w fun e w' => e = .returned (.tuple #[zeroK, .int .i64 why, .int .i64 at_]) ∧ Below w.heap.size w w' := by
  obtain ⟨ao, cap, rfl, -⟩ := id hv
  have B0 := balloc w (.cells #[.string ⟨#[]⟩, .string ⟨#[]⟩, .slice none 0 0, .slice none 0 0, .slice none 0 0] 33)
  have gN := D.hidIt (newR_any _ l _ (hv.below B0) (by omega))
  have gC := fun pr u W (h : IsR pr W u l 0 0) => D.hidIt (class0_any pr u l 0 a1 a2 a3 a4 a5 a6 0 Y1 y2 y3 y4 y5 y6 nm sup W h (by omega) e1 e1' e2 e3 e4 e5 e6)
  have gE := fun pr u W (h : IsR pr W u l a6 y6) => D.hidIt (end_any pr u l a6 y6 W h)
  rw [e7] at gE
  simp only at gE
  have hn' : ¬ (32768 : Int) < (l.length : Int) := by omega
  have C0 := D.hidIt (heap_alloc_new w (.cells #[.string ⟨#[]⟩, .string ⟨#[]⟩, .slice none 0 0, .slice none 0 0, .slice none 0 0] 33))
  clear e1 e1' e2 e3 e4 e5 e6 e7 hv hlen
  generalize l.length = n at *
  have hb : (why != 0) = true := by simpa using hy
  unfold zeroK rv at *
  go_enter Tryz.func10, Tryz.ntmps10
  go_wp2_with fail
  refine gN.out.mono ?_
  rintro e w1 ⟨b1, pr, u, rfl, hpr, h1, _⟩
  have B1 := D.hidIt (next B0 b1)
  have hpr' : w.heap.size < pr := by simp at hpr; omega
  have X1 : Hid (w1.heap[w.heap.size]? = some (.cells #[.string ⟨#[]⟩, .string ⟨#[]⟩, .slice none 0 0, .slice none 0 0, .slice none 0 0] 33)) := (b1.block _ (by simp)).trans C0.out
  have hs1 : w.heap.size < w1.heap.size := by have := b1.size; simp at this; omega
  have H2 := D.hidIt (h1.below (balloc w1 (.cells #[.pointer (some ⟨pr, 0, none⟩)] 79)))
  have hp1 := h1.lt
  have B2 := D.hidIt (balloc w1 (.cells #[.pointer (some ⟨pr, 0, none⟩)] 79))
  have Y2 := D.hidIt (heap_alloc_new w1 (.cells #[.pointer (some ⟨pr, 0, none⟩)] 79))
  clear b1 h1 gN C0
  go_wp2_with fail
  refine (gC _ _ _ H2.out).out.mono ?_
  rintro e w3 ⟨⟨ao3, n3, c3, rfl⟩, h3, o3⟩
  have X3 : Hid (w3.heap[w.heap.size]? = some (.cells #[.string ⟨#[]⟩, .string ⟨#[]⟩, .slice none 0 0, .slice none 0 0, .slice none 0 0] 33)) := ((o3.block _ (by simp; omega) (by omega)).trans (B2.out.block _ hs1)).trans X1.out
  have Y3 : Hid (w3.heap[w1.heap.size]? = some (.cells #[.pointer (some ⟨pr, 0, none⟩)] 79)) := (o3.block _ (by simp) (by omega)).trans Y2.out
  have hs3 : w1.heap.size < w3.heap.size := by have := o3.size; simp at this; omega
  have B3 : Hid (Below w.heap.size w w3) := (B1.out.trans (B2.out.mono (by omega))).trans (o3.below (by simp; omega) (by omega))
  clear gC H2 o3
  have b4 := balloc w3 (.cells #[.string nm, .string sup, .slice ao3 n3 c3, .slice none 0 0, .slice none 0 0] 33)
  have H4 := D.hidIt (h3.below b4)
  have X4 : Hid ((w3.alloc (.cells #[.string nm, .string sup, .slice ao3 n3 c3, .slice none 0 0, .slice none 0 0] 33)).heap[w.heap.size]? = some (.cells #[.string ⟨#[]⟩, .string ⟨#[]⟩, .slice none 0 0, .slice none 0 0, .slice none 0 0] 33)) := (b4.block _ (by omega)).trans X3.out
  have y4c := cell_row ((b4.block _ hs3).trans Y3.out) 0 rfl
  have B4 := D.hidIt (B3.out.trans (b4.mono (by omega)))
  clear h3 b4
  go_wp2_with fail
  refine (gE _ _ _ H4.out).out.mono ?_
  rintro e w5 ⟨rfl, q5, rfl⟩
  clear gE H4 y4c
  obtain ⟨f0, f1, f2, f3, f4, ff⟩ := row5 X4.out
  have B5 := D.hidIt ((((((below_drewN B4.out q5).setCell (p := ⟨w.heap.size, 0, none⟩) (Nat.le_refl _) (.string ⟨#[]⟩)).setCell (p := ⟨w.heap.size, 1, none⟩) (Nat.le_refl _) (.string ⟨#[]⟩)).setCell (p := ⟨w.heap.size, 2, none⟩) (Nat.le_refl _) (.slice none 0 0)).setCell (p := ⟨w.heap.size, 3, none⟩) (Nat.le_refl _) (.slice none 0 0)).setCell (p := ⟨w.heap.size, 4, none⟩) (Nat.le_refl _) (.slice none 0 0))
  have H5 := D.hidIt (set5T (.string ⟨#[]⟩) (.string ⟨#[]⟩) (.slice none 0 0) (.slice none 0 0) (.slice none 0 0) (show ((w3.alloc (.cells #[.string nm, .string sup, .slice ao3 n3 c3, .slice none 0 0, .slice none 0 0] 33)).drewN q5).heap[w.heap.size]? = _ from X4.out))
  go_wp2
  refine bodyPost_ret (results_row2 rfl _ _ w.heap.size 33 _ (0, 0) _ rfl H5.out Tryz.underlying33 rfl (by kernel_rfl)) rfl ?_
  exact ⟨rfl, B5.out⟩
end Go.Proofs.YthagaldpopnoeaaGreatDoor

/- known: the class A, written; nothing, read. -/
namespace Go.Proofs.YthagaldpopnoeaaGreatDoor
open Go.RowKit D
def kA : KD := ⟨⟨#[65]⟩, ⟨#[]⟩, [], [], []⟩
theorem kA_right : rightZ kA = 0 := by
  first
    | rfl
    | decide
    | kernel_rfl
theorem kA_out : classO kA = [202, 254, 186, 190, 0, 1, 0, 0, 0, 1, 65, 0, 0, 0, 0] := by
  first
    | rfl
    | decide
    | kernel_rfl
theorem kA_at (w : World) : ClassV w (.agg #[.string ⟨#[65]⟩, .string ⟨#[]⟩, .slice none 0 0, .slice none 0 0, .slice none 0 0]) kA :=
  ⟨none, 0, none, 0, none, 0, rfl, by decide, by decide, LAt.nil _ _ _ _ _ (Nat.zero_le _), LAt.nil _ _ _ _ _ (Nat.zero_le _), LAt.nil _ _ _ _ _ (Nat.zero_le _)⟩
theorem decode_none (w : World) : Calls Tryz.prog 10 #[.slice none 0 0] w fun e w' => e = .returned (.tuple #[zeroK, .int .i64 10, .int .i64 0]) ∧ Below w.heap.size w w' :=
  decode_refused (.slice none 0 0) [] 0 0 0 0 0 0 10 10 10 10 10 10 10 0 ⟨#[]⟩ ⟨#[]⟩ w (View.empty w) (by decide) rfl (by first | rfl | decide | kernel_rfl) (by first | rfl | decide | kernel_rfl) (by first | rfl | decide | kernel_rfl) (by first | rfl | decide | kernel_rfl) (.inl (by first | rfl | decide)) (.inl (by first | rfl | decide)) (by first | rfl | decide) (by decide)
theorem encode_A (w : World) (hT : Tabs w) (h2 : 2 ≤ w.heap.size) : Calls Tryz.prog 14 #[.agg #[.string ⟨#[65]⟩, .string ⟨#[]⟩, .slice none 0 0, .slice none 0 0, .slice none 0 0]] w fun e w' => Below w.heap.size w w' ∧ ∃ ao c, e = .returned (.tuple #[.slice ao 15 c, .int .i64 0]) ∧ View w' (.slice ao 15 c) [202, 254, 186, 190, 0, 1, 0, 0, 0, 1, 65, 0, 0, 0, 0] := by
  refine (encode_class kA _ w (kA_at w) hT h2).mono ?_
  rintro e w' ⟨hb, ha⟩
  refine ⟨hb, ?_⟩
  rw [kA_right, kA_out] at ha
  rcases ha with ⟨h, _⟩ | ⟨_, h, _⟩ | ⟨_, _, v, rfl, ho⟩
  · exact absurd rfl h
  · exact absurd h (by decide)
  · obtain ⟨ao, c, rfl⟩ := own_slice ho
    exact ⟨ao, c, rfl, View.of_own ho (by intro x hx; simp at hx; omega)⟩
set_option maxRecDepth 8000 in
set_option maxHeartbeats 2000000 in
theorem known_any (w : World) (hT : Tabs w) (h2 : 2 ≤ w.heap.size) : Calls Tryz.prog 13 #[] w fun e w' => e = .returned (.bool true) ∧ Below w.heap.size w w' := by
  have gE := D.hidIt (encode_A w hT h2)
  have gD := fun W => D.hidIt (decode_none W)
  unfold zeroK at gD
  clear hT h2
  go_enter Tryz.func13, Tryz.ntmps13
  go_wp2_with fail
  refine gE.out.mono ?_
  rintro e w1 ⟨b1, ao, c, rfl, V1⟩
  have B1 := D.hidIt b1
  have HV := D.hidIt V1
  clear b1 V1 gE
  go_wp2_with fail
  refine (gD _).out.mono ?_
  rintro e w2 ⟨rfl, b2⟩
  have B2 := D.hidIt (next B1.out (next b2 (balloc w2 (.cells #[.string ⟨#[]⟩, .string ⟨#[]⟩, .slice none 0 0, .slice none 0 0, .slice none 0 0] 33))))
  have cs := run_string (HV.out.below (next b2 (balloc w2 (.cells #[.string ⟨#[]⟩, .string ⟨#[]⟩, .slice none 0 0, .slice none 0 0, .slice none 0 0] 33))))
  have hst : ((strOfNums [202, 254, 186, 190, 0, 1, 0, 0, 0, 1, 65, 0, 0, 0, 0]).toList == [202, 254, 186, 190, 0, 1, 0, 0, 0, 1, 65, 0, 0, 0, 0]) = true := by rw [Lib.toList_data]; first | rfl | decide
  generalize strOfNums [202, 254, 186, 190, 0, 1, 0, 0, 0, 1, 65, 0, 0, 0, 0] = sA at *
  clear b2 gD HV
  go_wp2
  go_ret
  exact ⟨rfl, B2.out⟩
end Go.Proofs.YthagaldpopnoeaaGreatDoor

/- Rows of cells in memory of one's own: a list lies there; Within. -/
namespace Go.Proofs.YthagaldpopnoeaaGreatDoor
open Go.RowKit D

theorem flatR_get {α : Type} (row : α → List Value) (k : Nat) (hk : ∀ x, (row x).length = k) : ∀ (l : List α) (j : Nat) (x : α) (i : Nat), l[j]? = some x → i < k → (l.flatMap row)[j * k + i]? = (row x)[i]? := by
  intro l
  induction l with
  | nil => intro j x i h; simp at h
  | cons y l ih =>
    intro j x i h hi
    rw [List.flatMap_cons]
    cases j with
    | zero =>
      simp at h; subst h
      rw [Nat.zero_mul, Nat.zero_add, List.getElem?_append_left (by rw [hk]; exact hi)]
    | succ j =>
      simp at h
      rw [List.getElem?_append_right (by rw [hk, Nat.succ_mul]; omega), hk, show (j + 1) * k + i - k = j * k + i by rw [Nat.succ_mul]; omega]
      exact ih j x i h hi
theorem flatR_len {α : Type} (row : α → List Value) (k : Nat) (hk : ∀ x, (row x).length = k) (l : List α) : (l.flatMap row).length = l.length * k := by
  induction l with
  | nil => simp
  | cons y l ih => rw [List.flatMap_cons, List.length_append, hk, ih, List.length_cons, Nat.succ_mul]; omega

/-- A list lies in a block whose cells begin with its rows. -/
theorem LAt.of_block {α : Type} {k : Nat} {R : World → List Value → α → Prop} {row : α → List Value} (hk : ∀ x, (row x).length = k) {w : World} {g : Nat} {cur : Array Value} {T : TypeId} {cap : Nat} {l : List α}
    (hg : w.heap[g]? = some (.cells cur T (0, 0))) (ht : cur.toList.take (l.length * k) = l.flatMap row) (hc : l.length ≤ cap) (hm : cap ≤ maxLen) (hR : ∀ x ∈ l, R w (row x) x) : LAt k R w (some ⟨g, 0, none⟩) cap l := by
  refine ⟨hc, hm, fun j => match l[j]? with | some x => row x | none => [], fun _ => ⟨g, 0, rfl, (Array.getElem?_eq_some_iff.1 hg).1, fun j hj i v hv => ?_⟩, fun i x hx => ?_⟩
  · obtain ⟨x, hx⟩ : ∃ x, l[j]? = some x := ⟨l[j], List.getElem?_eq_getElem hj⟩
    simp only [hx] at hv
    have hi : i < k := by rw [← hk x]; exact (List.getElem?_eq_some_iff.1 hv).1
    have h1 := flatR_get row k hk l j x i hx hi
    rw [← ht, List.getElem?_take] at h1
    have hlt : j * k + i < l.length * k := by
      have : (j + 1) * k ≤ l.length * k := Nat.mul_le_mul_right k hj
      rw [Nat.succ_mul] at this; omega
    rw [if_pos hlt, hv] at h1
    rw [Nat.zero_add]
    exact cell_row hg (j * k + i) (by simpa using h1)
  · simp only [hx]
    exact hR x (List.mem_of_getElem? hx)
theorem LAt.of_own {α : Type} {k : Nat} {R : World → List Value → α → Prop} {row : α → List Value} (hk : ∀ x, (row x).length = k) {w : World} {B : Nat} {T : TypeId} {v : Value} {l : List α}
    (h : w.ownsRow B T k v l.length (l.flatMap row)) (hR : ∀ x ∈ l, R w (row x) x) : ∃ ao cap, v = .slice ao l.length cap ∧ LAt k R w ao cap l := by
  rcases h.2 with ⟨rfl, h0⟩ | ⟨g, cap, cur, rfl, hB, hg, hc, hm, hs, ht⟩
  · have hl : l = [] := List.length_eq_zero_iff.1 h0
    subst hl
    exact ⟨none, 0, rfl, LAt.nil _ _ _ _ _ (Nat.zero_le _)⟩
  · exact ⟨_, cap, rfl, LAt.of_block hk hg ht hc hm hR⟩
/-- One cell of the last row is set. -/
theorem take_set_last {α : Type} {k : Nat} {row : α → List Value} (hk : ∀ x, (row x).length = k) {cur : Array Value} {l : List α} {x y : α} {i : Nat} {u : Value} (ht : cur.toList.take ((l ++ [x]).length * k) = (l ++ [x]).flatMap row) (hy : row y = (row x).set i u) :
    (cur.setIfInBounds (l.length * k + i) u).toList.take ((l ++ [y]).length * k) = (l ++ [y]).flatMap row := by
  have hl : (l ++ [y]).length = (l ++ [x]).length := by simp
  rw [Array.toList_setIfInBounds, List.take_set, hl, ht, List.flatMap_append, List.flatMap_append]
  rw [List.set_append, if_neg (by rw [flatR_len row k hk]; omega), flatR_len row k hk, show l.length * k + i - l.length * k = i by omega]
  simp [hy]

def frow (f : FD) : List Value := [.string f.nm, .string f.ds, .bool f.st]
def mrow0 (m : MD) : List Value := [.string m.nm, .string m.ds, .bool m.st, .bool m.nat, .int .i64 m.stk, .int .i64 m.loc, .slice none 0 0, .slice none 0 0, .slice none 0 0]
theorem frow_len (f : FD) : (frow f).length = 3 := rfl
theorem mrow0_len (m : MD) : (mrow0 m).length = 9 := rfl
theorem frow_R {w : World} {f : FD} (h1 : f.nm.size ≤ 9223372036854775807) (h2 : f.ds.size ≤ 9223372036854775807) : FieldR w (frow f) f := ⟨rfl, h1, h2⟩
theorem mrow0_R {w : World} {m : MD} (h1 : m.nm.size ≤ 9223372036854775807) (h2 : m.ds.size ≤ 9223372036854775807) (hc : m.code = []) (hh : m.hs = []) (hr : m.rs = []) : MethR w (mrow0 m) m := by
  refine ⟨none, 0, none, 0, none, 0, ?_, h1, h2, ?_, ?_, ?_⟩
  · rw [hc, hh, hr]; rfl
  · rw [hc]; exact View.empty w
  · rw [hh]; exact LAt.nil _ _ _ _ _ (Nat.zero_le _)
  · rw [hr]; exact LAt.nil _ _ _ _ _ (Nat.zero_le _)

theorem tmod_pos (n m : Int) (h : 0 < m) : -m < n.tmod m ∧ n.tmod m < m := by
  have h1 := Int.tmod_lt_of_pos n h
  have h2 := Int.lt_tmod_of_pos n h
  omega
set_option maxRecDepth 8000 in
set_option maxHeartbeats 1000000 in
theorem within_any (n : Int) (hi : Nat) (hm : hi ≤ 1099511627776) (w : World) :
    Calls Tryz.prog 18 #[.int .i64 n, .int .i64 0, .int .i64 (hi : Int)] w fun e w' => (∃ k : Nat, k ≤ hi ∧ e = .returned (.int .i64 (k : Int))) ∧ w' = w := by
  have hf := tmod_pos n ((hi : Int) + 1) (by omega)
  obtain ⟨h1, h2⟩ := hf
  have e2 : ¬ (hi : Int) + 1 = 0 := by omega
  by_cases hc : n.tmod ((hi : Int) + 1) < 0
  · go_enter Tryz.func18, Tryz.ntmps18
    go_wp2
    go_ret
    refine ⟨⟨(n.tmod ((hi : Int) + 1) + hi + 1).toNat, by omega, ?_⟩, rfl⟩
    refine D.ret_int ?_
    omega
  · go_enter Tryz.func18, Tryz.ntmps18
    go_wp2
    go_ret
    refine ⟨⟨(n.tmod ((hi : Int) + 1)).toNat, by omega, ?_⟩, rfl⟩
    refine D.ret_int ?_
    omega
set_option maxRecDepth 8000 in
set_option maxHeartbeats 1000000 in
theorem few_any (n : Nat) (w : World) : Calls Tryz.prog 26 #[.int .i64 (n : Int)] w fun e w' => e = .returned (.int .i64 (if 16 < n then 4 else 0)) ∧ w' = w := by
  by_cases h : 16 < n
  · have h' : (16 : Int) < (n : Int) := by omega
    rw [if_pos h]
    go_enter Tryz.func26, Tryz.ntmps26
    go_wp2
    go_ret
    exact ⟨rfl, rfl⟩
  · have h' : ¬ (16 : Int) < (n : Int) := by omega
    rw [if_neg h]
    go_enter Tryz.func26, Tryz.ntmps26
    go_wp2
    go_ret
    exact ⟨rfl, rfl⟩
end Go.Proofs.YthagaldpopnoeaaGreatDoor
