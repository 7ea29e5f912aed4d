/- Decode, where there are too many bytes: walked. -/
import Derived.Test.YthagaldpopnoeaaGreatDoorCN
namespace Go.Proofs.YthagaldpopnoeaaGreatDoor
open Go.RowKit D

def zeroK : Value := .agg #[.string ⟨#[]⟩, .string ⟨#[]⟩, .slice none 0 0, .slice none 0 0, .slice none 0 0]
/-- A struct in a cell, and two values. -/
theorem results_row2 {fn : Func} {p t1 t2 : Tmp} {ty : TypeId} (h : fn.results = #[.cell p ty, .tmp t1, .tmp t2]) (tmps : Array Value) (w : World) (g : Nat) (t : TypeId) (cs : Array Value) (fr : Nat × Nat) (d : TypeDesc)
    (hp : tmps.getD p undef = .pointer (some ⟨g, 0, none⟩)) (hg : w.heap[g]? = some (.cells cs t fr))
    (hu : Tryz.prog.underlying ty = some d) (hd : (match d with | .struct _ | .array _ _ => true | _ => false) = true) (hi : (Tryz.prog.info? ty).map (·.size) = some cs.size) :
    (results fn tmps).run Tryz.prog w = .ok (.tuple #[.agg cs, tmps.getD t1 undef, tmps.getD t2 undef]) w := by
  have hp' : tmps[p]?.getD undef = .pointer (some ⟨g, 0, none⟩) := by simpa using hp
  have hL := run_loadVar_row (P := Tryz.prog) w g t ty cs fr d hg hu (by cases d <;> simp_all) hi
  simp [results, h, hp', asAddr, hL, Result.andThen]
set_option maxRecDepth 8000 in
set_option maxHeartbeats 2000000 in
theorem decode_long (ao : Option Addr) (n c : Nat) (w : World) (hn : 32768 < n) :
    Calls Tryz.prog 10 #[.slice ao n c] w fun e w' => e = .returned (.tuple #[zeroK, .int .i64 3, .int .i64 0]) ∧ Below w.heap.size w w' := by
  have hn' : (32768 : Int) < (n : Int) := by omega
  have B0 := balloc w (.cells #[.string ⟨#[]⟩, .string ⟨#[]⟩, .slice none 0 0, .slice none 0 0, .slice none 0 0] 33)
  unfold zeroK
  go_enter Tryz.func10, Tryz.ntmps10
  go_wp2
  go_returns
  exact ⟨rfl, B0⟩

set_option maxRecDepth 8000 in
set_option maxHeartbeats 4000000 in
theorem decode_refused (v : Value) (l : List Int) (a1 a2 a3 a4 a5 a6 : Nat) (Y1 y2 y3 y4 y5 y6 why at_ : Int) (nm sup : ByteArray) (w : World) (hv : View w v l) (hlen : l.length ≤ 32768)
    (e1 : (tk l 0 0 6).2.1 = a1) (e1' : hdY l 0 0 = Y1) (e2 : (rdP l a1 Y1).2 = (a2, y2)) (e3 : rtext l a2 y2 = (nm, a3, y3)) (e4 : rtext l a3 y3 = (sup, a4, y4)) (e5 : tk l a4 y4 1 = ([], a5, y5) ∨ tk l a4 y4 1 = ([0], a5, y5)) (e6 : tk l a5 y5 1 = ([], a6, y6) ∨ tk l a5 y5 1 = ([0], a6, y6))
    (e7 : endZ l a6 y6 = (why, at_)) (hy : why ≠ 0) :
    Calls Tryz.prog 10 #[v] w fun e w' => e = .returned (.tuple #[zeroK, .int .i64 why, .int .i64 at_]) ∧ Below w.heap.size w w' := by
  obtain ⟨ao, cap, rfl, -⟩ := id hv
  have B0 := balloc w (.cells #[.string ⟨#[]⟩, .string ⟨#[]⟩, .slice none 0 0, .slice none 0 0, .slice none 0 0] 33)
  have gN := D.hidIt (newR_any _ l _ (hv.below B0) (by omega))
  have gC := fun pr u W (h : IsR pr W u l 0 0) => D.hidIt (class0_any pr u l 0 a1 a2 a3 a4 a5 a6 0 Y1 y2 y3 y4 y5 y6 nm sup W h (by omega) e1 e1' e2 e3 e4 e5 e6)
  have gE := fun pr u W (h : IsR pr W u l a6 y6) => D.hidIt (end_any pr u l a6 y6 W h)
  rw [e7] at gE
  simp only at gE
  have hn' : ¬ (32768 : Int) < (l.length : Int) := by omega
  have C0 := D.hidIt (heap_alloc_new w (.cells #[.string ⟨#[]⟩, .string ⟨#[]⟩, .slice none 0 0, .slice none 0 0, .slice none 0 0] 33))
  clear e1 e1' e2 e3 e4 e5 e6 e7 hv hlen
  generalize l.length = n at *
  have hb : (why != 0) = true := by simpa using hy
  unfold zeroK rv at *
  go_enter Tryz.func10, Tryz.ntmps10
  go_wp2_with fail
  refine gN.out.mono ?_
  rintro e w1 ⟨b1, pr, u, rfl, hpr, h1, _⟩
  have B1 := D.hidIt (next B0 b1)
  have hpr' : w.heap.size < pr := by simp at hpr; omega
  have X1 : Hid (w1.heap[w.heap.size]? = some (.cells #[.string ⟨#[]⟩, .string ⟨#[]⟩, .slice none 0 0, .slice none 0 0, .slice none 0 0] 33)) := (b1.block _ (by simp)).trans C0.out
  have hs1 : w.heap.size < w1.heap.size := by have := b1.size; simp at this; omega
  have H2 := D.hidIt (h1.below (balloc w1 (.cells #[.pointer (some ⟨pr, 0, none⟩)] 79)))
  have hp1 := h1.lt
  have B2 := D.hidIt (balloc w1 (.cells #[.pointer (some ⟨pr, 0, none⟩)] 79))
  have Y2 := D.hidIt (heap_alloc_new w1 (.cells #[.pointer (some ⟨pr, 0, none⟩)] 79))
  clear b1 h1 gN C0
  go_wp2_with fail
  refine (gC _ _ _ H2.out).out.mono ?_
  rintro e w3 ⟨⟨ao3, n3, c3, rfl⟩, h3, o3⟩
  have X3 : Hid (w3.heap[w.heap.size]? = some (.cells #[.string ⟨#[]⟩, .string ⟨#[]⟩, .slice none 0 0, .slice none 0 0, .slice none 0 0] 33)) := ((o3.block _ (by simp; omega) (by omega)).trans (B2.out.block _ hs1)).trans X1.out
  have Y3 : Hid (w3.heap[w1.heap.size]? = some (.cells #[.pointer (some ⟨pr, 0, none⟩)] 79)) := (o3.block _ (by simp) (by omega)).trans Y2.out
  have hs3 : w1.heap.size < w3.heap.size := by have := o3.size; simp at this; omega
  have B3 : Hid (Below w.heap.size w w3) := (B1.out.trans (B2.out.mono (by omega))).trans (o3.below (by simp; omega) (by omega))
  clear gC H2 o3
  have b4 := balloc w3 (.cells #[.string nm, .string sup, .slice ao3 n3 c3, .slice none 0 0, .slice none 0 0] 33)
  have H4 := D.hidIt (h3.below b4)
  have X4 : Hid ((w3.alloc (.cells #[.string nm, .string sup, .slice ao3 n3 c3, .slice none 0 0, .slice none 0 0] 33)).heap[w.heap.size]? = some (.cells #[.string ⟨#[]⟩, .string ⟨#[]⟩, .slice none 0 0, .slice none 0 0, .slice none 0 0] 33)) := (b4.block _ (by omega)).trans X3.out
  have y4c := cell_row ((b4.block _ hs3).trans Y3.out) 0 rfl
  have B4 := D.hidIt (B3.out.trans (b4.mono (by omega)))
  clear h3 b4
  go_wp2_with fail
  refine (gE _ _ _ H4.out).out.mono ?_
  rintro e w5 ⟨rfl, q5, rfl⟩
  clear gE H4 y4c
  obtain ⟨f0, f1, f2, f3, f4, ff⟩ := row5 X4.out
  have B5 := D.hidIt ((((((below_drewN B4.out q5).setCell (p := ⟨w.heap.size, 0, none⟩) (Nat.le_refl _) (.string ⟨#[]⟩)).setCell (p := ⟨w.heap.size, 1, none⟩) (Nat.le_refl _) (.string ⟨#[]⟩)).setCell (p := ⟨w.heap.size, 2, none⟩) (Nat.le_refl _) (.slice none 0 0)).setCell (p := ⟨w.heap.size, 3, none⟩) (Nat.le_refl _) (.slice none 0 0)).setCell (p := ⟨w.heap.size, 4, none⟩) (Nat.le_refl _) (.slice none 0 0))
  have H5 := D.hidIt (set5T (.string ⟨#[]⟩) (.string ⟨#[]⟩) (.slice none 0 0) (.slice none 0 0) (.slice none 0 0) (show ((w3.alloc (.cells #[.string nm, .string sup, .slice ao3 n3 c3, .slice none 0 0, .slice none 0 0] 33)).drewN q5).heap[w.heap.size]? = _ from X4.out))
  go_wp2
  refine bodyPost_ret (results_row2 rfl _ _ w.heap.size 33 _ (0, 0) _ rfl H5.out Tryz.underlying33 rfl (by kernel_rfl)) rfl ?_
  exact ⟨rfl, B5.out⟩
end Go.Proofs.YthagaldpopnoeaaGreatDoor
