/- Parts of a class, read: bytes, pairs, flags; lists of nothing. -/
import Derived.Test.YthagaldpopnoeaaGreatDoorYH
import Derived.Test.YthagaldpopnoeaaGreatDoorPQ
namespace Go.Proofs.YthagaldpopnoeaaGreatDoor
open Go.RowKit D

def rv (pr : Nat) : Value := .agg #[.pointer (some ⟨pr, 0, none⟩)]
theorem only_alloc (pr : Nat) (w : World) (o : Obj) : Only pr w (w.alloc o) := Only.of_below (balloc w o)
set_option maxRecDepth 8000 in
set_option maxHeartbeats 1000000 in
theorem rd_byte (pr : Nat) (v : Value) (l : List Int) (a : Nat) (y : Int) (w : World) (h : IsR pr w v l a y) :
    Calls Tryz.prog 112 #[rv pr] w fun e w' => e = .returned (.int .i64 (beVal (tk l a y 1).1)) ∧ IsR pr w' v l (tk l a y 1).2.1 (tk l a y 1).2.2 ∧ Only pr w w' := by
  have hN := fun o => D.hidIt (rnum1 pr v l a y (w.alloc o) (h.below (balloc w o)))
  unfold rv
  generalize beVal (tk l a y 1).1 = n at *
  generalize (tk l a y 1).2.1 = a1 at *
  generalize (tk l a y 1).2.2 = y1 at *
  go_enter Tryz.func112, Tryz.ntmps112
  go_wp2_with fail
  refine (hN _).out.mono ?_
  rintro e w' ⟨rfl, h1, o1⟩
  have H1 := D.hidIt h1
  have O1 := D.hidIt o1
  clear h1 o1 h
  go_wp2
  go_ret
  exact ⟨rfl, H1.out, (only_alloc _ _ _).trans O1.out⟩
set_option maxRecDepth 8000 in
set_option maxHeartbeats 1000000 in
theorem rd_pair (pr : Nat) (v : Value) (l : List Int) (a : Nat) (y : Int) (w : World) (h : IsR pr w v l a y) :
    Calls Tryz.prog 114 #[rv pr] w fun e w' => e = .returned (.int .i64 (beVal (tk l a y 2).1)) ∧ IsR pr w' v l (tk l a y 2).2.1 (tk l a y 2).2.2 ∧ Only pr w w' := by
  have hN := fun o => D.hidIt (rnum2 pr v l a y (w.alloc o) (h.below (balloc w o)))
  unfold rv
  generalize beVal (tk l a y 2).1 = n at *
  generalize (tk l a y 2).2.1 = a1 at *
  generalize (tk l a y 2).2.2 = y1 at *
  go_enter Tryz.func114, Tryz.ntmps114
  go_wp2_with fail
  refine (hN _).out.mono ?_
  rintro e w' ⟨rfl, h1, o1⟩
  have H1 := D.hidIt h1
  have O1 := D.hidIt o1
  clear h1 o1 h
  go_wp2
  go_ret
  exact ⟨rfl, H1.out, (only_alloc _ _ _).trans O1.out⟩
set_option maxRecDepth 8000 in
set_option maxHeartbeats 1000000 in
theorem rd_flags (pr : Nat) (v : Value) (l : List Int) (a : Nat) (y : Int) (k : Int) (w : World) (h : IsR pr w v l a y) :
    Calls Tryz.prog 113 #[rv pr, .int .i64 k] w fun e w' => e = .returned (.int .i64 (beVal (tk l a y 1).1)) ∧ IsR pr w' v l (tk l a y 1).2.1 (if k < beVal (tk l a y 1).1 then fl (tk l a y 1).2.2 12 else (tk l a y 1).2.2) ∧ Only pr w w' := by
  have hN := fun o => D.hidIt (rd_byte pr v l a y (w.alloc o) (h.below (balloc w o)))
  have hF := fun W a y h => D.hidIt (fail_any pr v l a y 12 W h)
  have hlt := h.lt
  have hbx := heap_alloc_new w (.cells #[.pointer (some ⟨pr, 0, none⟩)] 79)
  unfold rv at *
  generalize beVal (tk l a y 1).1 = n at *
  generalize (tk l a y 1).2.1 = a1 at *
  generalize (tk l a y 1).2.2 = y1 at *
  have HBX := D.hidIt hbx
  clear hbx
  generalize hY : (if k < n then fl y1 12 else y1) = Y
  have HY := D.hidIt hY
  clear hY
  go_enter Tryz.func113, Tryz.ntmps113
  go_wp2_with fail
  refine (hN _).out.mono ?_
  rintro e w1 ⟨rfl, h1, o1⟩
  have c1 := cell_row ((o1.block w.heap.size (by simp) (by omega)).trans HBX.out) 0 rfl
  have H1 := D.hidIt h1
  have O1 := D.hidIt ((only_alloc _ _ _).trans o1)
  clear h1 o1 h hN
  by_cases hk : k < n
  · go_wp2_with fail
    refine (hF _ _ _ H1.out).out.mono ?_
    rintro e w2 ⟨rfl, h2, o2⟩
    have H2 := D.hidIt h2
    have O2 := D.hidIt (O1.out.trans o2)
    clear h2 o2 c1 hF
    go_wp2
    go_ret
    exact ⟨rfl, by rw [← HY.out, if_pos (by omega)]; exact H2.out, O2.out⟩
  · go_wp2
    go_ret
    exact ⟨rfl, by rw [← HY.out, if_neg (by omega)]; exact H1.out, O1.out⟩

set_option maxRecDepth 8000 in
set_option maxHeartbeats 1000000 in
theorem list0F (pr : Nat) (v : Value) (l : List Int) (a : Nat) (y : Int) (w : World) (h : IsR pr w v l a y) (h0 : beVal (tk l a y 1).1 = 0) :
    Calls Tryz.prog 69 #[rv pr, .func (.func 70) #[rv pr] #[]] w fun e w' => e = .returned (.slice none 0 0) ∧ IsR pr w' v l (tk l a y 1).2.1 (tk l a y 1).2.2 ∧ Only pr w w' := by
  have hN := fun o => D.hidIt (rd_byte pr v l a y (w.alloc o) (h.below (balloc w o)))
  rw [h0] at hN
  unfold rv at *
  generalize (tk l a y 1).2.1 = a1 at *
  generalize (tk l a y 1).2.2 = y1 at *
  go_enter Tryz.func69, Tryz.ntmps69
  go_wp2_with fail
  refine (hN _).out.mono ?_
  rintro e w1 ⟨rfl, h1, o1⟩
  have H1 := D.hidIt h1
  have O1 := D.hidIt ((only_alloc _ _ _).trans o1)
  clear h1 o1 h hN
  go_wp2
  go_loopw [5, 8] (fun s i wr => s = .slice none 0 0 ∧ i = .int .i64 0 ∧ wr = w1) (fun _ _ _ => 0)
  case atStart => exact ⟨rfl, rfl, rfl⟩
  case round =>
    obtain ⟨rfl, rfl, rfl⟩ := hrel
    go_wp2
    go_ret
    exact ⟨rfl, H1.out, O1.out⟩
set_option maxRecDepth 8000 in
set_option maxHeartbeats 1000000 in
theorem list0M (pr : Nat) (v : Value) (l : List Int) (a : Nat) (y : Int) (w : World) (h : IsR pr w v l a y) (h0 : beVal (tk l a y 1).1 = 0) :
    Calls Tryz.prog 71 #[rv pr, .func (.func 72) #[rv pr] #[]] w fun e w' => e = .returned (.slice none 0 0) ∧ IsR pr w' v l (tk l a y 1).2.1 (tk l a y 1).2.2 ∧ Only pr w w' := by
  have hN := fun o => D.hidIt (rd_byte pr v l a y (w.alloc o) (h.below (balloc w o)))
  rw [h0] at hN
  unfold rv at *
  generalize (tk l a y 1).2.1 = a1 at *
  generalize (tk l a y 1).2.2 = y1 at *
  go_enter Tryz.func71, Tryz.ntmps71
  go_wp2_with fail
  refine (hN _).out.mono ?_
  rintro e w1 ⟨rfl, h1, o1⟩
  have H1 := D.hidIt h1
  have O1 := D.hidIt ((only_alloc _ _ _).trans o1)
  clear h1 o1 h hN
  go_wp2
  go_loopw [5, 8] (fun s i wr => s = .slice none 0 0 ∧ i = .int .i64 0 ∧ wr = w1) (fun _ _ _ => 0)
  case atStart => exact ⟨rfl, rfl, rfl⟩
  case round =>
    obtain ⟨rfl, rfl, rfl⟩ := hrel
    go_wp2
    go_ret
    exact ⟨rfl, H1.out, O1.out⟩
end Go.Proofs.YthagaldpopnoeaaGreatDoor
