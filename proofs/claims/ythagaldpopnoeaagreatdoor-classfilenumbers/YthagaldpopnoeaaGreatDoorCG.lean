/- Encode: walked. -/
import Derived.Test.YthagaldpopnoeaaGreatDoorCF
namespace Go.Proofs.YthagaldpopnoeaaGreatDoor
open Go.RowKit D

theorem own_mono {w : World} {B B' : Nat} {v : Value} {n : Nat} {xs : List Value} (h : w.ownsRow B' 5 1 v n xs) (hB : B ≤ B') : w.ownsRow B 5 1 v n xs := by
  rcases h with ⟨h1, h2⟩
  exact ⟨h1, by
    rcases h2 with h2 | ⟨g, cap, cur, e, hg, r⟩
    · exact .inl h2
    · exact .inr ⟨g, cap, cur, e, Nat.le_trans hB hg, r⟩⟩
set_option maxRecDepth 8000 in
set_option maxHeartbeats 4000000 in
theorem encode_class (k : KD) (v : Value) (w : World) (hv : ClassV w v k) (hT : Tabs w) (h2 : 2 ≤ w.heap.size) : Calls Tryz.prog 14 #[v] w fun e w' => Below w.heap.size w w' ∧ EncA (rightZ k) (classO k) w.heap.size e w' := by
  obtain ⟨vo1, vc1, vo2, vc2, vo3, vc3, hve, _⟩ := id hv
  have hR := fun o => D.hidIt (right_class k v (w.alloc o) (hv.below (balloc _ _)))
  have hNW := fun W => D.hidIt (newW_any W)
  have hCL : rightZ k = 0 → ∀ (W : World) (pw : Nat), WR w pw W [] → Hid (Calls Tryz.prog 42 #[wv pw, v] W fun e w' => e = .returned (.tuple #[]) ∧ WR w pw w' (classO k) ∧ WS pw W w') := fun h0 W pw hW =>
    wr_class w pw k v hv (class_ok h0).small (class_ok h0).pool0 W hW (by have := class_len (class_ok h0); omega)
  have hDN : rightZ k = 0 → ∀ (W : World) (pw : Nat), WR w pw W (classO k) → Hid (Calls Tryz.prog 43 #[ptr pw] W fun e w' => Below W.heap.size W w' ∧ ∃ v', e = .returned v' ∧ w'.ownsRow W.heap.size 5 1 v' (classO k).length (bcells (classO k))) := fun h0 W pw hW => by
    obtain ⟨u, hI⟩ := hW.1
    exact done_any _ pw u _ W hI (class_bytes k hv.bytes) (by have := class_len (class_ok h0); omega)
  have HCL := D.hidIt hCL
  have HDN := D.hidIt hDN
  clear hCL hDN hv
  have HT := D.hidIt hT
  clear hT
  generalize rightZ k = Z at *
  generalize classO k = O at *
  subst hve
  generalize k.pool.length = n1 at *
  generalize k.fs.length = n2 at *
  generalize k.ms.length = n3 at *
  generalize k.nm = nm at *
  generalize k.sup = sup at *
  have B0 := balloc w (.cells #[.string nm, .string sup, .slice vo1 n1 vc1, .slice vo2 n2 vc2, .slice vo3 n3 vc3] 33)
  have C0 := heap_alloc_new w (.cells #[.string nm, .string sup, .slice vo1 n1 vc1, .slice vo2 n2 vc2, .slice vo3 n3 vc3] 33)
  have cells : ∀ W : World, W.heap[w.heap.size]? = some (.cells #[.string nm, .string sup, .slice vo1 n1 vc1, .slice vo2 n2 vc2, .slice vo3 n3 vc3] 33 (0, 0)) → (W.cell? ⟨w.heap.size, 0, none⟩ = some (.string nm) ∧ W.cell? ⟨w.heap.size, 1, none⟩ = some (.string sup) ∧ W.cell? ⟨w.heap.size, 2, none⟩ = some (.slice vo1 n1 vc1) ∧ W.cell? ⟨w.heap.size, 3, none⟩ = some (.slice vo2 n2 vc2) ∧ W.cell? ⟨w.heap.size, 4, none⟩ = some (.slice vo3 n3 vc3)) := fun W h => ⟨cell_row h 0 rfl, cell_row h 1 rfl, cell_row h 2 rfl, cell_row h 3 rfl, cell_row h 4 rfl⟩
  have KELLS := D.hidIt cells
  have HC0 := D.hidIt C0
  clear cells C0
  go_enter Tryz.func14, Tryz.ntmps14
  go_wp2_with fail
  refine (hR _).out.mono ?_
  rintro e w1 ⟨rfl, b1⟩
  cases hz : Z != 0
  rotate_left
  · have hz' : Z ≠ 0 := by simpa using hz
    have HZ := D.hidIt hz'
    clear hz'
    go_wp2
    go_ret2
    exact ⟨next B0 b1, .inl ⟨HZ.out, rfl⟩⟩
  have hz' : Z = 0 := by simpa using hz
  have HZ := D.hidIt hz'
  subst hz'
  have gCL := HCL.out rfl
  have gDN := HDN.out rfl
  clear HCL HDN hR
  go_wp2_with fail
  refine (hNW _).out.mono ?_
  rintro e w2 ⟨rfl, hw2⟩
  subst hw2
  have b2 := next b1 (balloc w1 (.cells #[.slice none 0 0] 137))
  have HW2 := D.hidIt (wr_new w w1 (next B0 b1) HT.out h2)
  have hlt2 := HW2.out.lt
  have b3 := next b2 (balloc _ (.cells #[.pointer (some ⟨w1.heap.size, 0, none⟩)] 92))
  have HW3 := D.hidIt (HW2.out.below (balloc _ (.cells #[.pointer (some ⟨w1.heap.size, 0, none⟩)] 92)))
  have bx := Keeps.new HW2.out (.cells #[.pointer (some ⟨w1.heap.size, 0, none⟩)] 92)
  rw [show (w1.alloc (.cells #[.slice none 0 0] 137)).heap.size = w1.heap.size + 1 by simp] at bx
  have K1 := D.hidIt bx
  obtain ⟨j0, j1, j2, j3, j4⟩ := KELLS.out _ ((b1.block _ (by simp)).trans HC0.out)
  have i0 := cell_later (balloc w1 (.cells #[.slice none 0 0] 137)) j0
  have i1 := cell_later (balloc w1 (.cells #[.slice none 0 0] 137)) j1
  have i2 := cell_later (balloc w1 (.cells #[.slice none 0 0] 137)) j2
  have i3 := cell_later (balloc w1 (.cells #[.slice none 0 0] 137)) j3
  have i4 := cell_later (balloc w1 (.cells #[.slice none 0 0] 137)) j4
  replace i0 := cell_later (balloc _ (.cells #[.pointer (some ⟨w1.heap.size, 0, none⟩)] 92)) i0
  replace i1 := cell_later (balloc _ (.cells #[.pointer (some ⟨w1.heap.size, 0, none⟩)] 92)) i1
  replace i2 := cell_later (balloc _ (.cells #[.pointer (some ⟨w1.heap.size, 0, none⟩)] 92)) i2
  replace i3 := cell_later (balloc _ (.cells #[.pointer (some ⟨w1.heap.size, 0, none⟩)] 92)) i3
  replace i4 := cell_later (balloc _ (.cells #[.pointer (some ⟨w1.heap.size, 0, none⟩)] 92)) i4
  have HB3 := D.hidIt (next B0 b3)
  clear bx j0 j1 j2 j3 j4 b1 b2 b3 hlt2 hNW
  have gC := gCL _ _ HW3.out
  unfold wv at gC
  clear gCL
  go_wp2_with fail
  refine gC.out.mono ?_
  rintro e w4 ⟨rfl, h4, s4⟩
  have H4 := D.hidIt h4
  have S4 := D.hidIt s4
  clear h4 s4 gC i0 i1 i2 i3 i4
  have k1 := K1.out.step S4.out
  have a1 := cell_row k1.1 0 rfl
  clear k1
  have gD := gDN _ _ H4.out
  unfold ptr at gD
  clear gDN
  go_wp2_with fail
  refine gD.out.mono ?_
  rintro e w5 ⟨b5, v5, rfl, o5⟩
  obtain ⟨ao5, cp5, rfl⟩ := own_slice o5
  have hle := H4.out.bel.size
  have O5 : Hid (w5.ownsRow w.heap.size 5 1 (.slice ao5 O.length cp5) O.length (bcells O)) := own_mono o5 hle
  have HB5 := D.hidIt (H4.out.bel.trans (b5.mono hle))
  clear o5 b5 a1 gD
  by_cases hq : 32768 < O.length
  · have hq' : (32768 : Int) < (O.length : Int) := by omega
    have HQ := D.hidIt hq
    clear hq
    generalize hnO : O.length = nO at *
    have HN := D.hidIt hnO
    clear hnO
    go_wp2
    go_ret2
    exact ⟨HB5.out, .inr (.inl ⟨rfl, by rw [HN.out]; exact HQ.out, rfl⟩)⟩
  · have hq' : ¬ (32768 : Int) < (O.length : Int) := by omega
    have HQ := D.hidIt (Nat.le_of_not_lt hq)
    clear hq
    generalize hnO : O.length = nO at *
    have HN := D.hidIt hnO
    clear hnO
    go_wp2
    go_ret2
    exact ⟨HB5.out, .inr (.inr ⟨rfl, by rw [HN.out]; exact HQ.out, _, rfl, by rw [HN.out]; exact O5.out⟩)⟩
end Go.Proofs.YthagaldpopnoeaaGreatDoor
