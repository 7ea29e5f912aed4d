import Derived.Test.YtpehimfnkmepnaaGreatBz29
import Derived.Maps.OwnIn
import Derived.Maps.Keyed
set_option maxRecDepth 8000
set_option maxHeartbeats 40000000
namespace Go.Proofs.YtpehimfnkmepnaaGreat.Q
open Go.RowKit D
theorem zMk {l : List FD} {j : Nat} {x : FD} (h : l[j]? = some x) : zDk (l.take j) (l.drop j) = if zGa x (l.take j) = 0 then zDk (l.take (j + 1)) (l.drop (j + 1)) else zGa x (l.take j) := by
 obtain ⟨hj, e⟩ := List.getElem?_eq_some_iff.1 h
 rw [List.drop_eq_getElem_cons hj, e, List.take_add_one, h]
 rfl
theorem zOl {l : List MD} {j : Nat} {x : MD} (h : l[j]? = some x) : zE6 (l.take j) (l.drop j) = if zFr x (l.take j) = 0 then zE6 (l.take (j + 1)) (l.drop (j + 1)) else zFr x (l.take j) := by
 obtain ⟨hj, e⟩ := List.getElem?_eq_some_iff.1 h
 rw [List.drop_eq_getElem_cons hj, e, List.take_add_one, h]
 rfl
theorem LAt.row {α : Type} {k : Nat} {R : World → List Value → α → Prop} {w : World} {ao : Option Addr} {c : Nat} {l : List α} (h : LAt k R w ao c l) {j : Nat} {x : α} (hx : l[j]? = some x) :
 ∃ b off r, ao = some ⟨b, off, none⟩ ∧ R w r x ∧ ∀ i v, r[i]? = some v → w.cell? ⟨b, off + j * k + i, none⟩ = some v := by
 obtain ⟨_, _, rows, h3, h4⟩ := h
 have hj : j < l.length := (List.getElem?_eq_some_iff.1 hx).1
 obtain ⟨b, off, e, _, hc⟩ := h3 (by omega)
 exact ⟨b, off, rows j, e, h4 j x hx, hc j hj⟩
theorem LAt.lens {α : Type} {k : Nat} {R : World → List Value → α → Prop} {w : World} {ao : Option Addr} {c : Nat} {l : List α} (h : LAt k R w ao c l) : l.length ≤ c ∧ c ≤ 9223372036854775807 := by
 have h1 := h.1; have h2 := h.2.1; unfold maxLen at h2; omega
theorem zKx (k : KD) (v : Value) (w : World) (h : zAp w v k) : Calls Tryz.prog 103 #[v] w fun e w' => e = .returned (.int .i64 (zD8 k)) ∧ Below w.heap.size w w' := by
 obtain ⟨o1, c1, o2, c2, o3, c3, rfl, s1, s2, k1, k2, k3⟩ := h
 obtain ⟨nm, sup, pool, fs, ms⟩ := k
 simp only at *
 have B0 := zA9 w (.cells #[.string nm, .string sup, .slice o1 pool.length c1, .slice o2 fs.length c2, .slice o3 ms.length c3] 31)
 have hN1 := fun W => D.zA0 (zDc nm W)
 have hN2 := fun W => D.zA0 (zDc sup W)
 have hC := D.zA0 (zNt o1 c1 pool _ (k1.below B0 (fun _ _ h => h)))
 have hF : ∀ (W : World) (hW : Below w.heap.size w W) (x : FD) (j : Nat), x.ds.size ≤ 9223372036854775807 → j ≤ fs.length → Hid (Calls Tryz.prog 150 #[.agg #[.string x.nm, .string x.ds, .bool x.st], .slice o2 j c2] W fun e w' => e = .returned (.int .i64 (zGa x (fs.take j))) ∧ Below W.heap.size W w') := by
  intro W hW x j hx hj
  have := zLc x o2 c2 (fs.take j) W hx ((k2.take j).below hW (fun _ _ h => h))
  rw [List.length_take, Nat.min_eq_left hj] at this
  exact this
 have hM : ∀ (W : World) (hW : Below w.heap.size w W) (x : MD) (p1 : Option Addr) (q1 : Nat) (p2 : Option Addr) (q2 : Nat) (p3 : Option Addr) (q3 : Nat) (j : Nat), x.ds.size ≤ 9223372036854775807 → LAt 4 zHl W p2 q2 x.hs → LAt 3 zAx W p3 q3 x.rs → j ≤ ms.length → Hid (Calls Tryz.prog 151 #[.agg #[.string x.nm, .string x.ds, .bool x.st, .bool x.nat, .int .i64 x.stk, .int .i64 x.loc, .slice p1 x.code.length q1, .slice p2 x.hs.length q2, .slice p3 x.rs.length q3], .slice o3 j c3] W fun e w' => e = .returned (.int .i64 (zFr x (ms.take j))) ∧ Below W.heap.size W w') := by
  intro W hW x p1 q1 p2 q2 p3 q3 j hx hh hr hj
  have := zMt x p1 q1 p2 q2 p3 q3 o3 c3 (ms.take j) W hx hh hr ((k3.take j).below hW (fun _ _ h => h.below hW))
  rw [List.length_take, Nat.min_eq_left hj] at this
  exact this
 have rowF : ∀ (W : World) (hW : Below w.heap.size w W) (j : Nat) (x : FD), fs[j]? = some x → ∃ b off, o2 = some ⟨b, off, none⟩ ∧ x.ds.size ≤ 9223372036854775807 ∧ W.cell? ⟨b, off + j * 3, none⟩ = some (.string x.nm) ∧ W.cell? ⟨b, off + j * 3 + 1, none⟩ = some (.string x.ds) ∧ W.cell? ⟨b, off + j * 3 + 2, none⟩ = some (.bool x.st) := by
  intro W hW j x hx
  obtain ⟨b, off, r, e, ⟨rfl, _, hd⟩, hc⟩ := (k2.below hW (fun _ _ h => h)).row hx
  exact ⟨b, off, e, hd, hc 0 _ rfl, hc 1 _ rfl, hc 2 _ rfl⟩
 have rowM : ∀ (W : World) (hW : Below w.heap.size w W) (j : Nat) (x : MD), ms[j]? = some x → ∃ b off p1 q1 p2 q2 p3 q3, o3 = some ⟨b, off, none⟩ ∧ x.ds.size ≤ 9223372036854775807 ∧ LAt 4 zHl W p2 q2 x.hs ∧ LAt 3 zAx W p3 q3 x.rs ∧
  (W.cell? ⟨b, off + j * 9, none⟩ = some (.string x.nm) ∧ W.cell? ⟨b, off + j * 9 + 1, none⟩ = some (.string x.ds) ∧ W.cell? ⟨b, off + j * 9 + 2, none⟩ = some (.bool x.st) ∧ W.cell? ⟨b, off + j * 9 + 3, none⟩ = some (.bool x.nat)) ∧
  (W.cell? ⟨b, off + j * 9 + 4, none⟩ = some (.int .i64 x.stk) ∧ W.cell? ⟨b, off + j * 9 + 5, none⟩ = some (.int .i64 x.loc) ∧ W.cell? ⟨b, off + j * 9 + 6, none⟩ = some (.slice p1 x.code.length q1) ∧ W.cell? ⟨b, off + j * 9 + 7, none⟩ = some (.slice p2 x.hs.length q2) ∧ W.cell? ⟨b, off + j * 9 + 8, none⟩ = some (.slice p3 x.rs.length q3)) := by
  intro W hW j x hx
  obtain ⟨b, off, r, e, ⟨p1, q1, p2, q2, p3, q3, rfl, _, hd, _, hh, hr⟩, hc⟩ := (k3.below hW (fun _ _ h => h.below hW)).row hx
  exact ⟨b, off, p1, q1, p2, q2, p3, q3, e, hd, hh, hr, ⟨hc 0 _ rfl, hc 1 _ rfl, hc 2 _ rfl, hc 3 _ rfl⟩, hc 4 _ rfl, hc 5 _ rfl, hc 6 _ rfl, hc 7 _ rfl, hc 8 _ rfl⟩
 have ln2 := k2.lens
 have ln3 := k3.lens
 have FE := D.zA0 (show zDk [] fs = zDk (fs.take 0) (fs.drop 0) by simp)
 have ME := D.zA0 (show zE6 [] ms = zE6 (ms.take 0) (ms.drop 0) by simp)
 unfold zD8 bsB
 simp only
 generalize zDk [] fs = ZF at *
 generalize zE6 [] ms = ZM at *
 generalize hR : (if ZF = 0 then ZM else ZF) = R at *
 have HR := D.zA0 hR
 clear hR
 generalize zB9 nm.data.toList = x1 at *
 generalize zB9 sup.data.toList = x2 at *
 generalize pool.all zBd = x3 at *
 clear k1 k2 k3
 generalize pool.length = n1 at *
 have GF := D.zA0 (Eq.refl fs.length)
 have GM := D.zA0 (Eq.refl ms.length)
 revert GF GM
 generalize hn2 : fs.length = n2 at *
 generalize hn3 : ms.length = n3 at *
 intro GM GF
 have N2 := D.zA0 hn2
 have N3 := D.zA0 hn3
 clear hn2 hn3 GM GF
 obtain ⟨lf1, lf2⟩ := ln2
 obtain ⟨lm1, lm2⟩ := ln3
 have hcell : ∀ W, Below (w.alloc (.cells #[.string nm, .string sup, .slice o1 n1 c1, .slice o2 n2 c2, .slice o3 n3 c3] 31)).heap.size (w.alloc (.cells #[.string nm, .string sup, .slice o1 n1 c1, .slice o2 n2 c2, .slice o3 n3 c3] 31)) W → W.heap[w.heap.size]? = some (.cells #[.string nm, .string sup, .slice o1 n1 c1, .slice o2 n2 c2, .slice o3 n3 c3] 31 (0, 0)) := fun W hW => (hW.block _ (by simp)).trans (heap_alloc_new _ _)
 have cells : ∀ W : World, W.heap[w.heap.size]? = some (.cells #[.string nm, .string sup, .slice o1 n1 c1, .slice o2 n2 c2, .slice o3 n3 c3] 31 (0, 0)) → (W.cell? ⟨w.heap.size, 3, none⟩ = some (.slice o2 n2 c2) ∧ W.cell? ⟨w.heap.size, 4, none⟩ = some (.slice o3 n3 c3)) := by
  intro W hW
  refine ⟨?_, ?_⟩ <;> (rw [cell_of_row _ _ _ _ 31 (0, 0) hW]; rfl)
 generalize e1 : decide (n1 ≤ 256) = y1
 generalize e2 : decide (n2 ≤ 16) = y2
 generalize e3 : decide (n3 ≤ 16) = y3
 generalize e0 : zCn sup = y0
 have E0 := D.zA0 e0
 have E1 := D.zA0 e1
 have E2 := D.zA0 e2
 have E3 := D.zA0 e3
 clear e0 e1 e2 e3
 unfold fnv at hC
 have HCELL := D.zA0 hcell
 have CELLS := D.zA0 cells
 have HF := D.zA0 hF
 have HM := D.zA0 hM
 have ROWF := D.zA0 rowF
 have ROWM := D.zA0 rowM
 clear hcell cells hF hM rowF rowM
 unfold zCn at E0
 go_enter Tryz.func103, Tryz.ntmps103
 go_wp2_with fail
 refine (hN1 _).out.mono ?_
 rintro e w' ⟨rfl, hww⟩; cases hww
 cases x1
 · go_wp2
   go_ret
   exact ⟨rfl, B0⟩
 cases y0
 case' false =>
  have q0 := E0.out
  go_wp2_with fail
  refine (hN2 _).out.mono ?_
  rintro e w' ⟨rfl, hww⟩; cases hww
  cases x2
  case false =>
   go_wp2
   go_ret
   exact ⟨rfl, B0⟩
 case' true =>
  have q0 := E0.out
 all_goals
  clear hN1 hN2
  cases y1
  · have q1' : (256 : Int) < n1 := by have := of_decide_eq_false E1.out; omega
    go_wp2
    go_ret
    exact ⟨rfl, B0⟩
  have q1' : ¬ (256 : Int) < n1 := by have := of_decide_eq_true E1.out; omega
  cases y2
  · have q2' : (16 : Int) < n2 := by have := of_decide_eq_false E2.out; omega
    go_wp2
    go_ret
    exact ⟨rfl, B0⟩
  have q2' : ¬ (16 : Int) < n2 := by have := of_decide_eq_true E2.out; omega
  cases y3
  · have q3' : (16 : Int) < n3 := by have := of_decide_eq_false E3.out; omega
    go_wp2
    go_ret
    exact ⟨rfl, B0⟩
  have q3' : ¬ (16 : Int) < n3 := by have := of_decide_eq_true E3.out; omega
  go_wp2_with fail
  refine hC.out.mono ?_
  rintro e w1 ⟨rfl, b1⟩
  clear hC
  cases x3
  · go_wp2
    go_ret
    exact ⟨rfl, next B0 b1⟩
  obtain ⟨d3, d4⟩ := CELLS.out _ (HCELL.out _ b1)
  go_wp2
  go_loopw [50] (fun i wr => ∃ kk : Nat, i = .int .i64 (kk : Int) ∧ kk ≤ n2 ∧ Hid (ZF = zDk (fs.take kk) (fs.drop kk)) ∧ Hid (Below w1.heap.size w1 wr)) (fun i _ => n2 - (intOf i).toNat)
  case atStart => exact ⟨0, rfl, Nat.zero_le _, FE, Below.refl _ _⟩
  case round =>
   obtain ⟨kk, rfl, hk, HZ, hb⟩ := hrel
   by_cases hlt : kk < n2
   · have hlt' : (kk : Int) < (n2 : Int) := by omega
     have hbw := next b1 hb.out
     obtain ⟨g3, g4⟩ := CELLS.out _ (HCELL.out _ hbw)
     obtain ⟨x, hx⟩ : ∃ x, fs[kk]? = some x := ⟨_, List.getElem?_eq_getElem (by rw [N2.out]; exact hlt)⟩
     have HX := D.zA0 hx
     clear hx
     obtain ⟨b, off, rfl, hds, r0, r1, r2⟩ := ROWF.out wr (next B0 hbw) kk _ HX.out
     have HFx := fun W hW => HF.out W hW x kk hds hk
     have HZ' := D.zA0 (HZ.out.trans (zMk HX.out))
     clear HZ
     obtain ⟨xn, xd, xs⟩ := x
     simp only at *
     go_wp2_with fail
     have hW0 : Below wr.heap.size wr (wr.alloc (.cells #[.string xn, .string xd, .bool xs] 44)) := zA9 _ _
     have m0 : (wr.alloc (.cells #[.string xn, .string xd, .bool xs] 44)).cell? ⟨wr.heap.size, 0, none⟩ = some (.string xn) := by simp
     have m1 : (wr.alloc (.cells #[.string xn, .string xd, .bool xs] 44)).cell? ⟨wr.heap.size, 1, none⟩ = some (.string xd) := by simp
     have m2 : (wr.alloc (.cells #[.string xn, .string xd, .bool xs] 44)).cell? ⟨wr.heap.size, 2, none⟩ = some (.bool xs) := by simp
     have m3 := cell_later hW0 g3
     have HW0 := D.zA0 (next hb.out hW0)
     clear g3 g4 r0 r1 r2 hW0
     generalize wr.alloc (.cells #[.string xn, .string xd, .bool xs] 44) = W0 at *
     have hkc : (kk : Int) ≤ (c2 : Int) := by omega
     have HFd := fun q => HFx (W0.drewN q) (zA5 (next B0 (next b1 HW0.out)) q)
     clear HFx
     generalize zGa ⟨xn, xd, xs⟩ (fs.take kk) = Z at *
     go_region_with (go_at_call 150; refine (HFd _).out.mono ?_; rintro e w2 ⟨rfl, b2⟩)
     all_goals
      have HB2 := D.zA0 (next HW0.out (next (zA5 (Below.refl _ W0) _) b2))
      clear b2 HFd m0 m1 m2 m3
      cases hz : Z != 0
      · have hz' : Z = 0 := by simpa using hz
        go_wp2
        refine ⟨⟨kk + 1, by go_num, by omega, ?_, HB2.out⟩, by simp [intOf]; omega⟩
        have := HZ'.out
        rw [if_pos hz'] at this
        exact this
      · have hz' : ¬ Z = 0 := by simpa using hz
        go_wp2
        go_ret
        have := HZ'.out
        rw [if_neg hz'] at this
        exact ⟨by rw [← HR.out, this, if_neg hz']; rfl, next B0 (next b1 HB2.out)⟩
   · have hlt' : ¬ (kk : Int) < (n2 : Int) := by omega
     have hbw := next b1 hb.out
     obtain ⟨g3, g4⟩ := CELLS.out _ (HCELL.out _ hbw)
     have F0 : Hid (ZF = 0) := by
      show _ = _
      have := HZ.out
      rw [List.drop_eq_nil_of_le (by rw [N2.out]; omega)] at this
      exact this
     clear HZ
     have HB1 := D.zA0 hbw
     clear hb b1 d3 d4 hbw
     obtain ⟨wv, rfl⟩ : ∃ wv, wv = wr := ⟨_, rfl⟩
     clear HF ROWF
     go_wp2
     go_loopw [68] (fun i wr => ∃ kk : Nat, i = .int .i64 (kk : Int) ∧ kk ≤ n3 ∧ Hid (ZM = zE6 (ms.take kk) (ms.drop kk)) ∧ Hid (Below wv.heap.size wv wr)) (fun i _ => n3 - (intOf i).toNat)
     case atStart => exact ⟨0, rfl, Nat.zero_le _, ME, Below.refl _ _⟩
     case round =>
      obtain ⟨jj, rfl, hj, HZ, hb⟩ := hrel
      by_cases hjt : jj < n3
      · have hjt' : (jj : Int) < (n3 : Int) := by omega
        have hbw := next HB1.out hb.out
        obtain ⟨g3, g4⟩ := CELLS.out _ (HCELL.out _ hbw)
        obtain ⟨x, hx⟩ : ∃ x, ms[jj]? = some x := ⟨_, List.getElem?_eq_getElem (by rw [N3.out]; exact hjt)⟩
        have HX := D.zA0 hx
        clear hx
        obtain ⟨b, off, p1, q1, p2, q2, p3, q3, rfl, hds, hh, hr, ⟨r0, r1, r2, r3⟩, r4, r5, r6, r7, r8⟩ := ROWM.out wr (next B0 hbw) jj _ HX.out
        have HFx := fun W hW (hWx : Below wr.heap.size wr W) => HM.out W hW x p1 q1 p2 q2 p3 q3 jj hds (hh.below hWx (fun _ _ h => h)) (hr.below hWx (fun _ _ h => h.below hWx)) hj
        have HZ' := D.zA0 (HZ.out.trans (zOl HX.out))
        clear HZ hh hr
        generalize zFr x (ms.take jj) = Z at *
        generalize x.code.length = l1 at *
        generalize x.hs.length = l2 at *
        generalize x.rs.length = l3 at *
        obtain ⟨xn, xd, xs, xa, xk, xl, xc, xh, xr⟩ := x
        simp only at *
        clear g3
        go_wp2_with fail
        have hW0 : Below wr.heap.size wr (wr.alloc (.cells #[.string xn, .string xd, .bool xs, .bool xa, .int .i64 xk, .int .i64 xl, .slice p1 l1 q1, .slice p2 l2 q2, .slice p3 l3 q3] 39)) := zA9 _ _
        have m0 : (wr.alloc (.cells #[.string xn, .string xd, .bool xs, .bool xa, .int .i64 xk, .int .i64 xl, .slice p1 l1 q1, .slice p2 l2 q2, .slice p3 l3 q3] 39)).cell? ⟨wr.heap.size, 0, none⟩ = some (.string xn) := by simp
        have m1 : (wr.alloc (.cells #[.string xn, .string xd, .bool xs, .bool xa, .int .i64 xk, .int .i64 xl, .slice p1 l1 q1, .slice p2 l2 q2, .slice p3 l3 q3] 39)).cell? ⟨wr.heap.size, 1, none⟩ = some (.string xd) := by simp
        have m2 : (wr.alloc (.cells #[.string xn, .string xd, .bool xs, .bool xa, .int .i64 xk, .int .i64 xl, .slice p1 l1 q1, .slice p2 l2 q2, .slice p3 l3 q3] 39)).cell? ⟨wr.heap.size, 2, none⟩ = some (.bool xs) := by simp
        have m3 : (wr.alloc (.cells #[.string xn, .string xd, .bool xs, .bool xa, .int .i64 xk, .int .i64 xl, .slice p1 l1 q1, .slice p2 l2 q2, .slice p3 l3 q3] 39)).cell? ⟨wr.heap.size, 3, none⟩ = some (.bool xa) := by simp
        have m4 : (wr.alloc (.cells #[.string xn, .string xd, .bool xs, .bool xa, .int .i64 xk, .int .i64 xl, .slice p1 l1 q1, .slice p2 l2 q2, .slice p3 l3 q3] 39)).cell? ⟨wr.heap.size, 4, none⟩ = some (.int .i64 xk) := by simp
        have m5 : (wr.alloc (.cells #[.string xn, .string xd, .bool xs, .bool xa, .int .i64 xk, .int .i64 xl, .slice p1 l1 q1, .slice p2 l2 q2, .slice p3 l3 q3] 39)).cell? ⟨wr.heap.size, 5, none⟩ = some (.int .i64 xl) := by simp
        have m6 : (wr.alloc (.cells #[.string xn, .string xd, .bool xs, .bool xa, .int .i64 xk, .int .i64 xl, .slice p1 l1 q1, .slice p2 l2 q2, .slice p3 l3 q3] 39)).cell? ⟨wr.heap.size, 6, none⟩ = some (.slice p1 l1 q1) := by simp
        have m7 : (wr.alloc (.cells #[.string xn, .string xd, .bool xs, .bool xa, .int .i64 xk, .int .i64 xl, .slice p1 l1 q1, .slice p2 l2 q2, .slice p3 l3 q3] 39)).cell? ⟨wr.heap.size, 7, none⟩ = some (.slice p2 l2 q2) := by simp
        have m8 : (wr.alloc (.cells #[.string xn, .string xd, .bool xs, .bool xa, .int .i64 xk, .int .i64 xl, .slice p1 l1 q1, .slice p2 l2 q2, .slice p3 l3 q3] 39)).cell? ⟨wr.heap.size, 8, none⟩ = some (.slice p3 l3 q3) := by simp
        have mm := cell_later hW0 g4
        have HW0 := D.zA0 hW0
        clear g4 r0 r1 r2 r3 r4 r5 r6 r7 r8 hW0
        generalize wr.alloc (.cells #[.string xn, .string xd, .bool xs, .bool xa, .int .i64 xk, .int .i64 xl, .slice p1 l1 q1, .slice p2 l2 q2, .slice p3 l3 q3] 39) = W0 at *
        have hkc : (jj : Int) ≤ (c3 : Int) := by omega
        have HFd := fun q => HFx (W0.drewN q) (zA5 (next B0 (next hbw HW0.out)) q) (zA5 HW0.out q)
        clear HFx
        go_region_with (go_at_call 151; refine (HFd _).out.mono ?_; rintro e w2 ⟨rfl, b2⟩)
        all_goals
         have HB2 := D.zA0 (next hb.out (next HW0.out (next (zA5 (Below.refl _ W0) _) b2)))
         clear b2 HFd m0 m1 m2 m3 m4 m5 m6 m7 m8 mm
         cases hz : Z != 0
         · have hz' : Z = 0 := by simpa using hz
           go_wp2
           refine ⟨⟨jj + 1, by go_num, by omega, ?_, HB2.out⟩, by simp [intOf]; omega⟩
           have := HZ'.out
           rw [if_pos hz'] at this
           exact this
         · have hz' : ¬ Z = 0 := by simpa using hz
           go_wp2
           go_ret
           have := HZ'.out
           rw [if_neg hz'] at this
           exact ⟨by rw [← HR.out, F0.out, this]; rfl, next B0 (next HB1.out HB2.out)⟩
      · have hjt' : ¬ (jj : Int) < (n3 : Int) := by omega
        have M0 : ZM = 0 := by
         have := HZ.out
         rw [List.drop_eq_nil_of_le (by rw [N3.out]; omega)] at this
         exact this
        have HM0 := D.zA0 M0
        clear M0 HZ
        go_wp2
        go_ret
        exact ⟨by rw [← HR.out, F0.out, HM0.out]; rfl, next B0 (next HB1.out hb.out)⟩
end Go.Proofs.YtpehimfnkmepnaaGreat.Q
namespace Go.Proofs.YtpehimfnkmepnaaGreat.K
open Go.RowKit Go.MapKept Go.ChangeMaps Q Q.D
def SMap (w : World) (b : Nat) (l : List (ByteArray × Value)) : Prop :=
 ∃ es clock, w.heap[b]? = some (.map es clock) ∧ es.toList.map (fun e => (e.key, e.val)) = l.map (fun p => (Value.string p.1, p.2))
def zFl : List (ByteArray × Value) → ByteArray → Option Value
 | [], _ => none
 | p :: l, s => if s == p.1 then some p.2 else zFl l s
theorem zF9 (s : ByteArray) : ∀ (es : List MapEntry) (l : List (ByteArray × Value)) (i : Nat), es.map (fun e => (e.key, e.val)) = l.map (fun p => (Value.string p.1, p.2)) →
 (zFl l s = none → Instr.findNow .string (.string s) es i = some none) ∧ (∀ v, zFl l s = some v → ∃ j, Instr.findNow .string (.string s) es i = some (some (j, v)))
 | [], [], i, _ => ⟨fun _ => rfl, fun v h => by simp [zFl] at h⟩
 | [], p :: l, i, h => by simp at h
 | e :: es, [], i, h => by simp at h
 | e :: es, p :: l, i, h => by
   simp only [List.map_cons, List.cons.injEq, Prod.mk.injEq] at h
   obtain ⟨⟨h1, h2⟩, h3⟩ := h
   obtain ⟨a, b⟩ := zF9 s es l (i + 1) h3
   unfold zFl Instr.findNow
   rw [h1]
   cases hs : s == p.1
   · simp only [Instr.sameNow, hs]
     exact ⟨a, b⟩
   · simp only [Instr.sameNow, hs]
     exact ⟨fun h => by simp at h, fun v h => ⟨i, by rw [h2]; simpa using h⟩⟩
theorem zH9 {P : Program} {k : TypeId} (hk : P.underlying k = some .string) (e : Bool) (n : Nat) (s : ByteArray) (w : World) : (Instr.checkKey e (n + 1) k (.string s)).run P w = .ok () w := by
 simp [Instr.checkKey, run_underlying hk, Result.andThen]
theorem SMap.look {P : Program} {w : World} {b : Nat} {l : List (ByteArray × Value)} {t k e : TypeId} (h : SMap w b l) (ht : P.underlying t = some (.map k e)) (hk : P.underlying k = some .string)
 {z : Value} (hz : (zeroValue e).run P w = .ok z w) (s : ByteArray) : (Instr.lookup t (.map (some b)) (.string s) false).run P w = .ok ((zFl l s).getD z) w := by
 obtain ⟨es, clock, hb, he⟩ := h
 obtain ⟨f1, f2⟩ := zF9 s es.toList l 0 he
 cases hs : zFl l s with
 | none => simp [Instr.lookup, run_underlying ht, MapKept.run_getObj_map hb, zH9 hk _ 9999, run_underlying hk, Instr.findKey, f1 hs, hz, Result.andThen]
 | some v =>
   obtain ⟨j, f3⟩ := f2 v hs
   simp [Instr.lookup, run_underlying ht, MapKept.run_getObj_map hb, zH9 hk _ 9999, run_underlying hk, Instr.findKey, f3, Result.andThen]
theorem SMap.put {P : Program} {w : World} {b : Nat} {l : List (ByteArray × Value)} {t k e : TypeId} (h : SMap w b l) (ht : P.underlying t = some (.map k e)) (hk : P.underlying k = some .string)
 (s : ByteArray) (v : Value) (hs : zFl l s = none) : ∃ es clock, (Instr.mapUpdate t (.map (some b)) (.string s) v).run P w = .ok () (setBlock w b (.map es clock)) ∧ SMap (setBlock w b (.map es clock)) b (l ++ [(s, v)]) := by
 obtain ⟨es, clock, hb, he⟩ := h
 obtain ⟨f1, f2⟩ := zF9 s es.toList l 0 he
 refine ⟨es.push ⟨.string s, v, clock⟩, clock + 1, ?_, ?_⟩
 · simp [Instr.mapUpdate, run_underlying ht, MapKept.run_getObj_map hb, zH9 hk _ 9999, run_underlying hk, Instr.findKey, f1 hs, MapKept.run_setObj_map _ hb, Result.andThen, setBlock]
 · refine ⟨es.push ⟨.string s, v, clock⟩, clock + 1, ?_, ?_⟩
   · have := (Array.getElem?_eq_some_iff.1 hb).1
     simp [setBlock, this]
   · simp [he]
theorem SMap.kept {w w' : World} {b : Nat} {l : List (ByteArray × Value)} (h : SMap w b l) (hb : w'.heap[b]? = w.heap[b]?) : SMap w' b l := by
 obtain ⟨es, clock, h1, h2⟩ := h
 exact ⟨es, clock, hb.trans h1, h2⟩
theorem SMap.lt {w : World} {b : Nat} {l : List (ByteArray × Value)} (h : SMap w b l) : b < w.heap.size := by
 obtain ⟨es, clock, h1, _⟩ := h
 exact (Array.getElem?_eq_some_iff.1 h1).1
/-! What is read in one world is read in another. -/
structure Ext (w w' : World) : Prop where
 size : w.heap.size ≤ w'.heap.size
 cell : ∀ p v, w.cell? p = some v → w'.cell? p = some v
theorem Ext.trans {a b c : World} (h : Ext a b) (k : Ext b c) : Ext a c := ⟨Nat.le_trans h.size k.size, fun p v e => k.cell p v (h.cell p v e)⟩
theorem zAi {w w' : World} (h : Below w.heap.size w w') : Ext w w' := ⟨h.size, fun p v e => by rw [h.cell (World.block_lt_of_cell? _ _ e)]; exact e⟩
theorem zAk.ext {k n : Nat} {w w' : World} {ao : Option Addr} {rows : Nat → List Value} (h : zAk k w ao n rows) (he : Ext w w') : zAk k w' ao n rows := by
 intro hn
 obtain ⟨b, off, e, hlt, hc⟩ := h hn
 exact ⟨b, off, e, Nat.lt_of_lt_of_le hlt he.size, fun j hj i v hv => he.cell _ _ (hc j hj i v hv)⟩
theorem LAt.ext {α : Type} {k : Nat} {R : World → List Value → α → Prop} {w w' : World} {ao : Option Addr} {c : Nat} {l : List α} (h : LAt k R w ao c l) (he : Ext w w') (hR : ∀ r x, R w r x → R w' r x) : LAt k R w' ao c l := by
 obtain ⟨h1, h2, rows, h3, h4⟩ := h
 exact ⟨h1, h2, rows, zAk.ext h3 he, fun i x hx => hR _ _ (h4 i x hx)⟩
theorem View.ext {w w' : World} {v : Value} {l : List Int} (h : View w v l) (he : Ext w w') : View w' v l := by
 obtain ⟨ao, cap, rfl, hc, hm, hy, hl⟩ := h
 refine ⟨ao, cap, rfl, hc, hm, hy, ?_⟩
 rcases hl with h | ⟨g, off, e, hl⟩
 · exact .inl h
 · exact .inr ⟨g, off, e, fun j x hj => he.cell _ _ (hl j x hj)⟩
theorem zAx.ext {w w' : World} (he : Ext w w') {r : List Value} {f : RD} (h : zAx w r f) : zAx w' r f := by
 obtain ⟨o1, c1, o2, c2, e, h1, h2⟩ := h
 exact ⟨o1, c1, o2, c2, e, LAt.ext h1 he (fun _ _ h => h), LAt.ext h2 he (fun _ _ h => h)⟩
theorem zB1.ext {w w' : World} (he : Ext w w') {r : List Value} {m : MD} (h : zB1 w r m) : zB1 w' r m := by
 obtain ⟨o1, c1, o2, c2, o3, c3, e, s1, s2, h1, h2, h3⟩ := h
 exact ⟨o1, c1, o2, c2, o3, c3, e, s1, s2, View.ext h1 he, LAt.ext h2 he (fun _ _ h => h), LAt.ext h3 he (fun _ _ h => zAx.ext he h)⟩
/-! A world of which only some blocks are seen. -/
def zLq : Obj → Bool
 | .cells _ _ (lo, hi) => lo == 0 && hi == 0
 | _ => true
def ufz (w : World) (b : Nat) : Bool := match w.heap[b]? with
 | some o => zLq o
 | none => true
theorem zGx {w : World} {b : Nat} {cs : Array Value} {t : TypeId} (h : w.heap[b]? = some (.cells cs t (0, 0))) : ufz w b = true := by unfold ufz; rw [h]; rfl
theorem zGw {w w' : World} {b : Nat} (h : w'.heap[b]? = w.heap[b]?) : ufz w' b = ufz w b := by unfold ufz; rw [h]
theorem zEq {w : World} {p : Addr} (h : ufz w p.block = true) : w.frozen? p = false := by
 unfold ufz at h
 unfold World.frozen?
 cases e : w.heap[p.block]? with
 | none => rfl
 | some o =>
   rw [e] at h
   cases o with
   | cells c t f =>
     obtain ⟨lo, hi⟩ := f
     simp only [zLq, Bool.and_eq_true, beq_iff_eq] at h
     simp [h.1, h.2]
   | _ => rfl
def seen (X : Nat → Bool) (w : World) : World := { w with heap := w.heap.mapIdx fun i o => if X i && zLq o then o else .cells #[] 0 }
theorem zDq (X : Nat → Bool) (w : World) : (seen X w).heap.size = w.heap.size := by simp [seen]
theorem zBe {X : Nat → Bool} {w : World} {p : Addr} {v : Value} : (seen X w).cell? p = some v ↔ X p.block = true ∧ w.cell? p = some v ∧ ufz w p.block = true := by
 unfold World.cell? seen ufz
 simp only [Array.getElem?_mapIdx]
 cases h : w.heap[p.block]? with
 | none => simp
 | some o =>
   cases hx : X p.block
   · simp
   · cases ho : zLq o
     · simp [ho]
     · simp [ho]
theorem zFi (X : Nat → Bool) (w : World) : Ext (seen X w) w := ⟨by rw [zDq]; exact Nat.le_refl _, fun p v h => (zBe.1 h).2.1⟩
theorem zAl {X Y : Nat → Bool} {w w' : World} (hs : w.heap.size ≤ w'.heap.size) (h : ∀ b, b < w.heap.size → X b = true → Y b = true ∧ w'.heap[b]? = w.heap[b]?) : Ext (seen X w) (seen Y w') := by
 refine ⟨by rw [zDq, zDq]; exact hs, fun p v e => ?_⟩
 obtain ⟨h1, h2, hz⟩ := zBe.1 e
 obtain ⟨h3, h4⟩ := h p.block (World.block_lt_of_cell? _ _ h2) h1
 refine zBe.2 ⟨h3, ?_, (zGw h4).trans hz⟩
 unfold World.cell? at h2 ⊢
 rw [h4]; exact h2
/-! Members. -/
structure Mem where
 k : KD
 b : Nat
def ptr : Option Mem → Value
 | none => .pointer none
 | some m => .pointer (some ⟨m.b, 0, none⟩)
def zB7 : List Mem → ByteArray → Option Mem
 | [], _ => none
 | m :: o, s => if s == m.k.nm then some m else zB7 o s
def lin : List Mem → ByteArray → List Mem
 | [], _ => []
 | m :: o, s => if s == m.k.nm then m :: lin o m.k.sup else lin o s
structure zS5 (w : World) (m : Mem) (ab : Option Mem) (o1 : Option Addr) (c1 : Nat) (o2 : Option Addr) (c2 : Nat) (o3 : Option Addr) (c3 : Nat) : Prop where
 e0 : w.cell? ⟨m.b, 0, none⟩ = some (.string m.k.nm)
 e1 : w.cell? ⟨m.b, 1, none⟩ = some (.string m.k.sup)
 e2 : w.cell? ⟨m.b, 2, none⟩ = some (.slice o1 m.k.pool.length c1)
 e3 : w.cell? ⟨m.b, 3, none⟩ = some (.slice o2 m.k.fs.length c2)
 e4 : w.cell? ⟨m.b, 4, none⟩ = some (.slice o3 m.k.ms.length c3)
 e5 : w.cell? ⟨m.b, 5, none⟩ = some (ptr ab)
 s1 : m.k.nm.size ≤ 9223372036854775807
 s2 : m.k.sup.size ≤ 9223372036854775807
 k1 : LAt 5 zHe w o1 c1 m.k.pool
 k2 : LAt 3 zFd w o2 c2 m.k.fs
 k3 : LAt 9 zB1 w o3 c3 m.k.ms
def zF2 (w : World) (m : Mem) (ab : Option Mem) : Prop := ∃ o1 c1 o2 c2 o3 c3, zS5 w m ab o1 c1 o2 c2 o3 c3
theorem zF2.ext {w w' : World} {m : Mem} {ab : Option Mem} (h : zF2 w m ab) (he : Ext w w') : zF2 w' m ab := by
 obtain ⟨o1, c1, o2, c2, o3, c3, h⟩ := h
 exact ⟨o1, c1, o2, c2, o3, c3, ⟨he.cell _ _ h.e0, he.cell _ _ h.e1, he.cell _ _ h.e2, he.cell _ _ h.e3, he.cell _ _ h.e4, he.cell _ _ h.e5, h.s1, h.s2, LAt.ext h.k1 he (fun _ _ h => h), LAt.ext h.k2 he (fun _ _ h => h), LAt.ext h.k3 he (fun _ _ h => zB1.ext he h)⟩⟩
theorem zS5.cls {w : World} {m : Mem} {ab : Option Mem} {o1 : Option Addr} {c1 : Nat} {o2 : Option Addr} {c2 : Nat} {o3 : Option Addr} {c3 : Nat} (h : zS5 w m ab o1 c1 o2 c2 o3 c3) :
 zAp w (.agg #[.string m.k.nm, .string m.k.sup, .slice o1 m.k.pool.length c1, .slice o2 m.k.fs.length c2, .slice o3 m.k.ms.length c3]) m.k :=
 ⟨o1, c1, o2, c2, o3, c3, rfl, h.s1, h.s2, h.k1, h.k2, h.k3⟩
def Mems (w : World) : List Mem → Prop
 | [] => True
 | m :: o => zF2 w m (zB7 o m.k.sup) ∧ zB7 o m.k.nm = none ∧ Mems w o
theorem Mems.ext {w w' : World} (he : Ext w w') : ∀ {l : List Mem}, Mems w l → Mems w' l
 | [], _ => trivial
 | _ :: _, ⟨h1, h2, h3⟩ => ⟨h1.ext he, h2, Mems.ext he h3⟩
def zDj (w : World) : Option Mem → List Mem → Prop
 | p, [] => p = none
 | p, m :: l => p = some m ∧ ∃ ab, zF2 w m ab ∧ zDj w ab l
theorem zDj.ext {w w' : World} (he : Ext w w') : ∀ {p : Option Mem} {l : List Mem}, zDj w p l → zDj w' p l
 | _, [], h => h
 | _, _ :: _, ⟨h1, ab, h2, h3⟩ => ⟨h1, ab, h2.ext he, zDj.ext he h3⟩
theorem Mems.chain {w : World} : ∀ {l : List Mem} (s : ByteArray), Mems w l → zDj w (zB7 l s) (lin l s)
 | [], _, _ => rfl
 | m :: o, s, ⟨h1, h2, h3⟩ => by
   unfold zB7 lin
   split
   · exact ⟨rfl, _, h1, Mems.chain _ h3⟩
   · exact Mems.chain s h3
theorem zDj.at {w : World} : ∀ {p : Option Mem} {l : List Mem}, zDj w p l → ∀ x ∈ l, ∃ ab, zF2 w x ab
 | _, [], _, x, hx => by simp at hx
 | _, m :: l, ⟨_, ab, h2, h3⟩, x, hx => by
   rcases List.mem_cons.1 hx with rfl | h
   · exact ⟨ab, h2⟩
   · exact h3.at x h
end Go.Proofs.YtpehimfnkmepnaaGreat.K
