import Derived.Test.YtpehimfnkmepnaaGreatBz30
set_option maxRecDepth 8000
set_option maxHeartbeats 40000000
namespace Go.Proofs.YtpehimfnkmepnaaGreat.Q
open Go.RowKit D
theorem zA1 {w : World} {b : Nat} {cur : Array Value} {T : TypeId} (hg : w.heap[b]? = some (.cells cur T (0, 0))) (j : Nat) {u : Value} (h : cur[j]? = some u) : w.cell? ⟨b, j, none⟩ = some u := by
 rw [cell_of_row _ _ _ _ T (0, 0) hg]; exact h
theorem zI8 {w : World} {v : Value} {l : List Int} (h : View w v l) : (convert 35 9 v).run Tryz.prog w = .ok (.string (strOfNums l)) w := by
 obtain ⟨ao, cap, rfl, hc, hm, hy, hl⟩ := h
 rcases hl with rfl | ⟨g, off, rfl, hl⟩
 · cases ao with
   | none => exact run_convert_bytes_nil (P := Tryz.prog) w 35 5 Tryz.underlying35 Tryz.underlying5 0 cap 9 Tryz.underlying9
   | some a =>
     rw [run_convert_bytes_string w 35 9 5 _ _ _ Tryz.underlying35 Tryz.underlying5 Tryz.underlying9]
     exact run_bytesToString w a 0 cap [] (by simp [loadCells, loadCellsFrom])
 · exact run_convert_bytes_arg (P := Tryz.prog) w 35 5 Tryz.underlying35 Tryz.underlying5 g off l.length cap l rfl (fun i hi => by
    rw [hl i l[i] (by simp [hi])]; simp [List.getD, hi]) 9 Tryz.underlying9
theorem zIa (l : List ByteArray) (o1 : Option Addr) (c1 : Nat) (o2 : Option Addr) (c2 : Nat) (w : World) (h1 : LAt 1 zDm w o1 c1 l) (h2 : LAt 1 zDm w o2 c2 l) :
 Calls Tryz.prog 94 #[.slice o1 l.length c1, .slice o2 l.length c2] w fun e w' => e = .returned (.bool true) ∧ ∃ q, w' = w.drewN q := by
 have hbig := h1.big
 have R1 : Hid (∀ (j : Nat) (x : ByteArray), l[j]? = some x → ∃ b off, o1 = some ⟨b, off, none⟩ ∧ w.cell? ⟨b, off + j, none⟩ = some (.string x)) := fun j x hx => by
  obtain ⟨b, off, r, e, ⟨rfl, _⟩, hc⟩ := h1.row hx
  exact ⟨b, off, e, by simpa using hc 0 _ rfl⟩
 have R2 : Hid (∀ (j : Nat) (x : ByteArray), l[j]? = some x → ∃ b off, o2 = some ⟨b, off, none⟩ ∧ w.cell? ⟨b, off + j, none⟩ = some (.string x)) := fun j x hx => by
  obtain ⟨b, off, r, e, ⟨rfl, _⟩, hc⟩ := h2.row hx
  exact ⟨b, off, e, by simpa using hc 0 _ rfl⟩
 clear h1 h2
 generalize hn : l.length = n at *
 have HN := D.zA0 hn
 clear hn
 go_enter Tryz.func94, Tryz.ntmps94
 go_wp2
 go_loopw [5] (fun i wr => ∃ k q : Nat, k ≤ n ∧ i = .int .i64 (k : Int) ∧ wr = w.drewN q) (fun i _ => n - (intOf i).toNat)
 case atStart => exact ⟨0, 0, by omega, rfl, rfl⟩
 case round =>
  obtain ⟨k, q, hk, rfl, rfl⟩ := hrel
  by_cases hlt : k < n
  · have h1 : (k : Int) < (n : Int) := by omega
    obtain ⟨x, hx⟩ : ∃ x, l[k]? = some x := ⟨_, List.getElem?_eq_getElem (by rw [HN.out]; exact hlt)⟩
    obtain ⟨b, off, rfl, e1⟩ := R1.out k x hx
    obtain ⟨b', off', rfl, e2⟩ := R2.out k x hx
    clear hx R1 R2
    go_wp2
    go_quiet (fail)
    go_wp2
    exact ⟨⟨k + 1, _, by omega, by go_num, rfl⟩, by simp [intOf]; omega⟩
  · have h1 : ¬ (k : Int) < (n : Int) := by omega
    go_wp2
    go_ret
    exact ⟨rfl, q, rfl⟩
theorem zN0 (f : RD) (r r' : List Value) (w : World) (h : zAx w r f) (h' : zAx w r' f) :
 Calls Tryz.prog 46 #[.agg r.toArray, .agg r'.toArray] w fun e w' => e = .returned (.bool true) ∧ Below w.heap.size w w' := by
 obtain ⟨o1, c1, o2, c2, rfl, k1, k2⟩ := h
 obtain ⟨p1, d1, p2, d2, rfl, m1, m2⟩ := h'
 have B0 := D.zA0 (next (zA9 w (.cells #[.int .i64 f.aT, .slice o1 f.loc.length c1, .slice o2 f.stk.length c2] 67)) (zA9 _ (.cells #[.int .i64 f.aT, .slice p1 f.loc.length d1, .slice p2 f.stk.length d2] 67)))
 have g1 := fun W (hW : Below w.heap.size w W) => D.zA0 (zIa f.loc o1 c1 p1 d1 W (k1.below hW (fun _ _ h => h)) (m1.below hW (fun _ _ h => h)))
 have g2 := fun W (hW : Below w.heap.size w W) => D.zA0 (zIa f.stk o2 c2 p2 d2 W (k2.below hW (fun _ _ h => h)) (m2.below hW (fun _ _ h => h)))
 clear k1 k2 m1 m2
 generalize f.loc.length = n1 at *
 generalize f.stk.length = n2 at *
 generalize f.aT = at_ at *
 go_enter Tryz.func46, Tryz.ntmps46
 go_wp2_with fail
 refine (g1 _ B0.out).out.mono ?_
 rintro e w1 ⟨rfl, q1, rfl⟩
 go_wp2_with fail
 refine (g2 _ (zA5 B0.out q1)).out.mono ?_
 rintro e w2 ⟨rfl, q2, rfl⟩
 have B2 := D.zA0 (zA5 B0.out (q1 + q2))
 clear g1 g2 B0
 go_wp2
 go_ret
 exact ⟨rfl, B2.out⟩
theorem zNd (m : MD) (r r' : List Value) (w : World) (h : zB1 w r m) (h' : zB1 w r' m) :
 Calls Tryz.prog 58 #[.agg r.toArray, .agg r'.toArray] w fun e w' => e = .returned (.bool true) ∧ Below w.heap.size w w' := by
 obtain ⟨o1, c1, o2, c2, o3, c3, rfl, s1, s2, v1, k2, k3⟩ := h
 obtain ⟨p1, d1, p2, d2, p3, d3, rfl, _, _, u1, m2, m3⟩ := h'
 have B0 := next (zA9 w (.cells #[.string m.nm, .string m.ds, .bool m.st, .bool m.nat, .int .i64 m.stk, .int .i64 m.loc, .slice o1 m.code.length c1, .slice o2 m.hs.length c2, .slice o3 m.rs.length c3] 39)) (zA9 _ (.cells #[.string m.nm, .string m.ds, .bool m.st, .bool m.nat, .int .i64 m.stk, .int .i64 m.loc, .slice p1 m.code.length d1, .slice p2 m.hs.length d2, .slice p3 m.rs.length d3] 39))
 have cs1 := zI8 (v1.below B0)
 have cs2 := zI8 (u1.below B0)
 have X1 : Hid (((w.alloc (.cells #[.string m.nm, .string m.ds, .bool m.st, .bool m.nat, .int .i64 m.stk, .int .i64 m.loc, .slice o1 m.code.length c1, .slice o2 m.hs.length c2, .slice o3 m.rs.length c3] 39)).alloc (.cells #[.string m.nm, .string m.ds, .bool m.st, .bool m.nat, .int .i64 m.stk, .int .i64 m.loc, .slice p1 m.code.length d1, .slice p2 m.hs.length d2, .slice p3 m.rs.length d3] 39)).heap[w.heap.size]? = some (.cells #[.string m.nm, .string m.ds, .bool m.st, .bool m.nat, .int .i64 m.stk, .int .i64 m.loc, .slice o1 m.code.length c1, .slice o2 m.hs.length c2, .slice o3 m.rs.length c3] 39)) := by
  show _ = _
  rw [Below.heap_alloc _ _ _ (by simp)]; exact heap_alloc_new _ _
 have X2 : Hid (((w.alloc (.cells #[.string m.nm, .string m.ds, .bool m.st, .bool m.nat, .int .i64 m.stk, .int .i64 m.loc, .slice o1 m.code.length c1, .slice o2 m.hs.length c2, .slice o3 m.rs.length c3] 39)).alloc (.cells #[.string m.nm, .string m.ds, .bool m.st, .bool m.nat, .int .i64 m.stk, .int .i64 m.loc, .slice p1 m.code.length d1, .slice p2 m.hs.length d2, .slice p3 m.rs.length d3] 39)).heap[w.heap.size + 1]? = some (.cells #[.string m.nm, .string m.ds, .bool m.st, .bool m.nat, .int .i64 m.stk, .int .i64 m.loc, .slice p1 m.code.length d1, .slice p2 m.hs.length d2, .slice p3 m.rs.length d3] 39)) := by
  show _ = _
  have := heap_alloc_new (w.alloc (.cells #[.string m.nm, .string m.ds, .bool m.st, .bool m.nat, .int .i64 m.stk, .int .i64 m.loc, .slice o1 m.code.length c1, .slice o2 m.hs.length c2, .slice o3 m.rs.length c3] 39)) (.cells #[.string m.nm, .string m.ds, .bool m.st, .bool m.nat, .int .i64 m.stk, .int .i64 m.loc, .slice p1 m.code.length d1, .slice p2 m.hs.length d2, .slice p3 m.rs.length d3] 39)
  simpa using this
 have R1 : Hid (∀ (W : World) (hW : Below w.heap.size w W) (j : Nat) (x : HD), m.hs[j]? = some x → ∃ b off, o2 = some ⟨b, off, none⟩ ∧ W.cell? ⟨b, off + j * 4, none⟩ = some (.int .i64 x.fr) ∧ W.cell? ⟨b, off + j * 4 + 1, none⟩ = some (.int .i64 x.tO) ∧ W.cell? ⟨b, off + j * 4 + 2, none⟩ = some (.int .i64 x.aT) ∧ W.cell? ⟨b, off + j * 4 + 3, none⟩ = some (.string x.ty)) := fun W hW j x hx => by
  obtain ⟨b, off, r, e, ⟨rfl, _⟩, hc⟩ := (k2.below hW (fun _ _ h => h)).row hx
  exact ⟨b, off, e, hc 0 _ rfl, hc 1 _ rfl, hc 2 _ rfl, hc 3 _ rfl⟩
 have R2 : Hid (∀ (W : World) (hW : Below w.heap.size w W) (j : Nat) (x : HD), m.hs[j]? = some x → ∃ b off, p2 = some ⟨b, off, none⟩ ∧ W.cell? ⟨b, off + j * 4, none⟩ = some (.int .i64 x.fr) ∧ W.cell? ⟨b, off + j * 4 + 1, none⟩ = some (.int .i64 x.tO) ∧ W.cell? ⟨b, off + j * 4 + 2, none⟩ = some (.int .i64 x.aT) ∧ W.cell? ⟨b, off + j * 4 + 3, none⟩ = some (.string x.ty)) := fun W hW j x hx => by
  obtain ⟨b, off, r, e, ⟨rfl, _⟩, hc⟩ := (m2.below hW (fun _ _ h => h)).row hx
  exact ⟨b, off, e, hc 0 _ rfl, hc 1 _ rfl, hc 2 _ rfl, hc 3 _ rfl⟩
 have Q1 : Hid (∀ (j : Nat) (x : RD), m.rs[j]? = some x → ∃ b off a1 e1 a2 e2, o3 = some ⟨b, off, none⟩ ∧ zAx w [.int .i64 x.aT, .slice a1 x.loc.length e1, .slice a2 x.stk.length e2] x ∧ w.cell? ⟨b, off + j * 3, none⟩ = some (.int .i64 x.aT) ∧ w.cell? ⟨b, off + j * 3 + 1, none⟩ = some (.slice a1 x.loc.length e1) ∧ w.cell? ⟨b, off + j * 3 + 2, none⟩ = some (.slice a2 x.stk.length e2)) := fun j x hx => by
  obtain ⟨b, off, r, e, hr, hc⟩ := k3.row hx
  obtain ⟨a1, e1, a2, e2, rfl, _, _⟩ := id hr
  exact ⟨b, off, a1, e1, a2, e2, e, hr, hc 0 _ rfl, hc 1 _ rfl, hc 2 _ rfl⟩
 have Q2 : Hid (∀ (j : Nat) (x : RD), m.rs[j]? = some x → ∃ b off a1 e1 a2 e2, p3 = some ⟨b, off, none⟩ ∧ zAx w [.int .i64 x.aT, .slice a1 x.loc.length e1, .slice a2 x.stk.length e2] x ∧ w.cell? ⟨b, off + j * 3, none⟩ = some (.int .i64 x.aT) ∧ w.cell? ⟨b, off + j * 3 + 1, none⟩ = some (.slice a1 x.loc.length e1) ∧ w.cell? ⟨b, off + j * 3 + 2, none⟩ = some (.slice a2 x.stk.length e2)) := fun j x hx => by
  obtain ⟨b, off, r, e, hr, hc⟩ := m3.row hx
  obtain ⟨a1, e1, a2, e2, rfl, _, _⟩ := id hr
  exact ⟨b, off, a1, e1, a2, e2, e, hr, hc 0 _ rfl, hc 1 _ rfl, hc 2 _ rfl⟩
 have bg2 := k2.big
 have bg3 := k3.big
 have BB0 := D.zA0 B0
 clear v1 u1 k2 k3 m2 m3 s1 s2
 generalize hh : m.hs.length = nh at *
 generalize hr : m.rs.length = nr at *
 have HH := D.zA0 hh
 have HR := D.zA0 hr
 clear hh hr B0
 generalize m.code.length = nc at *
 generalize strOfNums m.code = sc at *
 go_enter Tryz.func58, Tryz.ntmps58
 go_wp2
 clear cs1 cs2
 generalize (w.alloc (.cells #[.string m.nm, .string m.ds, .bool m.st, .bool m.nat, .int .i64 m.stk, .int .i64 m.loc, .slice o1 nc c1, .slice o2 nh c2, .slice o3 nr c3] 39)).alloc (.cells #[.string m.nm, .string m.ds, .bool m.st, .bool m.nat, .int .i64 m.stk, .int .i64 m.loc, .slice p1 nc d1, .slice p2 nh d2, .slice p3 nr d3] 39) = X at *
 go_loopw [5] (fun i wr => ∃ k : Nat, k ≤ nh ∧ i = .int .i64 (k : Int) ∧ Hid (Below X.heap.size X wr)) (fun i _ => nh - (intOf i).toNat)
 case atStart => exact ⟨0, by omega, rfl, Below.refl _ _⟩
 case round =>
  obtain ⟨k, hk, rfl, HB⟩ := hrel
  obtain ⟨wv, rfl⟩ : ∃ wv, wv = wr := ⟨_, rfl⟩
  have x1 := (HB.out.block _ (Array.getElem?_eq_some_iff.1 X1.out).1).trans X1.out
  have x2 := (HB.out.block _ (Array.getElem?_eq_some_iff.1 X2.out).1).trans X2.out
  have e7 := zA1 x1 7 rfl
  have e7' := zA1 x2 7 rfl
  clear x1 x2
  by_cases hlt : k < nh
  · have h1 : (k : Int) < (nh : Int) := by omega
    obtain ⟨x, hx⟩ : ∃ x, m.hs[k]? = some x := ⟨_, List.getElem?_eq_getElem (by rw [HH.out]; exact hlt)⟩
    obtain ⟨b, off, rfl, z0, z1, z2, z3⟩ := R1.out wv (next BB0.out HB.out) k x hx
    obtain ⟨b', off', rfl, y0, y1, y2, y3⟩ := R2.out wv (next BB0.out HB.out) k x hx
    clear hx R1 R2 Q1 Q2
    go_wp2
    go_quiet (fail)
    go_wp2
    exact ⟨⟨k + 1, by omega, by go_num, zA5 HB.out _⟩, by simp [intOf]; omega⟩
  · have h1 : ¬ (k : Int) < (nh : Int) := by omega
    clear R1 R2 HH bg2
    go_wp2
    clear e7 e7'
    go_loopw [6] (fun i wr => ∃ k : Nat, k ≤ nr ∧ i = .int .i64 (k : Int) ∧ Hid (Below X.heap.size X wr)) (fun i _ => nr - (intOf i).toNat)
    case atStart => exact ⟨0, by omega, rfl, HB.out⟩
    case round =>
     clear HB
     obtain ⟨j, hj, rfl, HB⟩ := hrel
     obtain ⟨wu, rfl⟩ : ∃ wu, wu = wr := ⟨_, rfl⟩
     have x1 := (HB.out.block _ (Array.getElem?_eq_some_iff.1 X1.out).1).trans X1.out
     have x2 := (HB.out.block _ (Array.getElem?_eq_some_iff.1 X2.out).1).trans X2.out
     have e8 := zA1 x1 8 rfl
     have e8' := zA1 x2 8 rfl
     by_cases hlt2 : j < nr
     · have h2 : (j : Int) < (nr : Int) := by omega
       obtain ⟨x, hx⟩ : ∃ x, m.rs[j]? = some x := ⟨_, List.getElem?_eq_getElem (by rw [HR.out]; exact hlt2)⟩
       obtain ⟨b, off, a1, q1, a2, q2, rfl, hF, z0, z1, z2⟩ := Q1.out j x hx
       obtain ⟨b', off', a1', q1', a2', q2', rfl, hF', y0, y1, y2⟩ := Q2.out j x hx
       have hWu := next BB0.out HB.out
       have gC := D.zA0 (zN0 x _ _ wu.drew (hF.below (zA5 hWu 1)) (hF'.below (zA5 hWu 1)))
       have HWU := D.zA0 hWu
       have ST : Hid (∀ W : World, Below wu.drew.heap.size wu.drew W → ((W.cell? ⟨w.heap.size, 8, none⟩ = some (.slice (some ⟨b, off, none⟩) nr c3) ∧ W.cell? ⟨w.heap.size + 1, 8, none⟩ = some (.slice (some ⟨b', off', none⟩) nr d3)) ∧ (W.cell? ⟨b, off + j * 3, none⟩ = some (.int .i64 x.aT) ∧ W.cell? ⟨b, off + j * 3 + 1, none⟩ = some (.slice a1 x.loc.length q1) ∧ W.cell? ⟨b, off + j * 3 + 2, none⟩ = some (.slice a2 x.stk.length q2)) ∧ (W.cell? ⟨b', off' + j * 3, none⟩ = some (.int .i64 x.aT) ∧ W.cell? ⟨b', off' + j * 3 + 1, none⟩ = some (.slice a1' x.loc.length q1') ∧ W.cell? ⟨b', off' + j * 3 + 2, none⟩ = some (.slice a2' x.stk.length q2')))) := fun W hW => by
        have hb : Below w.heap.size w W := next (zA5 HWU.out 1) hW
        have hx1 := (hW.block _ (Array.getElem?_eq_some_iff.1 x1).1).trans x1
        have hx2 := (hW.block _ (Array.getElem?_eq_some_iff.1 x2).1).trans x2
        exact ⟨⟨zA1 hx1 8 rfl, zA1 hx2 8 rfl⟩, ⟨cell_later hb z0, cell_later hb z1, cell_later hb z2⟩, ⟨cell_later hb y0, cell_later hb y1, cell_later hb y2⟩⟩
       have S0 := D.zA0 (ST.out wu.drew (Below.refl _ _))
       have HBd : Hid (Below X.heap.size X wu.drew) := zA5 HB.out 1
       clear hx Q1 Q2 hF hF' z0 z1 z2 y0 y1 y2 x1 x2 hWu
       generalize x.aT = xa at *
       generalize x.loc.length = xl at *
       generalize x.stk.length = xs at *
       go_wp2_with fail
       clear e8 e8'
       go_region_held3 (fun W => ((W.cell? ⟨w.heap.size, 8, none⟩ = some (.slice (some ⟨b, off, none⟩) nr c3) ∧ W.cell? ⟨w.heap.size + 1, 8, none⟩ = some (.slice (some ⟨b', off', none⟩) nr d3)) ∧ (W.cell? ⟨b, off + j * 3, none⟩ = some (.int .i64 xa) ∧ W.cell? ⟨b, off + j * 3 + 1, none⟩ = some (.slice a1 xl q1) ∧ W.cell? ⟨b, off + j * 3 + 2, none⟩ = some (.slice a2 xs q2)) ∧ (W.cell? ⟨b', off' + j * 3, none⟩ = some (.int .i64 xa) ∧ W.cell? ⟨b', off' + j * 3 + 1, none⟩ = some (.slice a1' xl q1') ∧ W.cell? ⟨b', off' + j * 3 + 2, none⟩ = some (.slice a2' xs q2')))) (first | exact S0.out | exact ST.out _ (by assumption))
        (first
         | (go_at_call 46; refine gC.out.mono ?_; rintro e w3 ⟨rfl, b3⟩))
       have HB3 : Hid (Below X.heap.size X w3) := next HBd.out b3
       clear b3 gC ST S0 HWU
       go_wp2
       exact ⟨⟨j + 1, by omega, by go_num, HB3.out⟩, by simp [intOf]; omega⟩
     · have h2 : ¬ (j : Int) < (nr : Int) := by omega
       have FF := D.zA0 (next BB0.out HB.out)
       go_wp2
       go_ret
       exact ⟨rfl, FF.out⟩
theorem zMd (k : KD) (v v' : Value) (w : World) (h : zAp w v k) (h' : zAp w v' k) :
 Calls Tryz.prog 14 #[v, v'] w fun e w' => e = .returned (.bool true) ∧ Below w.heap.size w w' := by
 obtain ⟨o1, c1, o2, c2, o3, c3, rfl, s1, s2, k1, k2, k3⟩ := h
 obtain ⟨p1, d1, p2, d2, p3, d3, rfl, _, _, m1, m2, m3⟩ := h'
 have B0 := next (zA9 w (.cells #[.string k.nm, .string k.sup, .slice o1 k.pool.length c1, .slice o2 k.fs.length c2, .slice o3 k.ms.length c3] 31)) (zA9 _ (.cells #[.string k.nm, .string k.sup, .slice p1 k.pool.length d1, .slice p2 k.fs.length d2, .slice p3 k.ms.length d3] 31))
 have X1 : Hid (((w.alloc (.cells #[.string k.nm, .string k.sup, .slice o1 k.pool.length c1, .slice o2 k.fs.length c2, .slice o3 k.ms.length c3] 31)).alloc (.cells #[.string k.nm, .string k.sup, .slice p1 k.pool.length d1, .slice p2 k.fs.length d2, .slice p3 k.ms.length d3] 31)).heap[w.heap.size]? = some (.cells #[.string k.nm, .string k.sup, .slice o1 k.pool.length c1, .slice o2 k.fs.length c2, .slice o3 k.ms.length c3] 31)) := by
  show _ = _
  rw [Below.heap_alloc _ _ _ (by simp)]; exact heap_alloc_new _ _
 have X2 : Hid (((w.alloc (.cells #[.string k.nm, .string k.sup, .slice o1 k.pool.length c1, .slice o2 k.fs.length c2, .slice o3 k.ms.length c3] 31)).alloc (.cells #[.string k.nm, .string k.sup, .slice p1 k.pool.length d1, .slice p2 k.fs.length d2, .slice p3 k.ms.length d3] 31)).heap[w.heap.size + 1]? = some (.cells #[.string k.nm, .string k.sup, .slice p1 k.pool.length d1, .slice p2 k.fs.length d2, .slice p3 k.ms.length d3] 31)) := by
  show _ = _
  have := heap_alloc_new (w.alloc (.cells #[.string k.nm, .string k.sup, .slice o1 k.pool.length c1, .slice o2 k.fs.length c2, .slice o3 k.ms.length c3] 31)) (.cells #[.string k.nm, .string k.sup, .slice p1 k.pool.length d1, .slice p2 k.fs.length d2, .slice p3 k.ms.length d3] 31)
  simpa using this
 have P1 : Hid (∀ (W : World) (hW : Below w.heap.size w W) (j : Nat) (x : CD), k.pool[j]? = some x → ∃ b off, o1 = some ⟨b, off, none⟩ ∧ W.cell? ⟨b, off + j * 5, none⟩ = some (.int .i64 x.kind) ∧ W.cell? ⟨b, off + j * 5 + 1, none⟩ = some (.int .i32 x.n) ∧ W.cell? ⟨b, off + j * 5 + 2, none⟩ = some (.string x.cls) ∧ W.cell? ⟨b, off + j * 5 + 3, none⟩ = some (.string x.nm) ∧ W.cell? ⟨b, off + j * 5 + 4, none⟩ = some (.string x.dsc)) := fun W hW j x hx => by
  obtain ⟨b, off, r, e, ⟨rfl, _⟩, hc⟩ := (k1.below hW (fun _ _ h => h)).row hx
  exact ⟨b, off, e, hc 0 _ rfl, hc 1 _ rfl, hc 2 _ rfl, hc 3 _ rfl, hc 4 _ rfl⟩
 have P2 : Hid (∀ (W : World) (hW : Below w.heap.size w W) (j : Nat) (x : CD), k.pool[j]? = some x → ∃ b off, p1 = some ⟨b, off, none⟩ ∧ W.cell? ⟨b, off + j * 5, none⟩ = some (.int .i64 x.kind) ∧ W.cell? ⟨b, off + j * 5 + 1, none⟩ = some (.int .i32 x.n) ∧ W.cell? ⟨b, off + j * 5 + 2, none⟩ = some (.string x.cls) ∧ W.cell? ⟨b, off + j * 5 + 3, none⟩ = some (.string x.nm) ∧ W.cell? ⟨b, off + j * 5 + 4, none⟩ = some (.string x.dsc)) := fun W hW j x hx => by
  obtain ⟨b, off, r, e, ⟨rfl, _⟩, hc⟩ := (m1.below hW (fun _ _ h => h)).row hx
  exact ⟨b, off, e, hc 0 _ rfl, hc 1 _ rfl, hc 2 _ rfl, hc 3 _ rfl, hc 4 _ rfl⟩
 have R1 : Hid (∀ (W : World) (hW : Below w.heap.size w W) (j : Nat) (x : FD), k.fs[j]? = some x → ∃ b off, o2 = some ⟨b, off, none⟩ ∧ W.cell? ⟨b, off + j * 3, none⟩ = some (.string x.nm) ∧ W.cell? ⟨b, off + j * 3 + 1, none⟩ = some (.string x.ds) ∧ W.cell? ⟨b, off + j * 3 + 2, none⟩ = some (.bool x.st)) := fun W hW j x hx => by
  obtain ⟨b, off, r, e, ⟨rfl, _⟩, hc⟩ := (k2.below hW (fun _ _ h => h)).row hx
  exact ⟨b, off, e, hc 0 _ rfl, hc 1 _ rfl, hc 2 _ rfl⟩
 have R2 : Hid (∀ (W : World) (hW : Below w.heap.size w W) (j : Nat) (x : FD), k.fs[j]? = some x → ∃ b off, p2 = some ⟨b, off, none⟩ ∧ W.cell? ⟨b, off + j * 3, none⟩ = some (.string x.nm) ∧ W.cell? ⟨b, off + j * 3 + 1, none⟩ = some (.string x.ds) ∧ W.cell? ⟨b, off + j * 3 + 2, none⟩ = some (.bool x.st)) := fun W hW j x hx => by
  obtain ⟨b, off, r, e, ⟨rfl, _⟩, hc⟩ := (m2.below hW (fun _ _ h => h)).row hx
  exact ⟨b, off, e, hc 0 _ rfl, hc 1 _ rfl, hc 2 _ rfl⟩
 have Q1 : Hid (∀ (j : Nat) (x : MD), k.ms[j]? = some x → ∃ b off a1 e1 a2 e2 a3 e3, o3 = some ⟨b, off, none⟩ ∧ zB1 w [.string x.nm, .string x.ds, .bool x.st, .bool x.nat, .int .i64 x.stk, .int .i64 x.loc, .slice a1 x.code.length e1, .slice a2 x.hs.length e2, .slice a3 x.rs.length e3] x ∧ (w.cell? ⟨b, off + j * 9, none⟩ = some (.string x.nm) ∧ w.cell? ⟨b, off + j * 9 + 1, none⟩ = some (.string x.ds) ∧ w.cell? ⟨b, off + j * 9 + 2, none⟩ = some (.bool x.st) ∧ w.cell? ⟨b, off + j * 9 + 3, none⟩ = some (.bool x.nat) ∧ w.cell? ⟨b, off + j * 9 + 4, none⟩ = some (.int .i64 x.stk) ∧ w.cell? ⟨b, off + j * 9 + 5, none⟩ = some (.int .i64 x.loc) ∧ w.cell? ⟨b, off + j * 9 + 6, none⟩ = some (.slice a1 x.code.length e1) ∧ w.cell? ⟨b, off + j * 9 + 7, none⟩ = some (.slice a2 x.hs.length e2) ∧ w.cell? ⟨b, off + j * 9 + 8, none⟩ = some (.slice a3 x.rs.length e3))) := fun j x hx => by
  obtain ⟨b, off, r, e, hr, hc⟩ := k3.row hx
  obtain ⟨a1, e1, a2, e2, a3, e3, rfl, _⟩ := id hr
  exact ⟨b, off, a1, e1, a2, e2, a3, e3, e, hr, hc 0 _ rfl, hc 1 _ rfl, hc 2 _ rfl, hc 3 _ rfl, hc 4 _ rfl, hc 5 _ rfl, hc 6 _ rfl, hc 7 _ rfl, hc 8 _ rfl⟩
 have Q2 : Hid (∀ (j : Nat) (x : MD), k.ms[j]? = some x → ∃ b off a1 e1 a2 e2 a3 e3, p3 = some ⟨b, off, none⟩ ∧ zB1 w [.string x.nm, .string x.ds, .bool x.st, .bool x.nat, .int .i64 x.stk, .int .i64 x.loc, .slice a1 x.code.length e1, .slice a2 x.hs.length e2, .slice a3 x.rs.length e3] x ∧ (w.cell? ⟨b, off + j * 9, none⟩ = some (.string x.nm) ∧ w.cell? ⟨b, off + j * 9 + 1, none⟩ = some (.string x.ds) ∧ w.cell? ⟨b, off + j * 9 + 2, none⟩ = some (.bool x.st) ∧ w.cell? ⟨b, off + j * 9 + 3, none⟩ = some (.bool x.nat) ∧ w.cell? ⟨b, off + j * 9 + 4, none⟩ = some (.int .i64 x.stk) ∧ w.cell? ⟨b, off + j * 9 + 5, none⟩ = some (.int .i64 x.loc) ∧ w.cell? ⟨b, off + j * 9 + 6, none⟩ = some (.slice a1 x.code.length e1) ∧ w.cell? ⟨b, off + j * 9 + 7, none⟩ = some (.slice a2 x.hs.length e2) ∧ w.cell? ⟨b, off + j * 9 + 8, none⟩ = some (.slice a3 x.rs.length e3))) := fun j x hx => by
  obtain ⟨b, off, r, e, hr, hc⟩ := m3.row hx
  obtain ⟨a1, e1, a2, e2, a3, e3, rfl, _⟩ := id hr
  exact ⟨b, off, a1, e1, a2, e2, a3, e3, e, hr, hc 0 _ rfl, hc 1 _ rfl, hc 2 _ rfl, hc 3 _ rfl, hc 4 _ rfl, hc 5 _ rfl, hc 6 _ rfl, hc 7 _ rfl, hc 8 _ rfl⟩
 have bg1 := k1.big
 have bg2 := k2.big
 have bg3 := k3.big
 have BB0 := D.zA0 B0
 clear k1 k2 k3 m1 m2 m3 s1 s2
 generalize hp : k.pool.length = np at *
 generalize hf : k.fs.length = nf at *
 generalize hm : k.ms.length = nm_ at *
 have HP := D.zA0 hp
 have HF := D.zA0 hf
 have HM := D.zA0 hm
 clear hp hf hm B0
 generalize k.nm = nm at *
 generalize k.sup = sup at *
 go_enter Tryz.func14, Tryz.ntmps14
 go_wp2
 generalize (w.alloc (.cells #[.string nm, .string sup, .slice o1 np c1, .slice o2 nf c2, .slice o3 nm_ c3] 31)).alloc (.cells #[.string nm, .string sup, .slice p1 np d1, .slice p2 nf d2, .slice p3 nm_ d3] 31) = X at *
 go_loopw [5] (fun i wr => ∃ t : Nat, t ≤ np ∧ i = .int .i64 (t : Int) ∧ Hid (Below X.heap.size X wr)) (fun i _ => np - (intOf i).toNat)
 case atStart => exact ⟨0, by omega, rfl, Below.refl _ _⟩
 case round =>
  obtain ⟨t, ht, rfl, HB⟩ := hrel
  obtain ⟨wv, rfl⟩ : ∃ wv, wv = wr := ⟨_, rfl⟩
  have x1 := (HB.out.block _ (Array.getElem?_eq_some_iff.1 X1.out).1).trans X1.out
  have x2 := (HB.out.block _ (Array.getElem?_eq_some_iff.1 X2.out).1).trans X2.out
  have e2 := zA1 x1 2 rfl
  have e2' := zA1 x2 2 rfl
  clear x1 x2
  by_cases hlt : t < np
  · have h1 : (t : Int) < (np : Int) := by omega
    obtain ⟨x, hx⟩ : ∃ x, k.pool[t]? = some x := ⟨_, List.getElem?_eq_getElem (by rw [HP.out]; exact hlt)⟩
    obtain ⟨b, off, rfl, z0, z1, z2, z3, z4⟩ := P1.out wv (next BB0.out HB.out) t x hx
    obtain ⟨b', off', rfl, y0, y1, y2, y3, y4⟩ := P2.out wv (next BB0.out HB.out) t x hx
    clear hx P1 P2 R1 R2 Q1 Q2
    go_wp2
    go_quiet (fail)
    go_wp2
    exact ⟨⟨t + 1, by omega, by go_num, zA5 HB.out _⟩, by simp [intOf]; omega⟩
  · have h1 : ¬ (t : Int) < (np : Int) := by omega
    clear P1 P2 HP bg1
    go_wp2
    clear e2 e2'
    go_loopw [6] (fun i wr => ∃ t : Nat, t ≤ nf ∧ i = .int .i64 (t : Int) ∧ Hid (Below X.heap.size X wr)) (fun i _ => nf - (intOf i).toNat)
    case atStart => exact ⟨0, by omega, rfl, HB.out⟩
    case round =>
     clear HB
     obtain ⟨s, hs, rfl, HB⟩ := hrel
     obtain ⟨wu, rfl⟩ : ∃ wu, wu = wr := ⟨_, rfl⟩
     have x1 := (HB.out.block _ (Array.getElem?_eq_some_iff.1 X1.out).1).trans X1.out
     have x2 := (HB.out.block _ (Array.getElem?_eq_some_iff.1 X2.out).1).trans X2.out
     have e3 := zA1 x1 3 rfl
     have e3' := zA1 x2 3 rfl
     clear x1 x2
     by_cases hlt2 : s < nf
     · have h2 : (s : Int) < (nf : Int) := by omega
       obtain ⟨x, hx⟩ : ∃ x, k.fs[s]? = some x := ⟨_, List.getElem?_eq_getElem (by rw [HF.out]; exact hlt2)⟩
       obtain ⟨b, off, rfl, z0, z1, z2⟩ := R1.out wu (next BB0.out HB.out) s x hx
       obtain ⟨b', off', rfl, y0, y1, y2⟩ := R2.out wu (next BB0.out HB.out) s x hx
       clear hx R1 R2 Q1 Q2
       go_wp2
       go_quiet (fail)
       go_wp2
       exact ⟨⟨s + 1, by omega, by go_num, zA5 HB.out _⟩, by simp [intOf]; omega⟩
     · have h2 : ¬ (s : Int) < (nf : Int) := by omega
       clear R1 R2 HF bg2
       go_wp2
       clear e3 e3'
       go_loopw [7] (fun i wr => ∃ t : Nat, t ≤ nm_ ∧ i = .int .i64 (t : Int) ∧ Hid (Below X.heap.size X wr)) (fun i _ => nm_ - (intOf i).toNat)
       case atStart => exact ⟨0, by omega, rfl, HB.out⟩
       case round =>
        clear HB
        obtain ⟨j, hj, rfl, HB⟩ := hrel
        obtain ⟨wt, rfl⟩ : ∃ wt, wt = wr := ⟨_, rfl⟩
        have x1 := (HB.out.block _ (Array.getElem?_eq_some_iff.1 X1.out).1).trans X1.out
        have x2 := (HB.out.block _ (Array.getElem?_eq_some_iff.1 X2.out).1).trans X2.out
        have e4 := zA1 x1 4 rfl
        have e4' := zA1 x2 4 rfl
        by_cases hlt3 : j < nm_
        · have h3 : (j : Int) < (nm_ : Int) := by omega
          obtain ⟨x, hx⟩ : ∃ x, k.ms[j]? = some x := ⟨_, List.getElem?_eq_getElem (by rw [HM.out]; exact hlt3)⟩
          obtain ⟨b, off, a1, e1, a2, e2, a3, e3, rfl, hF, z0, z1, z2, z3, z4, z5, z6, z7, z8⟩ := Q1.out j x hx
          obtain ⟨b', off', a1', e1', a2', e2', a3', e3', rfl, hF', y0, y1, y2, y3, y4, y5, y6, y7, y8⟩ := Q2.out j x hx
          have hWu := next BB0.out HB.out
          have gC := D.zA0 (zNd x _ _ wt.drew (hF.below (zA5 hWu 1)) (hF'.below (zA5 hWu 1)))
          have HWU := D.zA0 hWu
          have ST : Hid (∀ W : World, Below wt.drew.heap.size wt.drew W → ((W.cell? ⟨w.heap.size, 4, none⟩ = some (.slice (some ⟨b, off, none⟩) nm_ c3) ∧ W.cell? ⟨w.heap.size + 1, 4, none⟩ = some (.slice (some ⟨b', off', none⟩) nm_ d3)) ∧ (W.cell? ⟨b, off + j * 9, none⟩ = some (.string x.nm) ∧ W.cell? ⟨b, off + j * 9 + 1, none⟩ = some (.string x.ds) ∧ W.cell? ⟨b, off + j * 9 + 2, none⟩ = some (.bool x.st) ∧ W.cell? ⟨b, off + j * 9 + 3, none⟩ = some (.bool x.nat) ∧ W.cell? ⟨b, off + j * 9 + 4, none⟩ = some (.int .i64 x.stk) ∧ W.cell? ⟨b, off + j * 9 + 5, none⟩ = some (.int .i64 x.loc) ∧ W.cell? ⟨b, off + j * 9 + 6, none⟩ = some (.slice a1 x.code.length e1) ∧ W.cell? ⟨b, off + j * 9 + 7, none⟩ = some (.slice a2 x.hs.length e2) ∧ W.cell? ⟨b, off + j * 9 + 8, none⟩ = some (.slice a3 x.rs.length e3)) ∧ (W.cell? ⟨b', off' + j * 9, none⟩ = some (.string x.nm) ∧ W.cell? ⟨b', off' + j * 9 + 1, none⟩ = some (.string x.ds) ∧ W.cell? ⟨b', off' + j * 9 + 2, none⟩ = some (.bool x.st) ∧ W.cell? ⟨b', off' + j * 9 + 3, none⟩ = some (.bool x.nat) ∧ W.cell? ⟨b', off' + j * 9 + 4, none⟩ = some (.int .i64 x.stk) ∧ W.cell? ⟨b', off' + j * 9 + 5, none⟩ = some (.int .i64 x.loc) ∧ W.cell? ⟨b', off' + j * 9 + 6, none⟩ = some (.slice a1' x.code.length e1') ∧ W.cell? ⟨b', off' + j * 9 + 7, none⟩ = some (.slice a2' x.hs.length e2') ∧ W.cell? ⟨b', off' + j * 9 + 8, none⟩ = some (.slice a3' x.rs.length e3')))) := fun W hW => by
           have hb : Below w.heap.size w W := next (zA5 HWU.out 1) hW
           have hx1 := (hW.block _ (Array.getElem?_eq_some_iff.1 x1).1).trans x1
           have hx2 := (hW.block _ (Array.getElem?_eq_some_iff.1 x2).1).trans x2
           exact ⟨⟨zA1 hx1 4 rfl, zA1 hx2 4 rfl⟩, ⟨cell_later hb z0, cell_later hb z1, cell_later hb z2, cell_later hb z3, cell_later hb z4, cell_later hb z5, cell_later hb z6, cell_later hb z7, cell_later hb z8⟩, ⟨cell_later hb y0, cell_later hb y1, cell_later hb y2, cell_later hb y3, cell_later hb y4, cell_later hb y5, cell_later hb y6, cell_later hb y7, cell_later hb y8⟩⟩
          have S0 := D.zA0 (ST.out wt.drew (Below.refl _ _))
          have HBd : Hid (Below X.heap.size X wt.drew) := zA5 HB.out 1
          clear hx Q1 Q2 hF hF' z0 z1 z2 z3 z4 z5 z6 z7 z8 y0 y1 y2 y3 y4 y5 y6 y7 y8 x1 x2 hWu
          generalize x.nm = x1 at *
          generalize x.ds = x2 at *
          generalize x.st = x3 at *
          generalize x.nat = x4 at *
          generalize x.stk = x5 at *
          generalize x.loc = x6 at *
          generalize x.code.length = xc at *
          generalize x.hs.length = xh at *
          generalize x.rs.length = xr at *
          go_wp2_with fail
          clear e4 e4'
          go_region_held3 (fun W => ((W.cell? ⟨w.heap.size, 4, none⟩ = some (.slice (some ⟨b, off, none⟩) nm_ c3) ∧ W.cell? ⟨w.heap.size + 1, 4, none⟩ = some (.slice (some ⟨b', off', none⟩) nm_ d3)) ∧ (W.cell? ⟨b, off + j * 9, none⟩ = some (.string x1) ∧ W.cell? ⟨b, off + j * 9 + 1, none⟩ = some (.string x2) ∧ W.cell? ⟨b, off + j * 9 + 2, none⟩ = some (.bool x3) ∧ W.cell? ⟨b, off + j * 9 + 3, none⟩ = some (.bool x4) ∧ W.cell? ⟨b, off + j * 9 + 4, none⟩ = some (.int .i64 x5) ∧ W.cell? ⟨b, off + j * 9 + 5, none⟩ = some (.int .i64 x6) ∧ W.cell? ⟨b, off + j * 9 + 6, none⟩ = some (.slice a1 xc e1) ∧ W.cell? ⟨b, off + j * 9 + 7, none⟩ = some (.slice a2 xh e2) ∧ W.cell? ⟨b, off + j * 9 + 8, none⟩ = some (.slice a3 xr e3)) ∧ (W.cell? ⟨b', off' + j * 9, none⟩ = some (.string x1) ∧ W.cell? ⟨b', off' + j * 9 + 1, none⟩ = some (.string x2) ∧ W.cell? ⟨b', off' + j * 9 + 2, none⟩ = some (.bool x3) ∧ W.cell? ⟨b', off' + j * 9 + 3, none⟩ = some (.bool x4) ∧ W.cell? ⟨b', off' + j * 9 + 4, none⟩ = some (.int .i64 x5) ∧ W.cell? ⟨b', off' + j * 9 + 5, none⟩ = some (.int .i64 x6) ∧ W.cell? ⟨b', off' + j * 9 + 6, none⟩ = some (.slice a1' xc e1') ∧ W.cell? ⟨b', off' + j * 9 + 7, none⟩ = some (.slice a2' xh e2') ∧ W.cell? ⟨b', off' + j * 9 + 8, none⟩ = some (.slice a3' xr e3')))) (first | exact S0.out | exact ST.out _ (by assumption))
           (first
            | (go_at_call 58; refine gC.out.mono ?_; rintro e w3 ⟨rfl, b3⟩))
          have HB3 : Hid (Below X.heap.size X w3) := next HBd.out b3
          clear b3 gC ST S0 HWU
          go_wp2
          exact ⟨⟨j + 1, by omega, by go_num, HB3.out⟩, by simp [intOf]; omega⟩
        · have h3 : ¬ (j : Int) < (nm_ : Int) := by omega
          have FF := D.zA0 (next BB0.out HB.out)
          go_wp2
          go_ret
          exact ⟨rfl, FF.out⟩
end Go.Proofs.YtpehimfnkmepnaaGreat.Q
