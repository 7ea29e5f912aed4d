import Derived.Test.YtpehimfnkmepnaaGreatBx19
set_option maxRecDepth 8000
set_option maxHeartbeats 40000000
namespace Go.Proofs.YtpehimfnkmepnaaGreat.Fr
open Go.RowKit Q Q.D K
def pc (c : CD) : P3.CD := ⟨c.kind, c.n, c.cls, c.nm, c.dsc⟩
theorem zMp (l : Bs) : (P3.D.meth l).isSome = (meth l).isSome := by
 rw [Bool.eq_iff_iff]
 constructor
 · intro h
   obtain ⟨⟨ps, r⟩, e⟩ := Option.isSome_iff_exists.1 h
   have := zIu (l := l) (ps := ps) (r := r) (P3.D.zGr e)
   rw [this]; rfl
 · intro h
   obtain ⟨⟨ps, r⟩, e⟩ := Option.isSome_iff_exists.1 h
   have := P3.D.zIu (l := l) (ps := ps) (r := r) (zGr e)
   rw [this]; rfl
theorem zQh (l : Bs) : (P3.D.zEr l).2 = (zEr l).2 := by
 unfold P3.D.zEr zEr
 rw [zFx]
theorem zP8 (c : CD) : P3.zB0 (pc c) = zB0 c := by
 have h1 : P3.zD3 (pc c) = zD3 c := by
  show (P3.D.zAw (bsB c.cls) && P3.D.zAw (bsB c.nm)) = (zAw (bsB c.cls) && zAw (bsB c.nm))
  rw [zE5, zE5]
 have h2 : P3.zBr (pc c).dsc = zBr c.dsc := by
  show ((P3.D.meth (bsB c.dsc)).isSome && decide (c.dsc.size ≤ 256)) = _
  rw [zMp]; rfl
 have h3 : P3.zFc (pc c).cls = zFc c.cls := by
  show ((P3.D.zEr (bsB c.cls)).2 || P3.D.zAw (bsB c.cls)) = _
  rw [zE5, zQh]; rfl
 have h4 : P3.D.zAp (P3.bsB (pc c).dsc) = zAp (bsB c.dsc) := zFx _
 unfold P3.zB0 zB0
 rw [h1, h2, h3, h4]
 rfl
def fOk (fs : List FD) (j : Nat) (f : FD) : Prop := zAw (bsB f.nm) = true ∧ zAp (bsB f.ds) = true ∧ ∀ t g, t < j → fs[t]? = some g → zHr f g = false
def mOk (ms : List MD) (j : Nat) (m : MD) : Prop := zAw (bsB m.nm) = true ∧ zBr m.ds = true ∧ (∀ t g, t < j → ms[t]? = some g → zHs m g = false) ∧ okM m
structure okK (k : KD) : Prop where
 n : zAw (bsB k.nm) = true
 s : (k.sup = ⟨#[]⟩) ∨ zAw (bsB k.sup) = true
 lp : k.pool.length ≤ 256
 lf : k.fs.length ≤ 16
 lm : k.ms.length ≤ 16
 p : ∀ c ∈ k.pool, zB0 c = true
 f : ∀ j f, k.fs[j]? = some f → fOk k.fs j f
 m : ∀ j m, k.ms[j]? = some m → mOk k.ms j m
theorem boxedD (W : World) (row : Array Value) : Blk ((W.alloc (.cells #[.string ⟨#[]⟩, .string ⟨#[]⟩, .bool false] 44)).setRow W.heap.size row) W.heap.size row 44 ∧ Below W.heap.size W ((W.alloc (.cells #[.string ⟨#[]⟩, .string ⟨#[]⟩, .bool false] 44)).setRow W.heap.size row) :=
 ⟨setRow_heap _ _ _ _ _ _ (Blk.new W _ _), zB5 (zA6 W _) (Nat.le_refl _) _⟩
theorem zRr (W : World) (row : Array Value) : Blk ((W.alloc (.cells #[.string ⟨#[]⟩, .string ⟨#[]⟩, .bool false, .bool false, .int .i64 0, .int .i64 0, .slice none 0 0, .slice none 0 0, .slice none 0 0] 39)).setRow W.heap.size row) W.heap.size row 39 ∧ Below W.heap.size W ((W.alloc (.cells #[.string ⟨#[]⟩, .string ⟨#[]⟩, .bool false, .bool false, .int .i64 0, .int .i64 0, .slice none 0 0, .slice none 0 0, .slice none 0 0] 39)).setRow W.heap.size row) :=
 ⟨setRow_heap _ _ _ _ _ _ (Blk.new W _ _), zB5 (zA6 W _) (Nat.le_refl _) _⟩
theorem zC9 {B : Nat} {a b : World} (h : Below B a b) (q : Nat) : Below B a (b.drewN q) := ⟨h.os, h.tape, h.output, h.size, h.block⟩
theorem rmethB (s : ByteArray) (w : World) (hs : s.size ≤ 1073741824) : Calls Tryz.prog 87 #[.string s] w fun e w' => (∃ v r, e = .returned (.tuple #[v, .string r, .bool (meth (bsB s)).isSome])) ∧ Below w.heap.size w w' := by
 refine (P3.D.zJ2 s w hs).mono ?_
 rintro e w' ⟨b, h⟩
 refine ⟨?_, b⟩
 have hm := zMp (bsB s)
 rcases h with ⟨ps, r, v, h1, h2, _⟩ | ⟨h1, h2⟩
 · rw [h1] at hm
   exact ⟨v, P3.D.str r, by rw [h2, ← hm]; rfl⟩
 · rw [h1] at hm
   exact ⟨_, _, by rw [h2, ← hm]; rfl⟩
theorem no_z {z : Int} {P : Prop} (hz : z ≠ 0) (h : ¬ P) : z = 0 ↔ P := ⟨fun e => absurd e hz, fun p => absurd p h⟩
theorem zM9 (k : KD) (cv : Value) (w : World) (hc : zAg w cv k) (hnat : ∀ m ∈ k.ms, m.nat = false) (hps : ∀ c ∈ k.pool, (pc c).Small) (hds : ∀ m ∈ k.ms, m.ds.size ≤ 1073741824) :
 Calls Tryz.prog 82 #[cv] w fun e w' => (∃ z : Int, e = .returned (.int .i64 z) ∧ (z = 0 ↔ okK k)) ∧ Below w.heap.size w w' := by
 obtain ⟨o1, c1, o2, c2, o3, c3, rfl, s1, s2, k1, k2, k3⟩ := hc
 obtain ⟨nm, sup, pool, fs, ms⟩ := k
 simp only at *
 have B1 := zA6 w (.cells #[.string nm, .string sup, .slice o1 pool.length c1, .slice o2 fs.length c2, .slice o3 ms.length c3] 31)
 have X1 := Blk.new w #[.string nm, .string sup, .slice o1 pool.length c1, .slice o2 fs.length c2, .slice o3 ms.length c3] 31
 have HK1 := D.zA0 (k1.below B1 (fun _ _ h => h))
 have HK2 := D.zA0 (k2.below B1 (fun _ _ h => h))
 have HK3 := D.zA0 (k3.below B1 (fun _ _ h => h.below B1))
 have HNat := D.zA0 hnat
 have HPs := D.zA0 hps
 have HDs := D.zA0 hds
 generalize hO : okK ⟨nm, sup, pool, fs, ms⟩ = OK at *
 have HO : Hid (okK ⟨nm, sup, pool, fs, ms⟩ = OK) := hO
 have GN1 := D.zA0 (fun W => P3.D.zDb nm W s1)
 have GN2 := D.zA0 (fun W => P3.D.zDb sup W s2)
 rw [zE5] at GN1 GN2
 clear k1 k2 k3 hO hnat hps hds
 go_enter Tryz.func82, Tryz.ntmps82
 go_upto_region 1 with (fail)
 generalize w.alloc (.cells #[.string nm, .string sup, .slice o1 pool.length c1, .slice o2 fs.length c2, .slice o3 ms.length c3] 31) = W1 at *
 have x0 := X1.cell 0
 have x1 := X1.cell 1
 have x2 := X1.cell 2
 have x3 := X1.cell 3
 have x4 := X1.cell 4
 simp at x0 x1 x2 x3 x4
 have HB1 := D.zA0 B1
 have HX1 := D.zA0 X1
 clear B1 X1
 cases en : zAw nm.data.toList
 · rw [en] at GN1
   go_wp2_with (first | (go_at_call 121; refine (GN1.out _).mono ?_; rintro e w' ⟨rfl, hww⟩; cases hww))
   go_ret
   exact ⟨⟨_, rfl, no_z (by decide) (fun h => by have := (show okK _ by rw [HO.out]; exact h).n; rw [show zAw (bsB nm) = false from en] at this; cases this)⟩, HB1.out⟩
 rw [en] at GN1
 have HEN : Hid (zAw (bsB nm) = true) := en
 clear en
 have NO : Hid (∀ {z : Int}, z ≠ 0 → (okK ⟨nm, sup, pool, fs, ms⟩ → False) → (z = 0 ↔ OK)) := fun hz h => no_z hz (fun p => h (by rw [HO.out]; exact p))
 by_cases h0 : sup = ⟨#[]⟩
 case' neg =>
  have q0 : (sup.toList == []) = false := by
   rw [beq_eq_false_iff_ne]
   intro e
   apply h0
   rw [Lib.toList_data] at e
   cases sup with
   | mk d => simp at e; rw [e]
  cases es : zAw sup.data.toList
  · rw [es] at GN2
    go_wp2_with (first | (go_at_call 121; refine (GN1.out _).mono ?_; rintro e w' ⟨rfl, hww⟩; cases hww; clear GN1) | (go_at_call 121; refine (GN2.out _).mono ?_; rintro e w' ⟨rfl, hww⟩; cases hww))
    go_ret
    exact ⟨⟨_, rfl, NO.out (by decide) (fun h => by rcases h.s with h' | h'; exact h0 h'; rw [show zAw (bsB sup) = false from es] at h'; cases h')⟩, HB1.out⟩
  rw [es] at GN2
  have HSU : Hid ((sup = ⟨#[]⟩) ∨ zAw (bsB sup) = true) := .inr es
  go_upto_region 3 with (first | (go_at_call 121; refine (GN1.out _).mono ?_; rintro e w' ⟨rfl, hww⟩; cases hww; clear GN1) | (go_at_call 121; refine (GN2.out _).mono ?_; rintro e w' ⟨rfl, hww⟩; cases hww))
  clear GN2 q0 es h0
 case' pos =>
  have HSU : Hid ((sup = ⟨#[]⟩) ∨ zAw (bsB sup) = true) := .inl h0
  rw [h0] at x1
  go_upto_region 3 with (first | (go_at_call 121; refine (GN1.out _).mono ?_; rintro e w' ⟨rfl, hww⟩; cases hww))
  clear GN1 GN2 h0
 all_goals
  clear x0 x1
  by_cases a1 : (pool.length : Int) > 256
  · go_wp2_with fail
    go_ret
    exact ⟨⟨_, rfl, NO.out (by decide) (fun h => by have := h.lp; simp only at this; omega)⟩, HB1.out⟩
  by_cases a2 : (fs.length : Int) > 16
  · go_wp2_with fail
    go_ret
    exact ⟨⟨_, rfl, NO.out (by decide) (fun h => by have := h.lf; simp only at this; omega)⟩, HB1.out⟩
  by_cases a3 : (ms.length : Int) > 16
  · go_wp2_with fail
    go_ret
    exact ⟨⟨_, rfl, NO.out (by decide) (fun h => by have := h.lm; simp only at this; omega)⟩, HB1.out⟩
  go_upto_region 6 with (fail)
  clear x3 x4
  go_loopw [3] (fun iv wr => ∃ i : Nat, iv = .int .i64 (i : Int) ∧ i ≤ pool.length ∧ Below W1.heap.size W1 wr ∧ ∀ c ∈ pool.take i, zB0 c = true) (fun iv _ => pool.length - (intOf iv).toNat)
  case atStart => exact ⟨0, rfl, Nat.zero_le _, Below.refl _ _, by simp⟩
  case round =>
   obtain ⟨i, rfl, hi, hb, hall⟩ := hrel
   have HB := D.zA0 hb
   have HPL := D.zA0 hall
   have x2 := (HX1.out.below hb).cell 2
   simp at x2
   by_cases hlt : i < pool.length
   · have hlt' : (i : Int) < (pool.length : Int) := by omega
     obtain ⟨b, off, r, e, ⟨er, _⟩, d⟩ := zDd (HK1.out.below hb (fun _ _ h => h)) i hlt
     subst e
     have hmem : pool[i] ∈ pool := List.getElem_mem hlt
     have hnx : (∀ h ∈ pool.take (i + 1), zB0 h = true) ↔ zB0 pool[i] = true := by
      rw [List.take_add_one, List.getElem?_eq_getElem hlt]
      simp only [Option.toList_some, List.mem_append, List.mem_singleton]
      exact ⟨fun h => h _ (.inr rfl), fun h x hx => hx.elim (fun hx => hall x hx) (fun e => e ▸ h)⟩
     have HNX := D.zA0 hnx
     clear hnx hall
     have GR := D.zA0 (fun W => P3.zK0 (pc pool[i]) W (HPs.out _ hmem))
     rw [zP8] at GR
     generalize pool[i] = x at *
     obtain ⟨ki, n, cl, cn, cd⟩ := x
     simp only [CD.cells] at er
     subst er
     have d0 := d 0 _ rfl
     have d1 := d 1 _ rfl
     have d2 := d 2 _ rfl
     have d3 := d 3 _ rfl
     have d4 := d 4 _ rfl
     rw [Nat.add_zero] at d0
     have HM := D.zA0 hmem
     have GR2 : Hid (∀ W, Calls Tryz.prog 122 #[.agg #[.int .i64 ki, .int .i32 n, .string cl, .string cn, .string cd]] W fun e w' => e = .returned (.bool (zB0 ⟨ki, n, cl, cn, cd⟩)) ∧ Below W.heap.size W w') := GR.out
     clear hmem d hb GR
     cases er : zB0 ⟨ki, n, cl, cn, cd⟩
     · rw [er] at GR2
       go_wp2_with (first | (go_at_call 122; refine (GR2.out _).mono ?_; rintro e w2 ⟨rfl, b2⟩))
       go_ret
       exact ⟨⟨_, rfl, NO.out (by decide) (fun h => by have := h.p _ HM.out; rw [er] at this; cases this)⟩, HB1.out.trans ((HB.out.trans (b2.mono HB.out.size)).mono HB1.out.size)⟩
     rw [er] at GR2
     go_wp2_with (first | (go_at_call 122; refine (GR2.out _).mono ?_; rintro e w2 ⟨rfl, b2⟩))
     exact ⟨⟨i + 1, by go_num, by omega, HB.out.trans (b2.mono HB.out.size), HNX.out.2 er⟩, by simp [intOf]; omega⟩
   · have hlt' : ¬ (i : Int) < (pool.length : Int) := by omega
     obtain rfl : i = pool.length := by omega
     rw [List.take_length] at HPL
     have HB1' := D.zA0 (HB1.out.trans (hb.mono HB1.out.size))
     have HXr := D.zA0 (HX1.out.below hb)
     have HKf := D.zA0 (HK2.out.below hb (fun _ _ h => h))
     have HKm := D.zA0 (HK3.out.below hb (fun _ _ h => h.below hb))
     clear HB1 HX1 HK1 HK2 HK3 hb hall HB
     go_upto_region 11 with (fail)
     clear x2
     obtain ⟨Wb, hWb⟩ : ∃ W, W = wr := ⟨_, rfl⟩
     subst hWb
     go_loopw [4] (fun iv wr => ∃ i : Nat, iv = .int .i64 (i : Int) ∧ i ≤ fs.length ∧ Below Wb.heap.size Wb wr ∧ ∀ j f, fs[j]? = some f → j < i → fOk fs j f) (fun iv _ => fs.length - (intOf iv).toNat)
     case atStart => exact ⟨0, rfl, Nat.zero_le _, Below.refl _ _, fun j f _ h => absurd h (by omega)⟩
     case round =>
      obtain ⟨i, rfl, hi, hb, hall⟩ := hrel
      have HB := D.zA0 hb
      have HFA := D.zA0 hall
      have x3 := (HXr.out.below hb).cell 3
      simp at x3
      clear hall
      by_cases hlt : i < fs.length
      · have hlt' : (i : Int) < (fs.length : Int) := by omega
        obtain ⟨b, off, r, e, ⟨er, hz1, hz2⟩, d⟩ := zDd (HKf.out.below hb (fun _ _ h => h)) i hlt
        subst e
        have hfi : fs[i]? = some fs[i] := List.getElem?_eq_getElem hlt
        have HFI := D.zA0 hfi
        clear hfi
        generalize fs[i] = x at *
        obtain ⟨fn, fd, ft⟩ := x
        simp only at er hz1 hz2
        subst er
        have d0 := d 0 _ rfl
        have d1 := d 1 _ rfl
        have d2 := d 2 _ rfl
        rw [Nat.add_zero] at d0
        obtain ⟨HX, bx⟩ := boxedD wr #[.string fn, .string fd, .bool ft]
        have HBX := D.zA0 (hb.trans (bx.mono hb.size))
        have HXF := D.zA0 HX
        have G1 := D.zA0 (fun W => P3.D.zDb fn W hz1)
        have G2 := D.zA0 (fun W => P3.D.zEn fd W hz2)
        rw [zE5] at G1
        rw [zFx] at G2
        clear d hb bx HX
        go_upto_region 14 with (refine wpList_store_row rfl 44 _ _ rfl wr.heap.size #[.string fn, .string fd, .bool ft] rfl rfl 44 _ (Blk.new wr _ _) (by kernel_rfl) rfl (by simp [Value.oneCell']) ?_)
        generalize (wr.alloc (.cells #[.string ⟨#[]⟩, .string ⟨#[]⟩, .bool false] 44)).setRow wr.heap.size #[.string fn, .string fd, .bool ft] = W3 at *
        have y0 := HXF.out.cell 0
        have y1 := HXF.out.cell 1
        simp at y0 y1
        cases e1 : zAw fn.data.toList
        · rw [e1] at G1
          go_wp2_with (first | (go_at_call 121; refine (G1.out _).mono ?_; rintro e w' ⟨rfl, hww⟩; cases hww))
          go_ret
          exact ⟨⟨_, rfl, NO.out (by decide) (fun h => by have := (h.f _ _ HFI.out).1; rw [show zAw (bsB fn) = false from e1] at this; cases this)⟩, HB1'.out.trans (HBX.out.mono HB1'.out.size)⟩
        cases e2 : zAp fd.data.toList
        · rw [e1] at G1
          rw [e2] at G2
          go_wp2_with (first | (go_at_call 121; refine (G1.out _).mono ?_; rintro e w' ⟨rfl, hww⟩; cases hww) | (go_at_call 118; refine (G2.out _).mono ?_; rintro e w' ⟨rfl, hww⟩; cases hww))
          go_ret
          exact ⟨⟨_, rfl, NO.out (by decide) (fun h => by have := (h.f _ _ HFI.out).2.1; rw [show zAp (bsB fd) = false from e2] at this; cases this)⟩, HB1'.out.trans (HBX.out.mono HB1'.out.size)⟩
        rw [e1] at G1
        rw [e2] at G2
        have HE1 : Hid (zAw (bsB fn) = true) := e1
        have HE2 : Hid (zAp (bsB fd) = true) := e2
        clear e1 e2
        go_upto_region 17 with (first | (go_at_call 121; refine (G1.out _).mono ?_; rintro e w' ⟨rfl, hww⟩; cases hww) | (go_at_call 118; refine (G2.out _).mono ?_; rintro e w' ⟨rfl, hww⟩; cases hww))
        clear y0 y1 G1 G2
        obtain ⟨Wx, hWx⟩ : ∃ W, W = wr := ⟨_, rfl⟩
        subst hWx
        go_loopw [6] (fun iv wr => ∃ t : Nat, iv = .int .i64 (t : Int) ∧ t ≤ i ∧ Below W3.heap.size W3 wr ∧ ∀ u g, u < t → fs[u]? = some g → zHr ⟨fn, fd, ft⟩ g = false) (fun iv _ => i - (intOf iv).toNat)
        case atStart => exact ⟨0, rfl, Nat.zero_le _, Below.refl _ _, fun u g h => absurd h (by omega)⟩
        case round =>
         obtain ⟨t, rfl, ht, hb2, hal2⟩ := hrel
         have HB2 := D.zA0 hb2
         have HA2 := D.zA0 hal2
         have bb := HBX.out.trans (hb2.mono HBX.out.size)
         have HBB := D.zA0 bb
         have x3 := (HXr.out.below bb).cell 3
         have y0 := (HXF.out.below hb2).cell 0
         have y1 := (HXF.out.below hb2).cell 1
         simp at x3 y0 y1
         clear hal2
         by_cases hlt2 : t < i
         · have hlt2' : (t : Int) < (i : Int) := by omega
           have hltf : t < fs.length := by omega
           have hltf' : (t : Int) < (fs.length : Int) := by omega
           obtain ⟨b2, off2, r2, e2, ⟨er2, _, _⟩, d2⟩ := zDd (HKf.out.below bb (fun _ _ h => h)) t hltf
           cases e2
           have hft : fs[t]? = some fs[t] := List.getElem?_eq_getElem hltf
           have HFT := D.zA0 hft
           clear hft
           generalize fs[t] = x at *
           obtain ⟨gn, gd, gt⟩ := x
           simp only at er2
           subst er2
           have p0 := d2 0 _ rfl
           have p1 := d2 1 _ rfl
           rw [Nat.add_zero] at p0
           have hsm : Hid (zHr ⟨fn, fd, ft⟩ ⟨gn, gd, gt⟩ = ((gn.toList == fn.toList) && (gd.toList == fd.toList))) := rfl
           clear d2 hb2 bb
           have hnext : Hid (zHr ⟨fn, fd, ft⟩ ⟨gn, gd, gt⟩ = false → ∀ u g, u < t + 1 → fs[u]? = some g → zHr ⟨fn, fd, ft⟩ g = false) := fun h u g hu hg => by
            by_cases e : u = t
            · subst e
              rw [HFT.out] at hg
              cases hg
              exact h
            · exact HA2.out u g (by omega) hg
           cases q1 : (gn.toList == fn.toList)
           · rw [q1] at hsm
             go_wp2_with fail
             go_quiet (fail)
             go_wp2_with fail
             go_roundw
             case rel => exact ⟨t + 1, by go_num, by omega, zC9 HB2.out _, hnext.out hsm.out⟩
             case measure => simp [intOf]; omega
           · cases q2 : (gd.toList == fd.toList)
             · rw [q1, q2] at hsm
               go_wp2_with fail
               go_quiet (fail)
               go_wp2_with fail
               go_roundw
               case rel => exact ⟨t + 1, by go_num, by omega, zC9 HB2.out _, hnext.out hsm.out⟩
               case measure => simp [intOf]; omega
             · rw [q1, q2] at hsm
               go_wp2_with fail
               go_quiet (fail)
               go_wp2_with fail
               go_ret
               exact ⟨⟨_, rfl, NO.out (by decide) (fun h => by have := (h.f _ _ HFI.out).2.2 t _ hlt2 HFT.out; rw [hsm.out] at this; cases this)⟩, zC9 (HB1'.out.trans (HBB.out.mono HB1'.out.size)) _⟩
         · have hlt2' : ¬ (t : Int) < (i : Int) := by omega
           obtain rfl : t = i := by omega
           go_wp2_with fail
           go_roundw
           case rel =>
            refine ⟨t + 1, by go_num, by omega, HBB.out, fun j f hj hlt3 => ?_⟩
            by_cases e : j = t
            · subst e
              rw [HFI.out] at hj
              cases hj
              exact ⟨HE1.out, HE2.out, HA2.out⟩
            · exact HFA.out j f hj (by omega)
           case measure => simp [intOf]; omega
      · have hlt' : ¬ (i : Int) < (fs.length : Int) := by omega
        obtain rfl : i = fs.length := by omega
        have HFS : Hid (∀ j f, fs[j]? = some f → fOk fs j f) := fun j f hj => HFA.out j f hj (List.getElem?_eq_some_iff.1 hj).1
        have HB2' := D.zA0 (HB1'.out.trans (hb.mono HB1'.out.size))
        have HXs := D.zA0 (HXr.out.below hb)
        have HKm := D.zA0 (HKm.out.below hb (fun _ _ h => h.below hb))
        clear HB1' HXr HKf hb HB HFA
        go_upto_region 22 with (fail)
        clear x3
        obtain ⟨Wc, hWc⟩ : ∃ W, W = wr := ⟨_, rfl⟩
        subst hWc
        go_loopw [7] (fun iv wr => ∃ i : Nat, iv = .int .i64 (i : Int) ∧ i ≤ ms.length ∧ Below Wc.heap.size Wc wr ∧ ∀ j m, ms[j]? = some m → j < i → mOk ms j m) (fun iv _ => ms.length - (intOf iv).toNat)
        case atStart => exact ⟨0, rfl, Nat.zero_le _, Below.refl _ _, fun j f _ h => absurd h (by omega)⟩
        case round =>
         obtain ⟨i, rfl, hi, hb, hall⟩ := hrel
         have HB := D.zA0 hb
         have HMA := D.zA0 hall
         have x4 := (HXs.out.below hb).cell 4
         simp at x4
         clear hall
         by_cases hlt : i < ms.length
         · have hlt' : (i : Int) < (ms.length : Int) := by omega
           obtain ⟨b, off, r, e, hMR, d⟩ := zDd (HKm.out.below hb (fun _ _ h => h.below hb)) i hlt
           subst e
           have hfi : ms[i]? = some ms[i] := List.getElem?_eq_getElem hlt
           have HFI := D.zA0 hfi
           have hmn := HNat.out _ (List.getElem_mem hlt)
           have hmd := HDs.out _ (List.getElem_mem hlt)
           clear hfi
           generalize ms[i] = x at *
           have hMR' := hMR
           obtain ⟨j1, i1, j2, i2, j3, i3, er, hz1, hz2, _, _, _⟩ := hMR'
           obtain ⟨fn, fd, ft, fnat, fk, fc, code, hs, rs⟩ := x
           simp only at er hz1 hz2 hmn hmd
           subst hmn
           subst er
           have d0 := d 0 _ rfl
           have d1 := d 1 _ rfl
           have d2 := d 2 _ rfl
           have d3 := d 3 _ rfl
           have d4 := d 4 _ rfl
           have d5 := d 5 _ rfl
           have d6 := d 6 _ rfl
           have d7 := d 7 _ rfl
           have d8 := d 8 _ rfl
           rw [Nat.add_zero] at d0
           obtain ⟨HX, bx⟩ := zRr wr #[.string fn, .string fd, .bool ft, .bool false, .int .i64 fk, .int .i64 fc, .slice j1 code.length i1, .slice j2 hs.length i2, .slice j3 rs.length i3]
           have HBX := D.zA0 (hb.trans (bx.mono hb.size))
           have HXF := D.zA0 HX
           have HMR := D.zA0 (hMR.below bx)
           have G1 := D.zA0 (fun W => P3.D.zDb fn W hz1)
           have G2 := D.zA0 (fun W => rmethB fd W hmd)
           rw [zE5] at G1
           clear d hb bx HX hMR
           go_upto_region 25 with (refine wpList_store_row rfl 39 _ _ rfl wr.heap.size #[.string fn, .string fd, .bool ft, .bool false, .int .i64 fk, .int .i64 fc, .slice j1 code.length i1, .slice j2 hs.length i2, .slice j3 rs.length i3] rfl rfl 39 _ (Blk.new wr _ _) (by kernel_rfl) rfl (by simp [Value.oneCell']) ?_)
           clear d0 d1 d2 d3 d4 d5 d6 d7 d8
           generalize (wr.alloc (.cells #[.string ⟨#[]⟩, .string ⟨#[]⟩, .bool false, .bool false, .int .i64 0, .int .i64 0, .slice none 0 0, .slice none 0 0, .slice none 0 0] 39)).setRow wr.heap.size #[.string fn, .string fd, .bool ft, .bool false, .int .i64 fk, .int .i64 fc, .slice j1 code.length i1, .slice j2 hs.length i2, .slice j3 rs.length i3] = W3 at *
           have y1 := HXF.out.cell 1
           simp at y1
           go_upto_region 26 with (first | (go_at_call 87; refine (G2.out _).mono ?_; rintro e W4 ⟨⟨vv, rr, rfl⟩, b4⟩))
           have HBX := D.zA0 (HBX.out.trans (b4.mono HBX.out.size))
           have HXF := D.zA0 (HXF.out.below b4)
           have HMR := D.zA0 (HMR.out.below b4)
           clear y1 b4 G2
           have y0 := HXF.out.cell 0
           have y1 := HXF.out.cell 1
           simp at y0 y1
           have hmb : Hid (zBr fd = ((meth (bsB fd)).isSome && decide (fd.size ≤ 256))) := rfl
           cases e1 : zAw fn.data.toList
           · rw [e1] at G1
             go_wp2_with (first | (go_at_call 121; refine (G1.out _).mono ?_; rintro e w' ⟨rfl, hww⟩; cases hww))
             go_ret
             exact ⟨⟨_, rfl, NO.out (by decide) (fun h => by have := (h.m _ _ HFI.out).1; rw [show zAw (bsB fn) = false from e1] at this; cases this)⟩, HB2'.out.trans (HBX.out.mono HB2'.out.size)⟩
           rw [e1] at G1
           have HE1 : Hid (zAw (bsB fn) = true) := e1
           clear e1
           cases e2 : (meth (bsB fd)).isSome
           · rw [e2] at hmb
             go_wp2_with (first | (go_at_call 121; refine (G1.out _).mono ?_; rintro e w' ⟨rfl, hww⟩; cases hww))
             go_ret
             exact ⟨⟨_, rfl, NO.out (by decide) (fun h => by have := (h.m _ _ HFI.out).2.1; rw [hmb.out] at this; cases this)⟩, HB2'.out.trans (HBX.out.mono HB2'.out.size)⟩
           by_cases e3 : (fd.size : Int) > 256
           · rw [e2, decide_eq_false (by omega)] at hmb
             go_wp2_with (first | (go_at_call 121; refine (G1.out _).mono ?_; rintro e w' ⟨rfl, hww⟩; cases hww))
             go_ret
             exact ⟨⟨_, rfl, NO.out (by decide) (fun h => by have := (h.m _ _ HFI.out).2.1; rw [hmb.out] at this; cases this)⟩, HB2'.out.trans (HBX.out.mono HB2'.out.size)⟩
           rw [e2, decide_eq_true (by omega)] at hmb
           go_upto_region 29 with (first | (go_at_call 121; refine (G1.out _).mono ?_; rintro e w' ⟨rfl, hww⟩; cases hww))
           clear y0 y1 G1 e2 e3
           obtain ⟨Wx, hWx⟩ : ∃ W, W = wr := ⟨_, rfl⟩
           subst hWx
           go_loopw [12] (fun iv wr => ∃ t : Nat, iv = .int .i64 (t : Int) ∧ t ≤ i ∧ Below W4.heap.size W4 wr ∧ ∀ u g, u < t → ms[u]? = some g → zHs ⟨fn, fd, ft, false, fk, fc, code, hs, rs⟩ g = false) (fun iv _ => i - (intOf iv).toNat)
           case atStart => exact ⟨0, rfl, Nat.zero_le _, Below.refl _ _, fun u g h => absurd h (by omega)⟩
           case round =>
            obtain ⟨t, rfl, ht, hb2, hal2⟩ := hrel
            have HB2 := D.zA0 hb2
            have HA2 := D.zA0 hal2
            have bb := HBX.out.trans (hb2.mono HBX.out.size)
            have HBB := D.zA0 bb
            have x4 := (HXs.out.below bb).cell 4
            have y0 := (HXF.out.below hb2).cell 0
            have y1 := (HXF.out.below hb2).cell 1
            simp at x4 y0 y1
            clear hal2
            by_cases hlt2 : t < i
            · have hlt2' : (t : Int) < (i : Int) := by omega
              have hltf : t < ms.length := by omega
              have hltf' : (t : Int) < (ms.length : Int) := by omega
              obtain ⟨b2, off2, r2, e2, ⟨_, _, _, _, _, _, er2, _⟩, d2⟩ := zDd (HKm.out.below bb (fun _ _ h => h.below bb)) t hltf
              cases e2
              have hft : ms[t]? = some ms[t] := List.getElem?_eq_getElem hltf
              have HFT := D.zA0 hft
              clear hft
              generalize ms[t] = x at *
              subst er2
              have p0 := d2 0 _ rfl
              have p1 := d2 1 _ rfl
              rw [Nat.add_zero] at p0
              have hsm : Hid (zHs ⟨fn, fd, ft, false, fk, fc, code, hs, rs⟩ x = ((x.nm.toList == fn.toList) && (x.ds.toList == fd.toList))) := rfl
              clear d2 hb2 bb
              have hnext : Hid (zHs ⟨fn, fd, ft, false, fk, fc, code, hs, rs⟩ x = false → ∀ u g, u < t + 1 → ms[u]? = some g → zHs ⟨fn, fd, ft, false, fk, fc, code, hs, rs⟩ g = false) := fun h u g hu hg => by
               by_cases e : u = t
               · subst e
                 rw [HFT.out] at hg
                 cases hg
                 exact h
               · exact HA2.out u g (by omega) hg
              cases q1 : (x.nm.toList == fn.toList)
              · rw [q1] at hsm
                go_wp2_with fail
                go_quiet (fail)
                go_wp2_with fail
                go_roundw
                case rel => exact ⟨t + 1, by go_num, by omega, zC9 HB2.out _, hnext.out hsm.out⟩
                case measure => simp [intOf]; omega
              · cases q2 : (x.ds.toList == fd.toList)
                · rw [q1, q2] at hsm
                  go_wp2_with fail
                  go_quiet (fail)
                  go_wp2_with fail
                  go_roundw
                  case rel => exact ⟨t + 1, by go_num, by omega, zC9 HB2.out _, hnext.out hsm.out⟩
                  case measure => simp [intOf]; omega
                · rw [q1, q2] at hsm
                  go_wp2_with fail
                  go_quiet (fail)
                  go_wp2_with fail
                  go_ret
                  exact ⟨⟨_, rfl, NO.out (by decide) (fun h => by have := (h.m _ _ HFI.out).2.2.1 t _ hlt2 HFT.out; rw [hsm.out] at this; cases this)⟩, zC9 (HB2'.out.trans (HBB.out.mono HB2'.out.size)) _⟩
            · have hlt2' : ¬ (t : Int) < (i : Int) := by omega
              obtain rfl : t = i := by omega
              have hfx := HXF.out.below hb2
              have y2 := hfx.cell 2
              have y3 := hfx.cell 3
              have y4 := hfx.cell 4
              have y5 := hfx.cell 5
              have y6 := hfx.cell 6
              have y7 := hfx.cell 7
              have y8 := hfx.cell 8
              simp at y2 y3 y4 y5 y6 y7 y8
              have G3 := D.zA0 (zR4 ⟨fn, fd, ft, false, fk, fc, code, hs, rs⟩ [.string fn, .string fd, .bool ft, .bool false, .int .i64 fk, .int .i64 fc, .slice j1 code.length i1, .slice j2 hs.length i2, .slice j3 rs.length i3] wr (HMR.out.below hb2) rfl)
              clear hfx x4
              go_upto_region 34 with (first | (go_at_call 123; refine G3.out.mono ?_; rintro e w6 ⟨⟨z, rfl, hz⟩, b6⟩))
              have B6 := HBB.out.trans (b6.mono HBB.out.size)
              clear G3 y0 y1 y2 y3 y4 y5 y6 y7 y8
              by_cases hz0 : z = 0
              · subst hz0
                have HOM := D.zA0 (hz.1 rfl)
                clear hz
                go_wp2_with fail
                go_roundw
                case rel =>
                 refine ⟨t + 1, by go_num, by omega, B6, fun j f hj hlt3 => ?_⟩
                 by_cases e : j = t
                 · subst e
                   rw [HFI.out] at hj
                   cases hj
                   exact ⟨HE1.out, hmb.out, HA2.out, HOM.out⟩
                 · exact HMA.out j f hj (by omega)
                case measure => simp [intOf]; omega
              · have hz0' : (z == 0) = false := by simpa using hz0
                have HNZ := D.zA0 (fun h => hz0 (hz.2 h))
                have HZ0 := D.zA0 hz0
                clear hz
                go_wp2_with fail
                go_ret
                exact ⟨⟨_, rfl, NO.out HZ0.out (fun h => HNZ.out (h.m _ _ HFI.out).2.2.2)⟩, HB2'.out.trans (B6.mono HB2'.out.size)⟩
         · have hlt' : ¬ (i : Int) < (ms.length : Int) := by omega
           obtain rfl : i = ms.length := by omega
           go_wp2_with fail
           go_ret
           exact ⟨⟨_, rfl, ⟨fun _ => by rw [← HO.out]; exact ⟨HEN.out, HSU.out, by simp only; omega, by simp only; omega, by simp only; omega, HPL.out, HFS.out, fun j m hj => HMA.out j m hj (List.getElem?_eq_some_iff.1 hj).1⟩, fun _ => rfl⟩⟩, HB2'.out.trans (HB.out.mono HB2'.out.size)⟩
end Go.Proofs.YtpehimfnkmepnaaGreat.Fr
