import Derived.Test.YtpehimfnkmepnaaGreatBx21
import Derived.Test.YtpehimfnkmepnaaGreatBx42
set_option maxRecDepth 8000
set_option maxHeartbeats 40000000
namespace Go.Proofs.YtpehimfnkmepnaaGreat.Fr
open Go.RowKit Q Q.D K
abbrev zPr := (#[.string ⟨#[]⟩, .string ⟨#[]⟩, .bool false, .bool false, .int .i64 0, .int .i64 0, .slice none 0 0, .slice none 0 0, .slice none 0 0] : Array Value)
abbrev zJt := (#[.string ⟨#[]⟩, .string ⟨#[]⟩, .slice none 0 0, .slice none 0 0, .slice none 0 0] : Array Value)
def offR (pw : Nat) (v : Value) (b : Nat) : Bool := (b != pw) && (v.ownBlock != some b)
theorem zF1 {pw : Nat} {v : Value} {b : Nat} : offR pw v b = true ↔ b ≠ pw ∧ v.ownBlock ≠ some b := by simp [offR]
structure RKO (n0 : Nat) (W : World) (pw : Nat) (v : Value) (R : List KD) (rows : Nat → List Value) : Prop where
 hpw : n0 ≤ pw
 box : Blk W pw #[v] 127
 own : W.ownsRow n0 31 5 v R.length (zAv rows R.length)
 k : ∀ j, j < R.length → (rows j).length = 5
 cls : ∀ j x, R.reverse[j]? = some x → zAg (K.seen (offR pw v) W) (.agg (rows j).toArray) x
structure zKl (pw : Nat) (v : Value) (W W' : World) : Prop where
 os : W'.os = W.os
 tape : W'.tape = W.tape
 output : W'.output = W.output
 size : W.heap.size ≤ W'.heap.size
 block : ∀ b, b < W.heap.size → b ≠ pw → v.ownBlock ≠ some b → W'.heap[b]? = W.heap[b]?
theorem RKO.below {n0 : Nat} {W W' : World} {pw : Nat} {v : Value} {R : List KD} {rows : Nat → List Value} (h : RKO n0 W pw v R rows) (hb : Below W.heap.size W W') : RKO n0 W' pw v R rows :=
 ⟨h.hpw, h.box.below hb, zCc h.own hb, h.k, fun j x hx => zAg.ext' (zAf hb.size (fun b hb' hx => ⟨hx, hb.block b hb'⟩)) (h.cls j x hx)⟩
theorem RKO.view {n0 : Nat} {W : World} {pw : Nat} {v : Value} {R : List KD} {rows : Nat → List Value} (h : RKO n0 W pw v R rows) : ∃ ao c, v = .slice ao R.length c ∧ RV W pw R.reverse ao c := by
 obtain ⟨ao, c, rfl, l1, l2, hr⟩ := zB9 h.own h.k
 refine ⟨ao, c, rfl, h.box.lt, ?_, ?_⟩
 · rw [h.box.cell 0]; simp
 · refine ⟨by simpa using l1, l2, rows, by simpa using zAo.ext hr (zF6 _ _), fun i x hx => zAg.ext' (zF6 _ _) (h.cls i x hx)⟩
def zOa (n0 : Nat) (w : World) (pw : Nat) (v : Value) (R : List KD) (rows : Nat → List Value) (k : KD) (e : Ending) (w' : World) : Prop :=
 ∃ z : Int, e = .returned (.int .i64 z) ∧ (z = 0 ↔ zG3 R k = 0) ∧ (if zG3 R k = 0 then ∃ v' row, RKO n0 w' pw v' (k :: R) (fun j => if j < R.length then rows j else row) ∧ zKl pw v w w' ∧ (∀ g, v'.ownBlock = some g → v.ownBlock = some g ∨ w.heap.size ≤ g) ∧ zAg (K.seen (fun b => offR pw v' b && newB w.heap.size b) w') (.agg row.toArray) k else Below w.heap.size w w')
theorem zM3 {rows rows' : Nat → List Value} : ∀ {n : Nat}, (∀ j, j < n → rows j = rows' j) → zAv rows n = zAv rows' n
 | 0, _ => rfl
 | n + 1, h => by rw [zC2, zC2, zM3 (fun j hj => h j (by omega)), h n (by omega)]
def MBox (w0 wx : World) (FM : Option MD) (s13 s14 : Value) : Prop := ∃ b a0 a1 st a3 a4 a5 a6 a7 a8 has, s13 = .pointer (some ⟨b, 0, none⟩) ∧ s14 = .bool has ∧ Blk wx b #[a0, a1, .bool st, a3, a4, a5, a6, a7, a8] 39 ∧ Below w0.heap.size w0 wx ∧ (has, st) = (match FM with | none => (false, false) | some y => (true, y.st))
theorem RKO.push {n0 : Nat} {w W W' W2 : World} {pw : Nat} {v v' : Value} {R : List KD} {rows : Nat → List Value} {k : KD} {row : List Value} (h : RKO n0 W pw v R rows) (hw : Below w.heap.size w W) (hpw : pw < w.heap.size) (hvw : ∀ g, v.ownBlock = some g → g < w.heap.size) (hl : row.length = 5) (hc : zAg (K.seen (newB w.heap.size) W) (.agg row.toArray) k)
 (ho : W'.ownsRow n0 31 5 v' (R.length + 1) (zAv rows R.length ++ row)) (hg : W.grownBy W' v.ownBlock) (hat : v'.ownBlock = v.ownBlock ∨ v'.ownBlock = some W.heap.size) (e2 : W2 = W'.setCell ⟨pw, 0, none⟩ v') :
 RKO n0 W2 pw v' (k :: R) (fun j => if j < R.length then rows j else row) ∧ zKl pw v w W2 ∧ (∀ g, v'.ownBlock = some g → v.ownBlock = some g ∨ w.heap.size ≤ g) ∧ zAg (K.seen (fun b => offR pw v' b && newB w.heap.size b) W2) (.agg row.toArray) k := by
 subst e2
 have hsz := hw.size
 have hvpw : v.ownBlock ≠ some pw := zAx h.own h.box (by decide)
 have X3 : Blk W' pw #[v] 127 := (hg.block pw h.box.lt (fun e => hvpw e.symm)).trans h.box
 have hv'pw : v'.ownBlock ≠ some pw := zAx ho X3 (by decide)
 have X4 := X3.set 0 v'
 simp at X4
 have hgs := hg.size
 have hblk : ∀ b, b < W.heap.size → b ≠ pw → v.ownBlock ≠ some b → (W'.setCell ⟨pw, 0, none⟩ v').heap[b]? = W.heap[b]? := fun b hb h1 h2 => by
  rw [heap_setCell_other W' ⟨pw, 0, none⟩ b _ h1]
  exact hg.block b hb (fun e => h2 e.symm)
 have E : Ext (K.seen (offR pw v) W) (K.seen (offR pw v') (W'.setCell ⟨pw, 0, none⟩ v')) := zAf (by simp; omega) (fun b hb hx => by
  obtain ⟨x1, x2⟩ := zF1.1 hx
  refine ⟨zF1.2 ⟨x1, fun e => ?_⟩, hblk b hb x1 x2⟩
  rcases hat with e' | e'
  · rw [e'] at e; exact x2 e
  · rw [e', Option.some.injEq] at e; omega)
 have EN : Ext (K.seen (newB w.heap.size) W) (K.seen (fun b => offR pw v' b && newB w.heap.size b) (W'.setCell ⟨pw, 0, none⟩ v')) := zAf (by simp; omega) (fun b hb hx => by
  have hx' := hx
  simp only [newB, decide_eq_true_eq] at hx'
  have n1 : b ≠ pw := by omega
  have n2 : v.ownBlock ≠ some b := fun e => by have := hvw b e; omega
  refine ⟨?_, hblk b hb n1 n2⟩
  rw [Bool.and_eq_true]
  refine ⟨zF1.2 ⟨n1, fun e => ?_⟩, hx⟩
  rcases hat with e' | e'
  · rw [e'] at e; exact n2 e
  · rw [e', Option.some.injEq] at e; omega)
 have hcN := zAg.ext' EN hc
 refine ⟨⟨h.hpw, X4, ?_, ?_, fun j x hx => ?_⟩, ⟨by simp [World.setCell]; exact hg.os.trans hw.os, by simp [World.setCell]; exact hg.tape.trans hw.tape, by simp [World.setCell]; exact hg.output.trans hw.output, by simp; omega, fun b hb h1 h2 => ?_⟩, fun g hg' => ?_, hcN⟩
 · have e : zAv (fun j => if j < R.length then rows j else row) (k :: R).length = zAv rows R.length ++ row := by
    rw [List.length_cons, zC2, if_neg (Nat.lt_irrefl _)]
    congr 1
    exact zM3 (fun j hj => if_pos hj)
   rw [e]
   exact ownsRow_setCell_other (a := ⟨pw, 0, none⟩) ho hv'pw v'
 · intro j hj
   by_cases hj' : j < R.length
   · simp only [if_pos hj']; exact h.k j hj'
   · simp only [if_neg hj']; exact hl
 · rw [List.reverse_cons] at hx
   by_cases hj : j < R.length
   · rw [List.getElem?_append_left (by simpa using hj)] at hx
     simp only [if_pos hj]
     exact zAg.ext' E (h.cls j x hx)
   · rw [List.getElem?_append_right (by simp; omega)] at hx
     have : j - R.reverse.length = 0 := by
      rcases Nat.eq_zero_or_pos (j - R.reverse.length) with e | e
      · exact e
      · rw [List.getElem?_eq_none (by simp; simp at e; omega)] at hx; cases hx
     rw [this] at hx
     simp at hx
     subst hx
     simp only [if_neg hj]
     exact zAg.ext' (zAf (Nat.le_refl _) (fun b _ hb => by rw [Bool.and_eq_true] at hb; exact ⟨hb.1, rfl⟩)) hcN
 · rw [hblk b (by omega) h1 h2]
   exact hw.block b hb
 · rcases hat with e' | e'
   · exact .inl (e' ▸ hg')
   · rw [e', Option.some.injEq] at hg'; exact .inr (by omega)
theorem zIc (n0 : Nat) (w : World) (pw : Nat) (v : Value) (R : List KD) (rows : Nat → List Value) (h : RKO n0 w pw v R rows) (hw : KWf R) (he : KEnd R) (hR : R.length ≤ 1000) (k : KD) (cv : Value) (hc : zAg w cv k)
 (hnat : ∀ m ∈ k.ms, m.nat = false) (hps : ∀ c ∈ k.pool, (pc c).Small) (hds : ∀ m ∈ k.ms, m.ds.size ≤ 1073741824) :
 Calls Tryz.prog 31 #[.pointer (some ⟨pw, 0, none⟩), cv] w fun e w' => zOa n0 w pw v R rows k e w' := by
 have hc' := hc
 obtain ⟨o1, c1, o2, c2, o3, c3, rfl, z1, z2, k1, k2, k3⟩ := hc
 have NO : Hid (∀ (z : Int) (w' : World), z ≠ 0 → zG3 R k ≠ 0 → Below w.heap.size w w' → zOa n0 w pw v R rows k (.returned (.int .i64 z)) w') := fun z w' hz hk hb => ⟨z, rfl, ⟨fun e => absurd e hz, fun e => absurd e hk⟩, by rw [if_neg hk]; exact hb⟩
 have YES : Hid (∀ (w' : World) (v' : Value) (row : List Value), zG3 R k = 0 → (RKO n0 w' pw v' (k :: R) (fun j => if j < R.length then rows j else row) ∧ zKl pw v w w' ∧ (∀ g, v'.ownBlock = some g → v.ownBlock = some g ∨ w.heap.size ≤ g) ∧ zAg (K.seen (fun b => offR pw v' b && newB w.heap.size b) w') (.agg row.toArray) k) → zOa n0 w pw v R rows k (.returned (.int .i64 0)) w') := fun w' v' row hk h => ⟨0, rfl, ⟨fun _ => hk, fun _ => rfl⟩, by rw [if_pos hk]; exact ⟨v', row, h⟩⟩
 have HKZ := D.zA0 (zLx R k hnat)
 have HSM : Hid (okK k → KSm k) := fun ho => zG7 ((zHi k hnat).2 ho)
 generalize zOa n0 w pw v R rows k = AI at *
 have B1 := zA6 w (.cells #[.string k.nm, .string k.sup, .slice o1 k.pool.length c1, .slice o2 k.fs.length c2, .slice o3 k.ms.length c3] 31)
 have C1 := D.zA0 (Blk.new w #[.string k.nm, .string k.sup, .slice o1 k.pool.length c1, .slice o2 k.fs.length c2, .slice o3 k.ms.length c3] 31)
 have HB1 := D.zA0 B1
 have HC := D.zA0 (hc'.below B1)
 have G1 := D.zA0 (zM9 k _ _ (hc'.below B1) hnat hps hds)
 have HKO := D.zA0 (h.below B1)
 have HPW : Hid (pw < w.heap.size) := h.box.lt
 have HVW : Hid (∀ g, v.ownBlock = some g → g < w.heap.size) := fun g hg => (h.own.lt g hg).2
 have HWf := D.zA0 hw
 have HEn := D.zA0 he
 have HK3 := D.zA0 (k3.below B1 (fun _ _ h => h.below B1))
 have hbm := k3.big
 have HNAT := D.zA0 hnat
 clear hw he hnat hps hds hc' B1 k1 k2 k3 h z1 z2
 go_enter Tryz.func31, Tryz.ntmps31
 go_upto_region 1 with (fail)
 generalize w.alloc (.cells #[.string k.nm, .string k.sup, .slice o1 k.pool.length c1, .slice o2 k.fs.length c2, .slice o3 k.ms.length c3] 31) = W1 at *
 have y0 := C1.out.cell 0
 have y1 := C1.out.cell 1
 have y2 := C1.out.cell 2
 have y3 := C1.out.cell 3
 have y4 := C1.out.cell 4
 simp at y0 y1 y2 y3 y4
 go_upto_region 2 with (first | (go_at_call 82; refine G1.out.mono ?_; rintro e W2 ⟨⟨z, rfl, hz⟩, b2⟩))
 clear G1 y0 y1 y2 y3 y4
 have HZ := D.zA0 hz
 have HC := D.zA0 (HC.out.below b2)
 have C2 := D.zA0 (C1.out.below b2)
 have HKO := D.zA0 (HKO.out.below b2)
 have HK3 := D.zA0 (HK3.out.below b2 (fun _ _ h => h.below b2))
 have HB2 := D.zA0 (HB1.out.trans (b2.mono HB1.out.size))
 clear C1 HB1 b2 hz
 by_cases hok : okK k
 case neg =>
  have hz0 : z ≠ 0 := fun e => hok (HZ.out.1 e)
  have hz1 : (z != 0) = true := by simpa using hz0
  go_wp2_with fail
  exact NO.out z _ hz0 (fun e => hok (HKZ.out.1 e).1) HB2.out
 obtain rfl : z = 0 := HZ.out.2 hok
 have HOK := D.zA0 hok
 clear HZ hok
 obtain ⟨ao, cc, hv, hV⟩ := HKO.out.view
 have HV := D.zA0 hV
 have y0 := C2.out.cell 0
 simp at y0
 cases hf : zB7 R k.nm with
 | some p =>
   obtain ⟨m, hm, hne⟩ := zIi HWf.out hf
   have hnp : p.nm = k.nm := (zDu hf).1
   have G2 := D.zA0 (zId W2 pw R.reverse ao cc hV k.nm m p hm hnp hne)
   have HF := D.zA0 hf
   clear hm hne hnp hV hf
   go_upto_region 5 with (first
    | (go_at_call 69; refine G2.out.mono ?_; rintro e w3 ⟨b3, v3, rfl, hc3⟩; obtain ⟨q1, e1, q2, e2, q3, e3, rfl, _⟩ := hc3)
    | (refine wpList_store_row rfl 31 _ _ rfl w3.heap.size #[.string p.nm, .string p.sup, .slice q1 p.pool.length e1, .slice q2 p.fs.length e2, .slice q3 p.ms.length e3] rfl rfl 31 _ (Blk.new w3 _ _) (by kernel_rfl) rfl (by simp [Value.oneCell']) ?_))
   obtain ⟨_, b4⟩ := zMm w3 #[.string p.nm, .string p.sup, .slice q1 p.pool.length e1, .slice q2 p.fs.length e2, .slice q3 p.ms.length e3]
   have HB5 := D.zA0 (HB2.out.trans ((b3.trans (b4.mono b3.size)).mono HB2.out.size))
   clear y0 G2 b3 b4
   generalize (w3.alloc (.cells zJt 31)).setRow w3.heap.size #[.string p.nm, .string p.sup, .slice q1 p.pool.length e1, .slice q2 p.fs.length e2, .slice q3 p.ms.length e3] = W5 at *
   go_wp2_with fail
   exact NO.out 23 _ (by decide) (fun e => by have := (HKZ.out.1 e).2.1; rw [HF.out] at this; cases this) HB5.out
 | none =>
 have G2 := D.zA0 (zJg W2 pw R.reverse ao cc hV k.nm (zKu hf))
 have HF := D.zA0 hf
 clear hV hf
 go_upto_region 5 with (first
  | (go_at_call 69; refine G2.out.mono ?_; rintro e w3 ⟨b3, rfl⟩)
  | (refine wpList_store_row rfl 31 _ _ rfl w3.heap.size zJt rfl rfl 31 _ (Blk.new w3 _ _) (by kernel_rfl) rfl (by simp [Value.oneCell']) ?_))
 obtain ⟨_, b4⟩ := zMm w3 zJt
 have b5 := b3.trans (b4.mono b3.size)
 have HC := D.zA0 (HC.out.below b5)
 have C5 := D.zA0 (C2.out.below b5)
 have HKO := D.zA0 (HKO.out.below b5)
 have HV := D.zA0 (HV.out.below b5)
 have HK3 := D.zA0 (HK3.out.below b5 (fun _ _ h => h.below b5))
 have HB5 := D.zA0 (HB2.out.trans (b5.mono HB2.out.size))
 clear y0 G2 b3 b4 b5 C2 HB2
 generalize (w3.alloc (.cells zJt 31)).setRow w3.heap.size zJt = W5 at *
 have x0 := HKO.out.box.cell 0
 simp at x0
 rw [hv] at x0
 have HVV := D.zA0 hv
 clear hv
 by_cases hl : R.length < 32
 case neg =>
  have hl' : (32 : Int) ≤ (R.length : Int) := by omega
  go_wp2_with fail
  exact NO.out 4 _ (by decide) (fun e => hl (HKZ.out.1 e).2.2.1) HB5.out
 have hl' : ¬ (32 : Int) ≤ (R.length : Int) := by omega
 go_upto_region 9 with (fail)
 clear x0
 have y0 := C5.out.cell 1
 simp at y0
 cases hf : zB7 R k.sup with
 | none =>
   have G2 := D.zA0 (zJg W5 pw R.reverse ao cc HV.out k.sup (zKu hf))
   have HF2 := D.zA0 hf
   clear hf
   go_upto_region 10 with (first
    | (go_at_call 69; refine G2.out.mono ?_; rintro e w6 ⟨b3, rfl⟩)
    | (refine wpList_store_row rfl 31 _ _ rfl w6.heap.size zJt rfl rfl 31 _ (Blk.new w6 _ _) (by kernel_rfl) rfl (by simp [Value.oneCell']) ?_))
   obtain ⟨_, b4⟩ := zMm w6 zJt
   have HB5 := D.zA0 (HB5.out.trans ((b3.trans (b4.mono b3.size)).mono HB5.out.size))
   clear y0 G2 b3 b4
   generalize (w6.alloc (.cells zJt 31)).setRow w6.heap.size zJt = W6 at *
   go_wp2_with fail
   exact NO.out 22 _ (by decide) (fun e => by obtain ⟨p, hp⟩ := (HKZ.out.1 e).2.2.2.1; rw [HF2.out] at hp; cases hp) HB5.out
 | some p =>
 obtain ⟨m, hm, hne⟩ := zIi HWf.out hf
 have hnp : p.nm = k.sup := (zDu hf).1
 have G2 := D.zA0 (zId W5 pw R.reverse ao cc HV.out k.sup m p hm hnp hne)
 have HF2 := D.zA0 hf
 clear hm hne hnp hf
 go_upto_region 12 with (first
  | (go_at_call 69; refine G2.out.mono ?_; rintro e w6 ⟨b3, v3, rfl, hc3⟩; obtain ⟨q1, e1, q2, e2, q3, e3, rfl, _⟩ := hc3)
  | (refine wpList_store_row rfl 31 _ _ rfl w6.heap.size #[.string p.nm, .string p.sup, .slice q1 p.pool.length e1, .slice q2 p.fs.length e2, .slice q3 p.ms.length e3] rfl rfl 31 _ (Blk.new w6 _ _) (by kernel_rfl) rfl (by simp [Value.oneCell']) ?_))
 obtain ⟨_, b4⟩ := zMm w6 #[.string p.nm, .string p.sup, .slice q1 p.pool.length e1, .slice q2 p.fs.length e2, .slice q3 p.ms.length e3]
 have b5 := b3.trans (b4.mono b3.size)
 have HC := D.zA0 (HC.out.below b5)
 have C6 := D.zA0 (C5.out.below b5)
 have HKO := D.zA0 (HKO.out.below b5)
 have HV := D.zA0 (HV.out.below b5)
 have HK3 := D.zA0 (HK3.out.below b5 (fun _ _ h => h.below b5))
 have HB6 := D.zA0 (HB5.out.trans (b5.mono HB5.out.size))
 clear y0 G2 b3 b4 b5 C5 HB5
 generalize (w6.alloc (.cells zJt 31)).setRow w6.heap.size #[.string p.nm, .string p.sup, .slice q1 p.pool.length e1, .slice q2 p.fs.length e2, .slice q3 p.ms.length e3] = W6 at *
 go_wp2_with fail
 go_loopw [10] (fun iv wr => ∃ i : Nat, iv = .int .i64 (i : Int) ∧ i ≤ k.ms.length ∧ wr = W6) (fun iv _ => k.ms.length - (intOf iv).toNat)
 case atStart => exact ⟨0, rfl, Nat.zero_le _, rfl⟩
 case round =>
  obtain ⟨i, rfl, hi, hww⟩ := hrel
  subst hww
  have x4 := C6.out.cell 4
  simp at x4
  by_cases hlt : i < k.ms.length
  · have hlt' : (i : Int) < (k.ms.length : Int) := by omega
    obtain ⟨b, off, r, e, hMR, d⟩ := zDd HK3.out i hlt
    subst e
    have hn := HNAT.out _ (List.getElem_mem hlt)
    obtain ⟨j1, i1, j2, i2, j3, i3, er, _⟩ := hMR
    subst er
    have d3 := d 3 _ rfl
    rw [hn] at d3
    clear d hn
    go_wp2_with fail
    go_roundw
    case rel => exact ⟨i + 1, by go_num, by omega, by first | trivial | rfl⟩
    case measure => simp [intOf]; omega
  · have hlt' : ¬ (i : Int) < (k.ms.length : Int) := by omega
    obtain rfl : i = k.ms.length := by omega
    go_wp2_with fail
    clear x4
    obtain ⟨WA, hWA⟩ : ∃ W, W = wr := ⟨_, rfl⟩
    subst hWA
    go_loopw [11] (fun iv wx => ∃ j : Nat, iv = .int .i64 (j : Int) ∧ j ≤ k.ms.length ∧ Below WA.heap.size WA wx ∧ ∀ x ∈ k.ms.take j, zCv (klin R k.sup) x = false) (fun iv _ => k.ms.length - (intOf iv).toNat)
    case atStart => exact ⟨0, rfl, Nat.zero_le _, Below.refl _ _, by simp⟩
    case round =>
     obtain ⟨j, rfl, hj, hb, hall⟩ := hrel
     have HB := D.zA0 hb
     have HALL := D.zA0 hall
     clear hall
     have x4 := (C6.out.below hb).cell 4
     have x1 := (C6.out.below hb).cell 1
     simp at x4 x1
     by_cases hlt2 : j < k.ms.length
     · have hlt2' : (j : Int) < (k.ms.length : Int) := by omega
       obtain ⟨b, off, r, e, hMR, d⟩ := zDd (HK3.out.below hb (fun _ _ h => h.below hb)) j hlt2
       subst e
       have hyi : k.ms[j]? = some k.ms[j] := List.getElem?_eq_getElem hlt2
       have HYI := D.zA0 hyi
       have HYM := D.zA0 (List.getElem_mem hlt2)
       clear hyi
       generalize k.ms[j] = y at *
       obtain ⟨j1, i1, j2, i2, j3, i3, er, zy1, zy2, _⟩ := hMR
       subst er
       have d0 := d 0 _ rfl
       have d1 := d 1 _ rfl
       have d2 := d 2 _ rfl
       rw [Nat.add_zero] at d0
       have GM : Hid (∀ W, Below wr.heap.size wr W → Calls Tryz.prog 83 #[.pointer (some ⟨pw, 0, none⟩), .string k.sup, .string y.nm, .string y.ds] W fun e w' => zUz (zG6 (klin R k.sup) y.nm y.ds) e ∧ Below W.heap.size W w') := fun W bW => zNz W pw R ao cc ((HV.out.below hb).below bW) HWf.out HEn.out hR k.sup y.nm y.ds
       have hnx : zCv (klin R k.sup) y = false → ∀ x ∈ k.ms.take (j + 1), zCv (klin R k.sup) x = false := fun hy x hx => by
        rw [List.take_add_one, HYI.out] at hx
        simp only [Option.toList_some, List.mem_append, List.mem_singleton] at hx
        rcases hx with hx | rfl
        · exact HALL.out x hx
        · exact hy
       have HNX := D.zA0 hnx
       have HCK := D.zA0 (zUh (klin R k.sup) y)
       generalize hFM : zG6 (klin R k.sup) y.nm y.ds = FM at *
       have HFM := D.zA0 hFM
       clear hFM hnx d hb
       have HD2 := D.zA0 d2
       clear d2
       go_upto_region 20 with (fail)
       go_cut [13, 14] from 63 to 82 (fun s13 s14 wx => MBox wr wx FM s13 s14)
       case first =>
        have hS0 : Hid (wr.cell? ⟨w.heap.size, 1, none⟩ = some (.string k.sup) ∧ wr.cell? ⟨w.heap.size, 4, none⟩ = some (.slice (some ⟨b, off, none⟩) k.ms.length c3) ∧ wr.cell? ⟨b, off + j * 9, none⟩ = some (.string y.nm) ∧ wr.cell? ⟨b, off + j * 9 + 1, none⟩ = some (.string y.ds)) := ⟨x1, x4, d0, d1⟩
        have hS3 : Hid (∀ W, Below wr.heap.size wr W → W.cell? ⟨w.heap.size, 1, none⟩ = some (.string k.sup) ∧ W.cell? ⟨w.heap.size, 4, none⟩ = some (.slice (some ⟨b, off, none⟩) k.ms.length c3) ∧ W.cell? ⟨b, off + j * 9, none⟩ = some (.string y.nm) ∧ W.cell? ⟨b, off + j * 9 + 1, none⟩ = some (.string y.ds)) := fun W bW => ⟨cell_later bW x1, cell_later bW x4, cell_later bW d0, cell_later bW d1⟩
        have hD : Hid (Below wr.heap.size wr wr.drew) := (Below.refl _ _).drew
        have hDA : Hid (Below wr.heap.size wr (wr.alloc (.cells zPr 39)).drew) := ((Below.refl _ _).alloc (Nat.le_refl _) _).drew
        have ZK : Hid (Blk (wr.alloc (.cells zPr 39)).drew wr.heap.size zPr 39) := Blk.new wr _ _
        clear x1 x4 d0 d1
        refine wp_region_noPanic ?_
        refine rL (fun W => W.cell? ⟨w.heap.size, 1, none⟩ = some (.string k.sup) ∧ W.cell? ⟨w.heap.size, 4, none⟩ = some (.slice (some ⟨b, off, none⟩) k.ms.length c3) ∧ W.cell? ⟨b, off + j * 9, none⟩ = some (.string y.nm) ∧ W.cell? ⟨b, off + j * 9 + 1, none⟩ = some (.string y.ds)) 22 ?_ (fun hHeld => ?_)
        · (try dsimp only); exact hS0.out
        refine tP 0 ?vm1 rfl rfl ?ym1 ?rm1; case ym1 => intro w; go_simp; try with_reducible rfl
        try simp only [Act.put, sq1, sq2, sq3]
        refine tP 1 ?vm2 rfl rfl ?ym2 ?rm2; case ym2 => intro w; go_simp; try with_reducible rfl
        try simp only [Act.put, sq1, sq2, sq3]
        refine tL 2 ?vm3 rfl rfl ?ym3 ?rm3; case ym3 => intro w hSw; go_simp; try with_reducible rfl
        try simp only [Act.put, sq1, sq2, sq3]
        refine tP 3 ?vm4 rfl rfl ?ym4 ?rm4; case ym4 => intro w; go_simp; try with_reducible rfl
        try simp only [Act.put, sq1, sq2, sq3]
        refine tL 4 ?vm5 rfl rfl ?ym5 ?rm5; case ym5 => intro w hSw; go_simp; try with_reducible rfl
        try simp only [Act.put, sq1, sq2, sq3]
        refine tP 5 ?vm6 rfl rfl ?ym6 ?rm6; case ym6 => intro w; go_simp; try with_reducible rfl
        try simp only [Act.put, sq1, sq2, sq3]
        refine tP 6 ?vm7 rfl rfl ?ym7 ?rm7; case ym7 => intro w; go_simp; try with_reducible rfl
        try simp only [Act.put, sq1, sq2, sq3]
        refine tP 7 ?vm8 rfl rfl ?ym8 ?rm8; case ym8 => intro w; go_simp; try with_reducible rfl
        try simp only [Act.put, sq1, sq2, sq3]
        refine tL 8 ?vm9 rfl rfl ?ym9 ?rm9; case ym9 => intro w hSw; go_simp; try with_reducible rfl
        try simp only [Act.put, sq1, sq2, sq3]
        refine tP 9 ?q0 rfl rfl ?q4 ?q5; case q4 => intro w; go_simp; try with_reducible rfl
        try simp only [Act.put, sq1, sq2, sq3]
        refine tL 10 ?q6 rfl rfl ?q7 ?q8; case q7 => intro w hSw; go_simp; try with_reducible rfl
        try simp only [Act.put, sq1, sq2, sq3]
        refine tP 11 ?q9 rfl rfl ?qa ?qb; case qa => intro w; go_simp; try with_reducible rfl
        try simp only [Act.put, sq1, sq2, sq3]
        refine tP 12 ?qc rfl rfl ?qd ?qe; case qd => intro w; go_simp; try with_reducible rfl
        try simp only [Act.put, sq1, sq2, sq3]
        refine tP 13 ?qf rfl rfl ?qg ?qh; case qg => intro w; go_simp; try with_reducible rfl
        try simp only [Act.put, sq1, sq2, sq3]
        refine tL 14 ?qi rfl rfl ?qj ?qk; case qj => intro w hSw; go_simp; try with_reducible rfl
        try simp only [Act.put, sq1, sq2, sq3]
        refine bL 15 20 rfl rfl (fun K hK => ?_) (fun K hK => ?_)
        · have hdum := True.intro
          go_simp
          go_at_call 83
          refine (GM.out _ hD.out).mono ?_
          rintro e wm ⟨⟨ss, a0, a1, st, a3, a4, a5, a6, a7, a8, has, rfl, hst, HONE⟩, bm⟩
          have bm1 : Below wr.heap.size wr wm := hD.out.trans bm
          have HST := D.zA0 hst
          clear hst
          refine hK.out _ _ ?ql ?qm; case ql => (try dsimp only); exact hS3.out _ bm1
          clear hK K hHeld; intro hHeld
          try simp only [Act.put, sq1, sq2, sq3]
          refine tP 16 ?qn rfl rfl ?qo ?qp; case qo => intro w; go_simp; try with_reducible rfl
          try simp only [Act.put, sq1, sq2, sq3]
          refine tP 17 ?qq rfl rfl ?qr ?qs; case qr => intro w; go_simp; try with_reducible rfl
          try simp only [Act.put, sq1, sq2, sq3]
          refine tP 18 ?qt rfl rfl ?qu ?qv; case qu => intro w; go_simp; try with_reducible rfl
          try simp only [Act.put, sq1, sq2, sq3]
          refine tP 19 ?qw rfl rfl ?qx ?qy; case qx => intro w; go_simp; try with_reducible rfl
          try simp only [Act.put, sq1, sq2, sq3]
          refine sL 20 rfl (fun K hK => ?_)
          go_simp
          try go_wp2_with fail
          have bm2 : Below wr.heap.size wr (wm.alloc (.cells zPr 39)) := bm1.trans ((zA6 wm _).mono bm1.size)
          refine hK.out _ _ ?qz ?qA; case qz => (try dsimp only); exact hS3.out _ bm2
          clear hK K hHeld; intro hHeld
          try simp only [Act.put, sq1, sq2, sq3]
          refine tP 21 ?qB rfl rfl ?qC ?qD; case qC => intro w; go_simp; try with_reducible rfl
          try simp only [Act.put, sq1, sq2, sq3]
          have ZZ := Blk.new wm zPr 39
          obtain ⟨CX, b4⟩ := zRr wm #[a0, a1, .bool st, a3, a4, a5, a6, a7, a8]
          have bfin : Hid (Below wr.heap.size wr ((wm.alloc (.cells zPr 39)).setRow wm.heap.size #[a0, a1, .bool st, a3, a4, a5, a6, a7, a8])) := bm1.trans (b4.mono bm1.size)
          refine jL rfl (fun K hK => ?_)
          refine zBv rfl 39 _ _ rfl (wm.heap.size) #[a0, a1, .bool st, a3, a4, a5, a6, a7, a8] rfl rfl 39 _ ZZ (by kernel_rfl) rfl (by simpa using HONE) ?_
          refine hK.out _ _ ?qE; clear hK K
          try simp only [Act.put]
          refine tP 23 ?qF rfl rfl ?qG ?qH; case qG => intro w; go_simp; try with_reducible rfl
          try simp only [Act.put, sq1, sq2, sq3]
          refine dL ?_
          refine NoPanic.normal ?_
          go_wp2_with fail
          go_meet
          exact ⟨_, _, _, _, _, _, _, _, _, _, _, rfl, rfl, CX, bfin.out, HST.out⟩
        · have hdum := True.intro
          go_simp
          try go_wp2_with fail
          refine hK.out _ _ ?qI ?qJ; case qI => (try dsimp only); exact hS3.out _ hDA.out
          clear hK K hHeld; intro hHeld
          try simp only [Act.put, sq1, sq2, sq3]
          refine sL 15 rfl (fun K hK => ?_)
          go_simp
          go_at_call 83
          refine (GM.out _ hDA.out).mono ?_
          rintro e wm ⟨⟨ss, a0, a1, st, a3, a4, a5, a6, a7, a8, has, rfl, hst, HONE⟩, bm⟩
          have bm1 : Below wr.heap.size wr wm := hDA.out.trans (bm.mono hDA.out.size)
          have ZZ := ZK.out.below bm
          have HST := D.zA0 hst
          clear hst
          refine hK.out _ _ ?qK ?qL; case qK => (try dsimp only); exact hS3.out _ bm1
          clear hK K hHeld; intro hHeld
          try simp only [Act.put, sq1, sq2, sq3]
          refine tP 16 ?qM rfl rfl ?qN ?qO; case qN => intro w; go_simp; try with_reducible rfl
          try simp only [Act.put, sq1, sq2, sq3]
          refine tP 17 ?qP rfl rfl ?qQ ?qR; case qQ => intro w; go_simp; try with_reducible rfl
          try simp only [Act.put, sq1, sq2, sq3]
          refine tP 18 ?qS rfl rfl ?qT ?qU; case qT => intro w; go_simp; try with_reducible rfl
          try simp only [Act.put, sq1, sq2, sq3]
          refine tP 19 ?qV rfl rfl ?qW ?qX; case qW => intro w; go_simp; try with_reducible rfl
          try simp only [Act.put, sq1, sq2, sq3]
          refine tP 21 ?qY rfl rfl ?qZ ?j0; case qZ => intro w; go_simp; try with_reducible rfl
          try simp only [Act.put, sq1, sq2, sq3]
          have CX : Blk (wm.setRow wr.heap.size #[a0, a1, .bool st, a3, a4, a5, a6, a7, a8]) wr.heap.size #[a0, a1, .bool st, a3, a4, a5, a6, a7, a8] 39 := setRow_heap _ _ _ _ _ _ ZZ
          have bfin : Hid (Below wr.heap.size wr (wm.setRow wr.heap.size #[a0, a1, .bool st, a3, a4, a5, a6, a7, a8])) := zB5 bm1 (Nat.le_refl _) _
          refine jL rfl (fun K hK => ?_)
          refine zBv rfl 39 _ _ rfl (wr.heap.size) #[a0, a1, .bool st, a3, a4, a5, a6, a7, a8] rfl rfl 39 _ ZZ (by kernel_rfl) rfl (by simpa using HONE) ?_
          refine hK.out _ _ ?j4; clear hK K
          try simp only [Act.put]
          refine tP 23 ?j5 rfl rfl ?j6 ?j7; case j6 => intro w; go_simp; try with_reducible rfl
          try simp only [Act.put, sq1, sq2, sq3]
          refine dL ?_
          refine NoPanic.normal ?_
          go_wp2_with fail
          go_meet
          exact ⟨_, _, _, _, _, _, _, _, _, _, _, rfl, rfl, CX, bfin.out, HST.out⟩
       case rest =>
        obtain ⟨bb, a0, a1, st, a3, a4, a5, a6, a7, a8, has, rfl, rfl, BX, bc, hst⟩ := hcut
        have HBC := D.zA0 bc
        have x2 := BX.cell 2
        have x4 := (C6.out.below (HB.out.trans (bc.mono HB.out.size))).cell 4
        have d2 := cell_later bc HD2.out
        simp at x2 x4
        have HBE := D.zA0 (HB.out.trans (bc.mono HB.out.size))
        have hcon : zCv (klin R k.sup) y = (has && (st != y.st)) := by
         rw [HCK.out]
         cases FM with
         | none => simp only [Prod.mk.injEq] at hst; rw [hst.1]; rfl
         | some z => simp only [Prod.mk.injEq] at hst; rw [hst.1, hst.2]; rfl
        have HCON := D.zA0 hcon
        clear hst hcon bc BX HCK
        cases has with
        | false =>
          go_upto_region 21 with (fail)
          go_quiet (fail)
          go_wp2_with fail
          go_roundw
          case rel => exact ⟨j + 1, by go_num, by omega, zC9 HBE.out _, HNX.out (by rw [HCON.out]; rfl)⟩
          case measure => simp [intOf]; omega
        | true =>
          rcases (show y.st = true ∨ y.st = false by cases y.st <;> simp) with hy | hy
          · cases st with
            | false =>
              rw [hy] at d2
              go_upto_region 21 with (fail)
              go_quiet (fail)
              go_wp2_with fail
              exact NO.out 23 _ (by decide) (fun e => by have := (HKZ.out.1 e).2.2.2.2 y HYM.out; rw [HCON.out, hy] at this; cases this) (HB6.out.trans (Below.mono (zC9 HBE.out _) HB6.out.size))
            | true =>
              rw [hy] at d2
              go_upto_region 21 with (fail)
              go_quiet (fail)
              go_wp2_with fail
              go_roundw
              case rel => exact ⟨j + 1, by go_num, by omega, zC9 HBE.out _, HNX.out (by rw [HCON.out, hy]; rfl)⟩
              case measure => simp [intOf]; omega
          · cases st with
            | false =>
              rw [hy] at d2
              go_upto_region 21 with (fail)
              go_quiet (fail)
              go_wp2_with fail
              go_roundw
              case rel => exact ⟨j + 1, by go_num, by omega, zC9 HBE.out _, HNX.out (by rw [HCON.out, hy]; rfl)⟩
              case measure => simp [intOf]; omega
            | true =>
              rw [hy] at d2
              go_upto_region 21 with (fail)
              go_quiet (fail)
              go_wp2_with fail
              exact NO.out 23 _ (by decide) (fun e => by have := (HKZ.out.1 e).2.2.2.2 y HYM.out; rw [HCON.out, hy] at this; cases this) (HB6.out.trans (Below.mono (zC9 HBE.out _) HB6.out.size))
     · have hlt2' : ¬ (j : Int) < (k.ms.length : Int) := by omega
       obtain rfl : j = k.ms.length := by omega
       rw [List.take_length] at HALL
       have HZ0 := D.zA0 (HKZ.out.2 ⟨HOK.out, HF.out, hl, ⟨p, HF2.out⟩, HALL.out⟩)
       have HKO := D.zA0 (HKO.out.below hb)
       have HC := D.zA0 (HC.out.below hb)
       have C7 := D.zA0 (C6.out.below hb)
       have HB7 := D.zA0 (HB6.out.trans (hb.mono HB6.out.size))
       clear HALL C6 HV HK3 hb HB
       go_upto_region 23 with (fail)
       have c0 := C7.out.cell 0
       have c1' := C7.out.cell 1
       have c2' := C7.out.cell 2
       have c3' := C7.out.cell 3
       have c4' := C7.out.cell 4
       simp at c0 c1' c2' c3' c4'
       have x0 := HKO.out.box.cell 0
       simp at x0
       have hS0 : Hid (wr.cell? ⟨w.heap.size, 0, none⟩ = some (.string k.nm) ∧ wr.cell? ⟨w.heap.size, 1, none⟩ = some (.string k.sup) ∧ wr.cell? ⟨w.heap.size, 2, none⟩ = some (.slice o1 k.pool.length c1) ∧ wr.cell? ⟨w.heap.size, 3, none⟩ = some (.slice o2 k.fs.length c2) ∧ wr.cell? ⟨w.heap.size, 4, none⟩ = some (.slice o3 k.ms.length c3) ∧ wr.cell? ⟨pw, 0, none⟩ = some v) := ⟨c0, c1', c2', c3', c4', x0⟩
       have hS3 : Hid (∀ W, Below wr.heap.size wr W → W.cell? ⟨w.heap.size, 0, none⟩ = some (.string k.nm) ∧ W.cell? ⟨w.heap.size, 1, none⟩ = some (.string k.sup) ∧ W.cell? ⟨w.heap.size, 2, none⟩ = some (.slice o1 k.pool.length c1) ∧ W.cell? ⟨w.heap.size, 3, none⟩ = some (.slice o2 k.fs.length c2) ∧ W.cell? ⟨w.heap.size, 4, none⟩ = some (.slice o3 k.ms.length c3) ∧ W.cell? ⟨pw, 0, none⟩ = some v) := fun W b => ⟨cell_later b c0, cell_later b c1', cell_later b c2', cell_later b c3', cell_later b c4', cell_later b x0⟩
       have hD : Hid (Below wr.heap.size wr wr.drew) := (Below.refl _ _).drew
       have GC := D.zA0 (zQ5 k _ wr.drew (HC.out.below hD.out) (HSM.out HOK.out))
       clear c0 c1' c2' c3' c4' x0
       refine wp_region_noPanic ?_
       refine rL (fun W => W.cell? ⟨w.heap.size, 0, none⟩ = some (.string k.nm) ∧ W.cell? ⟨w.heap.size, 1, none⟩ = some (.string k.sup) ∧ W.cell? ⟨w.heap.size, 2, none⟩ = some (.slice o1 k.pool.length c1) ∧ W.cell? ⟨w.heap.size, 3, none⟩ = some (.slice o2 k.fs.length c2) ∧ W.cell? ⟨w.heap.size, 4, none⟩ = some (.slice o3 k.ms.length c3) ∧ W.cell? ⟨pw, 0, none⟩ = some v) 11 ?_ (fun hHeld => ?_)
       · (try dsimp only); exact hS3.out _ hD.out
       refine tP 0 ?vn1 rfl rfl ?yn1 ?rn1; case yn1 => intro w; go_simp; try with_reducible rfl
       try simp only [Act.put, sq1, sq2, sq3]
       refine tP 1 ?vn2 rfl rfl ?yn2 ?rn2; case yn2 => intro w; go_simp; try with_reducible rfl
       try simp only [Act.put, sq1, sq2, sq3]
       refine tP 2 ?vn3 rfl rfl ?yn3 ?rn3; case yn3 => intro w; go_simp; try with_reducible rfl
       try simp only [Act.put, sq1, sq2, sq3]
       refine tP 3 ?vn4 rfl rfl ?yn4 ?rn4; case yn4 => intro w; go_simp; try with_reducible rfl
       try simp only [Act.put, sq1, sq2, sq3]
       refine tL 4 ?vn5 rfl rfl ?yn5 ?rn5; case yn5 => intro w hSw; go_simp; try with_reducible rfl
       try simp only [Act.put, sq1, sq2, sq3]
       refine tL 5 ?vn6 rfl rfl ?yn6 ?rn6; case yn6 => intro w hSw; go_simp; try with_reducible rfl
       try simp only [Act.put, sq1, sq2, sq3]
       refine sL 6 rfl (fun K hK => ?_)
       go_simp
       go_at_call 84
       refine GC.out.mono ?_
       rintro e wm ⟨bm, v3, rfl, hc3⟩
       have HC3 := D.zA0 hc3
       obtain ⟨r1, t1, r2, t2, r3, t3, rfl, _⟩ := hc3
       have bm1 : Below wr.heap.size wr wm := hD.out.trans bm
       have bm2 : Below wr.heap.size wr (wm.alloc (.cells #[.string k.nm, .string k.sup, .slice r1 k.pool.length t1, .slice r2 k.fs.length t2, .slice r3 k.ms.length t3] 31)) := bm1.trans ((zA6 wm _).mono bm1.size)
       refine hK.out _ _ ?sn7 ?rn7; case sn7 => (try dsimp only); first | exact sA.out | exact hS3.out _ bm2 | exact hS3.out _ bm1 | exact hS3.out _ hD.out | exact hS0.out
       clear hK K hHeld; intro hHeld
       try simp only [Act.put, sq1, sq2, sq3]
       refine sL 7 rfl (fun K hK => ?_)
       go_simp
       try go_wp2_with fail
       refine hK.out _ _ ?sn8 ?rn8; case sn8 => (try dsimp only); first | exact sA.out | exact hS3.out _ bm2 | exact hS3.out _ bm1 | exact hS3.out _ hD.out | exact hS0.out
       clear hK K hHeld; intro hHeld
       try simp only [Act.put, sq1, sq2, sq3]
       refine sL 8 rfl (fun K hK => ?_)
       have KOb := HKO.out.below bm2
       obtain ⟨i0, hi, hz0, hz1, hz2⟩ := info_parts zW4
       obtain ⟨va, wa, hra, oa, hga, _, hat⟩ := run_append_own_at (P := Tryz.prog) (wm.alloc (.cells #[.string k.nm, .string k.sup, .slice r1 k.pool.length t1, .slice r2 k.fs.length t2, .slice r3 k.ms.length t3] 31)) n0 25 25 31 i0 _ 5 104 Tryz.underlying25 hi hz0 hz1 hz2 rfl (by decide) v R.length (zAv rows R.length) KOb.own ⟨wm.heap.size, 0, none⟩ 1 1 [.string k.nm, .string k.sup, .slice r1 k.pool.length t1, .slice r2 k.fs.length t2, .slice r3 k.ms.length t3] rfl
        (fun j u hj => by
         have e : (⟨wm.heap.size, 0, none⟩ : Addr).add j = ⟨wm.heap.size, j, none⟩ := by unfold Addr.add; split <;> simp_all
         rw [e]
         exact M.zA1 (Blk.new wm _ _) j (by simpa using hj)) (by simp [Value.oneCell']) (by unfold maxLen; omega) (by omega) (by have := KOb.box.lt; have := KOb.hpw; omega)
       obtain ⟨ga, ca, rfl⟩ := ownsRow_succ oa
       have hvpw : v.ownBlock ≠ some pw := zAx KOb.own KOb.box (by decide)
       have CB := C7.out.below bm2
       have hvc : v.ownBlock ≠ some w.heap.size := fun e => by have := HVW.out _ e; omega
       have Xa : Blk wa pw #[v] 127 := (hga.block pw KOb.box.lt (fun e => hvpw e.symm)).trans KOb.box
       have Ca : Blk wa w.heap.size #[.string k.nm, .string k.sup, .slice o1 k.pool.length c1, .slice o2 k.fs.length c2, .slice o3 k.ms.length c3] 31 := (hga.block w.heap.size CB.lt (fun e => hvc e.symm)).trans CB
       have sA : Hid (wa.cell? ⟨w.heap.size, 0, none⟩ = some (.string k.nm) ∧ wa.cell? ⟨w.heap.size, 1, none⟩ = some (.string k.sup) ∧ wa.cell? ⟨w.heap.size, 2, none⟩ = some (.slice o1 k.pool.length c1) ∧ wa.cell? ⟨w.heap.size, 3, none⟩ = some (.slice o2 k.fs.length c2) ∧ wa.cell? ⟨w.heap.size, 4, none⟩ = some (.slice o3 k.ms.length c3) ∧ wa.cell? ⟨pw, 0, none⟩ = some v) := ⟨Ca.cell 0, Ca.cell 1, Ca.cell 2, Ca.cell 3, Ca.cell 4, Xa.cell 0⟩
       have PU := D.zA0 (RKO.push (w := w) KOb (HB7.out.trans (bm2.mono HB7.out.size)) HPW.out HVW.out rfl (zAg.ext' (zAf (by simp) (fun b hb hx => ⟨by simp only [newB, decide_eq_true_eq] at hx ⊢; have := HB7.out.size; have e : wr.drew.heap.size = wr.heap.size := rfl; omega, (zA6 wm (.cells #[.string k.nm, .string k.sup, .slice r1 k.pool.length t1, .slice r2 k.fs.length t2, .slice r3 k.ms.length t3] 31)).block b hb⟩)) HC3.out) oa hga hat rfl)
       have xa := Xa.cell 0
       have fa := Xa.frozen 0
       simp at xa
       clear CB Ca Xa oa hga hat KOb hi hz0 hz1 hz2 HC3 hvpw hvc
       refine zBb rfl rfl rfl rfl hra ?_
       refine hK.out _ _ ?sn9 ?rn9; case sn9 => (try dsimp only); first | exact sA.out | exact hS3.out _ bm2 | exact hS3.out _ bm1 | exact hS3.out _ hD.out | exact hS0.out
       clear hK K hHeld; intro hHeld
       try simp only [Act.put, sq1, sq2, sq3]
       refine tP 9 ?j8 rfl rfl ?j9 ?ja; case j9 => intro w; go_simp; try with_reducible rfl
       try simp only [Act.put, sq1, sq2, sq3]
       refine tP 10 ?jb rfl rfl ?jc ?jd; case jc => intro w; go_simp; try with_reducible rfl
       try simp only [Act.put, sq1, sq2, sq3]
       refine jL rfl (fun K hK => ?_)
       go_simp
       try go_wp2_with fail
       refine hK.out _ _ ?je; clear hK K
       try simp only [Act.put, sq1, sq2, sq3]
       refine dL ?_
       refine NoPanic.normal ?_
       go_wp2_with fail
       exact YES.out _ _ _ HZ0.out PU.out
end Go.Proofs.YtpehimfnkmepnaaGreat.Fr
