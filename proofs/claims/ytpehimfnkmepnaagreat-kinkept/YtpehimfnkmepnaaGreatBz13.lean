import Derived.Test.YtpehimfnkmepnaaGreatBz12
import Derived.Deep.OwnRows
import Derived.Laws.OwnMore
import Derived.Laws.Rows
set_option maxRecDepth 8000
set_option maxHeartbeats 40000000
namespace Go.Proofs.YtpehimfnkmepnaaGreat.M
open Go.RowKit
theorem zO2 (n : Nat) : madeCells #[Value.int .i64 0] n = (zBi (List.replicate n 0)).toArray := by
 apply Array.toList_inj.1
 rw [toList_madeCells_one]
 simp [zBi]
theorem infoI0 : (Tryz.prog.info? 3).map (fun i => (i.zero, i.size, i.bytes)) = some (some (.int .i64 0), 1, 8) := by kernel_rfl
theorem plc_at {l : List LN} {x : LN} {k : Nat} {p : Int} {ps : List Int} (h : l[k]? = some x) : plc (l.drop k) p ps = if 0 ≤ x.hr then plc (l.drop (k + 1)) p (ps.set x.hr.toNat p) else plc (l.drop (k + 1)) (p + (sz x.op : Nat)) ps := by rw [zJ3 h, zLk]
theorem cod_at {l : List LN} {x : LN} {k : Nat} {p : Int} {ps : List Int} (h : l[k]? = some x) : cod ps (l.drop k) p = if 0 ≤ x.hr then cod ps (l.drop (k + 1)) p else ⟨p, x.op, if 0 ≤ x.lb then (ps[x.lb.toNat]?).getD 0 else x.a, x.b⟩ :: cod ps (l.drop (k + 1)) (p + (sz x.op : Nat)) := by rw [zJ3 h, zFs]
theorem fra_at {l : List LN} {x : LN} {k : Nat} {p : Int} {ts : List Int} {fs : List (Int × Bool)} (h : l[k]? = some x) : fra ts (l.drop k) p fs = if 0 ≤ x.hr then fra ts (l.drop (k + 1)) p (if (fs[fs.length - 1]?).map (·.1) = some p then fs else fs ++ [(p, isIn ts x.hr)]) else fra ts (l.drop (k + 1)) (p + (sz x.op : Nat)) fs := by rw [zJ3 h, zJ9]
theorem zAu (w : World) (B T s : Nat) : w.ownsRow B T s (.slice none 0 0) 0 [] := ⟨by simp, .inl ⟨rfl, rfl⟩⟩
theorem zBv {wr w5 w6 : World} {B n T : Nat} {vc v5 : Value} {xs : List Value} {o1 o2 : Obj} (h : wr.ownsRow B 179 4 vc n xs) (st : Step vc ((wr.alloc o1).alloc o2) v5 w5) (b6 : Below w5.heap.size w5 w6) (hT : T ≠ 179) : Same T wr w6 :=
 ((Same.of_below (zA2 wr o1)).trans (Same.of_below (zA2 _ o2))).trans ((Same.of_grown (zDt (zDt h o1) o2) st.grown hT).trans (Same.of_below b6))
theorem zI4 {w wr w5 w6 : World} {n : Nat} {vc v5 : Value} {xs : List Value} {o1 o2 : Obj} (hb : Below w.heap.size w wr) (h : wr.ownsRow w.heap.size 179 4 vc n xs) (st : Step vc ((wr.alloc o1).alloc o2) v5 w5) (b6 : Below w5.heap.size w5 w6) : Below w.heap.size w w6 := by
 have b5 := hb.trans ((zLw (zLw st)).below hb.size (fun k hk => (h.lt k hk).1))
 exact b5.trans (b6.mono b5.size)
theorem zM6 {wr w5 : World} {B n : Nat} {vc v5 : Value} {xs : List Value} {o1 o2 : Obj} (h : wr.ownsRow B 179 4 vc n xs) (st : Step vc ((wr.alloc o1).alloc o2) v5 w5) : w5.heap[wr.heap.size]? = some o1 := by
 rw [st.grown.block wr.heap.size (by simp; omega) (by intro e; have := (h.lt _ e.symm).2; omega), (zA2 _ _).block _ (by simp)]
 exact heap_alloc_new wr o1
theorem zJo (w : World) (o : Obj) (i : IN) : zEb ((w.alloc o).alloc (.cells #[.int .i64 i.pl, .int .i64 i.op, .int .i64 i.a, .int .i64 i.b] 179)) (.slice (some ⟨w.heap.size + 1, 0, none⟩) 1 1) [i] := by
 have := zEb.laid1 (w.alloc o) i
 rwa [show (w.alloc o).heap.size = w.heap.size + 1 by simp] at this
theorem zIy {B : Nat} {w w' : World} (h : Kq B B w w') : Below B w w' := ⟨h.os, h.tape, h.output, h.size, fun k hk => h.block k hk (by omega)⟩
theorem zJa {pl bt : Bool} {wr w7 : World} {fs fs7 : List FM} {zs : List (Int × Bool)} {p : Int} {lc : Value} (hf : FRs pl wr fs zs) (hs : Same 9 wr w7)
 (hc : (fs7 = fs ∧ ∃ x, fs[fs.length - 1]? = some x ∧ x.at_ = p) ∨ (∃ y, fs7 = fs ++ [y] ∧ FIs p lc bt w7 y ∧ ∀ x, fs[fs.length - 1]? = some x → x.at_ ≠ p))
 (hl : ∃ g, lc = .slice (some ⟨g, 0, none⟩) (zB5 pl).length (zB5 pl).length ∧ w7.heap[g]? = some (.cells (zB5 pl).toArray 9)) :
 FRs pl w7 fs7 (if (zs[zs.length - 1]?).map (·.1) = some p then zs else zs ++ [(p, bt)]) ∧ fs7.length ≤ fs.length + 1 := by
 rw [hf.last]
 rcases hc with ⟨rfl, x, hx, rfl⟩ | ⟨y, rfl, ⟨h1, h2, h3⟩, h4⟩
 · rw [hx, if_pos (by rfl)]
   exact ⟨hf.same hs, by omega⟩
 · rw [if_neg ?_]
   · exact ⟨(hf.same hs).add ⟨h1, h2 ▸ hl, h3⟩, by simp⟩
   · intro e
     rcases e2 : fs[fs.length - 1]? with _ | x
     · rw [e2] at e; cases e
     · rw [e2] at e; exact h4 x e2 (by simpa using e)
def plH (ps : List Int) (x : TR) : HN := ⟨(ps[x.f.toNat]?).getD 0, (ps[x.t.toNat]?).getD 0, (ps[x.a.toNat]?).getD 0, ⟨#[84, 104, 114, 111, 119, 97, 98, 108, 101]⟩⟩
def zDf (σ : SG) : List HN := σ.hs.map (plH (zCo σ))
def zBs (l : List HN) : List Value := l.flatMap hrow
theorem zHk (l : List HN) (y : HN) : zBs (l ++ [y]) = zBs l ++ hrow y := by simp [zBs]
def zGb (g T : Nat) (w w' : World) (cs : Array Value) : Prop := w'.heap[g]? = some (.cells cs T (0, 0)) ∧ (∀ T', T' ≠ T → Same T' w w') ∧ ∀ B w0, B ≤ g → Below B w0 w → Below B w0 w'
theorem zGb.row {g T : Nat} {w : World} {old cs : Array Value} (h : w.heap[g]? = some (.cells old T (0, 0))) : zGb g T w (w.setRow g cs) cs :=
 ⟨setRow_heap _ _ _ _ _ _ h, fun T' hT k cur hk => (setRow_other _ _ _ _ (zBg hk h hT)).trans hk, fun _ _ hB hb => ⟨hb.os, hb.tape, hb.output, by simp [World.setRow]; exact hb.size, fun k hk => (setRow_other _ _ _ _ (by omega)).trans (hb.block k hk)⟩⟩
def zK6 (pl st : Bool) (nm ds : ByteArray) (σ : SG) (w : World) (e : Ending) (w' : World) : Prop := ∃ vc vh vf fs, e = .returned (.agg #[.string nm, .string ds, .bool st, .bool false, .int .i64 16, .int .i64 ((zB5 pl).length : Nat), vc, vh, vf]) ∧ Below w.heap.size w w' ∧ (∃ b, w.heap.size ≤ b ∧ w'.ownsRow b 5 1 vc (encL (zBw σ) []).1.length (zAj (encL (zBw σ) []).1)) ∧ w'.ownsRow w.heap.size 154 4 vh (zDf σ).length (zBs (zDf σ)) ∧ w'.ownsRow w.heap.size 67 3 vf fs.length (zC9 fs) ∧ FRs pl w' fs (zDi σ)
theorem zCb {w : World} {o : Obj} {k : Nat} (h : k = w.heap.size) : (w.alloc o).heap[k]? = some o := by subst h; exact heap_alloc_new w o
theorem zIh : ∀ (l : List TR) (j : Nat) (x : TR) (i : Nat), l[j]? = some x → i < 3 → (zEa l)[j * 3 + i]? = (trow x)[i]?
 | [], _, _, _, h, _ => by simp at h
 | y :: l, 0, x, i, h, hi => by simp at h; subst h; unfold zEa; rw [List.flatMap_cons, Nat.zero_mul, Nat.zero_add, List.getElem?_append_left (by simp [trow]; omega)]
 | y :: l, j + 1, x, i, h, hi => by
   have := zIh l j x i (by simpa using h) hi
   unfold zEa at *
   rw [List.flatMap_cons, List.getElem?_append_right (by simp [trow]; omega), show (j + 1) * 3 + i - (trow y).length = j * 3 + i by simp [trow]; omega]
   exact this
theorem zRs {w : World} {B : Nat} {v : Value} {l : List TR} (h : w.ownsRow B 190 3 v l.length (zEa l)) {j : Nat} {x : TR} (hj : l[j]? = some x) :
 ∃ g cap, v = .slice (some ⟨g, 0, none⟩) l.length cap ∧ g < w.heap.size ∧ w.cell? ⟨g, j * 3, none⟩ = some (.int .i64 x.f) ∧ w.cell? ⟨g, j * 3 + 1, none⟩ = some (.int .i64 x.t) ∧ w.cell? ⟨g, j * 3 + 2, none⟩ = some (.int .i64 x.a) := by
 have hlt := (List.getElem?_eq_some_iff.1 hj).1
 rcases h.2 with ⟨rfl, h0⟩ | ⟨g, cap, cur, rfl, _, hg, h1, h2, h3, h4⟩
 · rw [h0] at hlt; simp at hlt
 · have e : ∀ i, i < 3 → cur[j * 3 + i]? = (trow x)[i]? := by
    intro i hi
    rw [← zIh l j x i hj hi, ← h4, List.getElem?_take, if_pos (by omega), Array.getElem?_toList]
   exact ⟨g, cap, rfl, (Array.getElem?_eq_some_iff.1 hg).1, zA1 hg _ (e 0 (by decide)), zA1 hg _ (e 1 (by decide)), zA1 hg _ (e 2 (by decide))⟩
def HS27 (pm gh j : Nat) (v : Value) (x : TR) (W : World) : Prop := W.cell? ⟨pm, 7, none⟩ = some v ∧ W.cell? ⟨gh, j * 3, none⟩ = some (.int .i64 x.f) ∧ W.cell? ⟨gh, j * 3 + 1, none⟩ = some (.int .i64 x.t) ∧ W.cell? ⟨gh, j * 3 + 2, none⟩ = some (.int .i64 x.a)
theorem zDl {w : World} {a : Addr} {v : Value} (h : w.cell? a = some v) : a.block < w.heap.size := World.block_lt_of_cell? _ _ h
theorem HS27.below {pm gh j : Nat} {v : Value} {x : TR} {W W' : World} (h : HS27 pm gh j v x W) (b : Below W.heap.size W W') : HS27 pm gh j v x W' :=
 ⟨(b.cell (zDl h.1)).trans h.1, (b.cell (zDl h.2.1)).trans h.2.1, (b.cell (zDl h.2.2.1)).trans h.2.2.1, (b.cell (zDl h.2.2.2)).trans h.2.2.2⟩
theorem wrap_i64 {x : Int} (h : -9223372036854775808 ≤ x) (k : x ≤ 9223372036854775807) : IntKind.i64.wrap x = x := by simp [IntKind.wrap, IntKind.bits, IntKind.signed]; omega
def HS28 (gx gp qf qt qa : Nat) (p1 p2 p3 : Int) (W : World) : Prop := W.cell? ⟨gx, 0, none⟩ = some (.int .i64 (qf : Int)) ∧ W.cell? ⟨gx, 1, none⟩ = some (.int .i64 (qt : Int)) ∧ W.cell? ⟨gx, 2, none⟩ = some (.int .i64 (qa : Int)) ∧ W.cell? ⟨gp, qf, none⟩ = some (.int .i64 p1) ∧ W.cell? ⟨gp, qt, none⟩ = some (.int .i64 p2) ∧ W.cell? ⟨gp, qa, none⟩ = some (.int .i64 p3)
theorem HS28.of {gx gp qf qt qa : Nat} {ps : List Int} {W : World} (h : W.heap[gx]? = some (.cells #[.int .i64 (qf : Int), .int .i64 (qt : Int), .int .i64 (qa : Int)] 190 (0, 0))) (k : W.heap[gp]? = some (.cells (zBi ps).toArray 3 (0, 0))) (h1 : qf < ps.length) (h2 : qt < ps.length) (h3 : qa < ps.length) : HS28 gx gp qf qt qa ps[qf] ps[qt] ps[qa] W :=
 ⟨zA1 h 0 rfl, zA1 h 1 rfl, zA1 h 2 rfl, zA1 k qf (by simp [zBi, h1]), zA1 k qt (by simp [zBi, h2]), zA1 k qa (by simp [zBi, h3])⟩
theorem hgrown {w w1 w2 w3 : World} {g : Option Nat} (h : Below w.heap.size w w1) (k : Below w1.heap.size w1 w2) (hg : w2.grownBy w3 g) (hB : ∀ x, g = some x → w.heap.size ≤ x) : Below w.heap.size w w3 := by
 have h2 := h.trans (k.mono h.size)
 have hz := h2.size
 exact ⟨hg.os.trans h2.os, hg.tape.trans h2.tape, hg.output.trans h2.output, Nat.le_trans h2.size hg.size, fun i hi => (hg.block i (by omega) (fun e => by have := hB i e.symm; omega)).trans (h2.block i hi)⟩
theorem zQn (x : HN) : ∀ u ∈ hrow x, u.oneCell' = true := by
 intro u hu
 simp [hrow] at hu
 rcases hu with rfl | rfl | rfl | rfl <;> rfl
theorem Tryz.info154x : (Tryz.prog.info? 154).map (fun i => (i.zero, i.size, i.bytes)) = some (some (.agg #[.int .i64 0, .int .i64 0, .int .i64 0, .string ⟨#[]⟩]), 4, 40) := by kernel_rfl
theorem zKs (w : World) (B b : Nat) (v : Value) (n : Nat) (xs : List Value) (y : HN) (hown : w.ownsRow B 154 4 v n xs) (hg : w.heap[b]? = some (.cells (hrow y).toArray 154 (0, 0))) (hlen : n ≤ 1000000) (hB : B ≤ w.heap.size) :
 ∃ v' w', (Builtin.append_ #[36, 36] 36 #[v, .slice (some ⟨b, 0, none⟩) 1 1]).run Tryz.prog w = .ok v' w' ∧ w'.ownsRow B 154 4 v' (n + 1) (xs ++ hrow y) ∧ w.grownBy w' v.ownBlock := by
 obtain ⟨i0, hi, hz0, hz1, hz2⟩ := info_parts Tryz.info154x
 obtain ⟨v', w', hr, h2, h3, _, h4⟩ := run_append_own_at (P := Tryz.prog) w B 36 36 154 i0 _ 4 40 Tryz.underlying36 hi hz0 hz1 hz2 rfl (by decide) v n xs hown ⟨b, 0, none⟩ 1 1 (hrow y) rfl
  (fun j u hj => by
   have e : (⟨b, 0, none⟩ : Addr).add j = ⟨b, j, none⟩ := by unfold Addr.add; split <;> simp_all
   rw [e]
   exact zA1 hg j (by simpa using hj)) (zQn y) (by unfold maxLen; omega) (by omega) (by omega)
 exact ⟨v', w', hr, h2, h3⟩
theorem zBr {P : Program} {ops : Array Oper} {o : Oper} {a : Act} {w w' : World} {K : Act → World → Prop} {Q : Exit → Act → World → Prop} {E : Prop} {s x : Operand} {t : TypeId} {v vb v' : Value} (hgd : o.guard = none)
 (ho : o.op = .call { callee := .builtin .append, args := #[s, x], argTypes := #[t, t] }) (hs : a.eval s = v) (hx : a.eval x = vb) (hr : (Builtin.append_ #[t, t] o.type #[v, vb]).run P w = .ok v' w') (h : K (a.put o.dst v') w') :
 if Region.wanted o (yielded ops a.tmps) = true then Oper.wp P o a w K Q else E := by
 rw [if_pos (by simp [Region.wanted, hgd])]
 unfold Oper.wp execOp
 simp only [ho, resolve, invoke, builtin, Sem.run_bind, Sem.run_pure, Result.andThen_ok, List.map_toArray, List.map_cons, List.map_nil, hs, hx, hr]
 exact h
theorem zGt (B pr pm n d : Nat) (pl : Bool) (σ : SG) (nm ds : ByteArray) (st : Bool) (w : World) (h : Mk B pr pm n d pl σ w) (hr : Refs σ) (hn : n ≤ 900000) (hcz : (zBw σ).length ≤ 400) (hl : σ.ls.length ≤ 1000) (hlb : σ.labels ≤ 1000) :
 Calls Tryz.prog 102 #[.pointer (some ⟨pm, 0, none⟩), .string nm, .string ds, .bool st] w fun e w' => zK6 pl st nm ds σ w e w' := by
 have HM := zA0 h
 have HM0 := zA0 h
 have GZ := zA0 (fun (op : Int) W => zJg zRc op W)
 obtain ⟨s, HP, HB0, rfl⟩ := h
 have HR := zA0 hr
 have hlen : s.ls.length ≤ 1000 := hl
 have hlbl : s.labels ≤ 1000 := hlb
 obtain ⟨i0, hi, hz0, hz1, hz2⟩ := info_parts infoI0
 have HL := zA0 HP.l
 have hpmz := HP.lt.1
 obtain ⟨aol, capl, el⟩ := zA4 HP.l
 have HEL := zA0 el
 have HP0 := zA0 HP
 have k3 := zA1 HP.blk 3 (v := .int .i64 s.labels) rfl
 clear HP el hr hl hlb
 go_enter Tryz.func102, Tryz.ntmps102
 go_upto_region 2 with (at_make; refine wpList_make_row _ rfl _ _ 22 rfl 3 i0 (.int .i64 0) Tryz.underlying22 hi hz0 hz1 rfl _ _ s.labels rfl rfl (by rw [hz2]; omega) (by omega) ?_)
 have HB : Hid (Below w.heap.size w ((w.alloc (.cells #[.string ⟨#[]⟩, .string ⟨#[]⟩, .bool false, .bool false, .int .i64 0, .int .i64 0, .slice none 0 0, .slice none 0 0, .slice none 0 0] 39)).alloc (.cells (madeCells #[.int .i64 0] s.labels) 3))) := (zA2 w _).alloc (zA2 w _).size _
 have HG : Hid (((w.alloc (.cells #[.string ⟨#[]⟩, .string ⟨#[]⟩, .bool false, .bool false, .int .i64 0, .int .i64 0, .slice none 0 0, .slice none 0 0, .slice none 0 0] 39)).alloc (.cells (madeCells #[.int .i64 0] s.labels) 3)).heap[w.heap.size + 1]? = some (.cells (zBi (List.replicate s.labels 0)).toArray 3 (0, 0))) := by
  show _ = _
  rw [← zO2]
  exact zCb (by simp)
 have HQ : Hid (((w.alloc (.cells #[.string ⟨#[]⟩, .string ⟨#[]⟩, .bool false, .bool false, .int .i64 0, .int .i64 0, .slice none 0 0, .slice none 0 0, .slice none 0 0] 39)).alloc (.cells (madeCells #[.int .i64 0] s.labels) 3)).heap[w.heap.size]? = some (.cells #[.string ⟨#[]⟩, .string ⟨#[]⟩, .bool false, .bool false, .int .i64 0, .int .i64 0, .slice none 0 0, .slice none 0 0, .slice none 0 0] 39 (0, 0))) := by
  show _ = _
  rw [(zA2 _ _).block _ (by simp)]
  exact heap_alloc_new w _
 generalize ((w.alloc (.cells #[.string ⟨#[]⟩, .string ⟨#[]⟩, .bool false, .bool false, .int .i64 0, .int .i64 0, .slice none 0 0, .slice none 0 0, .slice none 0 0] 39)).alloc (.cells (madeCells #[.int .i64 0] s.labels) 3)) = W1 at *
 have hgp : w.heap.size ≤ w.heap.size + 1 := Nat.le_succ _
 generalize w.heap.size + 1 = gp at *
 clear k3
 have HZ0 : Hid (plc (s.ls.drop 0) 0 (List.replicate s.labels 0) = zCo s.sg) := rfl
 have HCZ : Hid (zBw s.sg = cod (zCo s.sg) s.ls 0) := rfl
 have HFZ : Hid (zDi s.sg = fra s.ts s.ls 0 []) := rfl
 generalize hPE : zCo s.sg = PS at *
 generalize hCE : zBw s.sg = CZ at *
 generalize hFE : zDi s.sg = FZ at *
 have HPE := zA0 hPE
 have HCE := zA0 hCE
 have HFE := zA0 hFE
 clear hPE hCE hFE
 go_wp2_with fail
 go_loopw [10, 11] (fun at_ i_ wr => ∃ (k : Nat) (p : Int) (ps : List Int), i_ = .int .i64 (k : Int) ∧ at_ = .int .i64 p ∧ k ≤ s.ls.length ∧ 0 ≤ p ∧ p ≤ 3 * k ∧ ps.length = s.labels ∧ wr.heap[gp]? = some (.cells (zBi ps).toArray 3 (0, 0)) ∧ wr.heap[w.heap.size]? = some (.cells #[.string ⟨#[]⟩, .string ⟨#[]⟩, .bool false, .bool false, .int .i64 0, .int .i64 0, .slice none 0 0, .slice none 0 0, .slice none 0 0] 39 (0, 0)) ∧ Below w.heap.size w wr ∧ plc (s.ls.drop k) p ps = PS) (fun _ i_ _ => s.ls.length - (intOf i_).toNat)
 case atStart => exact ⟨0, 0, _, rfl, rfl, Nat.zero_le _, by omega, by omega, by simp, HG.out, HQ.out, HB.out, HZ0.out⟩
 case round =>
  clear HB HG HQ HZ0
  obtain ⟨k, p, ps, rfl, rfl, hk, hp0, hp1, hpl, hg, hq, hb, hZ⟩ := hrel
  have HB := zA0 hb
  have HG := zA0 hg
  have HQ := zA0 hq
  have HZ := zA0 hZ
  clear hb hg hq hZ
  have k2 := zA1 (HP0.out.below HB.out).blk 2 (v := s.vl) rfl
  rw [HEL.out] at k2
  by_cases hlt : k < s.ls.length
  · have hlt' : (k : Int) < (s.ls.length : Int) := by omega
    obtain ⟨x, hx⟩ : ∃ x, s.ls[k]? = some x := ⟨s.ls[k], List.getElem?_eq_getElem hlt⟩
    obtain ⟨gl, capl', ev, hgl, l0, l1, l2, l3, l4, l5⟩ := zLu (HP0.out.below HB.out).l hx
    rw [HEL.out] at ev
    cases ev
    have hxr := HR.out.ls x (List.mem_of_getElem? hx)
    have hxr1 : x.lb < (s.labels : Int) := hxr.1
    have hxr2 : x.hr < (s.labels : Int) := hxr.2
    rw [plc_at hx] at HZ
    have hsz := zPj x.op
    clear hx hxr l0 l2 l3 l4
    by_cases hh : 0 ≤ x.hr
    · rw [if_pos hh] at HZ
      obtain ⟨q, hq⟩ := Int.eq_ofNat_of_zero_le hh
      rw [hq] at l5 hxr2 HZ
      have hql : q < ps.length := by omega
      have cq : wr.cell? ⟨gp, q, none⟩ = some (.int .i64 ps[q]) := zA1 HG.out q (by simp [zBi, hql])
      have cf := zAa HG.out
      rw [Int.toNat_natCast] at HZ
      clear hq hh
      have HG2 : Hid ((wr.setCell ⟨gp, q, none⟩ (.int .i64 p)).heap[gp]? = some (.cells (zBi (ps.set q p)).toArray 3 (0, 0))) := by
       show _ = _
       rw [zB3 HG.out]
       congr 2
       simp [zBi, List.map_set]
      have HQ2 : Hid ((wr.setCell ⟨gp, q, none⟩ (.int .i64 p)).heap[w.heap.size]? = some (.cells #[.string ⟨#[]⟩, .string ⟨#[]⟩, .bool false, .bool false, .int .i64 0, .int .i64 0, .slice none 0 0, .slice none 0 0, .slice none 0 0] 39 (0, 0))) := by
       show _ = _
       rw [Below.heap_setCell _ _ _ _ (zBg HQ.out HG.out (by decide))]
       exact HQ.out
      have HB2 := zA0 (zAd (o := q) (u := .int .i64 p) HB.out hgp)
      go_wp2_with fail
      exact ⟨⟨k + 1, p, _, by go_num, rfl, by omega, hp0, by omega, by rw [List.length_set]; exact hpl, HG2.out, HQ2.out, HB2.out, HZ.out⟩, by simp [intOf]; omega⟩
    · rw [if_neg hh] at HZ
      have G1 := zA0 (GZ.out x.op wr)
      go_wp2_with (go_at_call 143; refine G1.out.mono ?_; rintro e w2 ⟨rfl, b2⟩)
      exact ⟨⟨k + 1, p + (sz x.op : Nat), ps, by go_num, by go_num, by omega, by omega, by omega, hpl, (b2.block _ (Array.getElem?_eq_some_iff.1 HG.out).1).trans HG.out, (b2.block _ (Array.getElem?_eq_some_iff.1 HQ.out).1).trans HQ.out, HB.out.trans (b2.mono HB.out.size), HZ.out⟩, by simp [intOf]; omega⟩
  · have hlt' : ¬ (k : Int) < (s.ls.length : Int) := by omega
    obtain rfl : k = s.ls.length := by omega
    rw [List.drop_length] at HZ
    have HZ2 : Hid (ps = PS) := HZ.out
    obtain rfl := HZ2.out
    clear HZ HZ2
    generalize wr = W2 at *
    have HM2 := zA0 (HM.out.below HB.out)
    have HTY := zA0 (zFu B pr pm n d pl s.sg W2 HM2.out)
    go_upto_region 9 with (fail)
    clear HM HL k2 hlt hlt' hk hp0 hp1
    go_wp2_with (go_at_call 136; refine HTY.out.mono ?_; rintro e w2 ⟨rfl, rfl⟩)
    have hgo : w.heap.size ≤ W2.heap.size + 1 := Nat.le_succ_of_le HB.out.size
    have HB3 : Hid (Below w.heap.size w ((W2.alloc (.cells (zB5 pl).toArray 9)).alloc (.cells #[.string nm, .string ds, .bool st, .bool false, .int .i64 16, .int .i64 ((zB5 pl).length : Nat), .slice none 0 0, .slice none 0 0, .slice none 0 0] 39))) := (HB.out.alloc HB.out.size _).alloc (by have := HB.out.size; simp; omega) _
    have HG3 : Hid (((W2.alloc (.cells (zB5 pl).toArray 9)).alloc (.cells #[.string nm, .string ds, .bool st, .bool false, .int .i64 16, .int .i64 ((zB5 pl).length : Nat), .slice none 0 0, .slice none 0 0, .slice none 0 0] 39)).heap[gp]? = some (.cells (zBi ps).toArray 3 (0, 0))) := by
     show _ = _
     rw [(zA2 _ _).block _ (by have := (Array.getElem?_eq_some_iff.1 HG.out).1; simp; omega), (zA2 _ _).block _ (Array.getElem?_eq_some_iff.1 HG.out).1]
     exact HG.out
    have HQ3 : Hid (((W2.alloc (.cells (zB5 pl).toArray 9)).alloc (.cells #[.string nm, .string ds, .bool st, .bool false, .int .i64 16, .int .i64 ((zB5 pl).length : Nat), .slice none 0 0, .slice none 0 0, .slice none 0 0] 39)).heap[w.heap.size]? = some (.cells #[.string ⟨#[]⟩, .string ⟨#[]⟩, .bool false, .bool false, .int .i64 0, .int .i64 0, .slice none 0 0, .slice none 0 0, .slice none 0 0] 39 (0, 0))) := by
     show _ = _
     rw [(zA2 _ _).block _ (by have := (Array.getElem?_eq_some_iff.1 HQ.out).1; simp; omega), (zA2 _ _).block _ (Array.getElem?_eq_some_iff.1 HQ.out).1]
     exact HQ.out
    have HO3 : Hid (((W2.alloc (.cells (zB5 pl).toArray 9)).alloc (.cells #[.string nm, .string ds, .bool st, .bool false, .int .i64 16, .int .i64 ((zB5 pl).length : Nat), .slice none 0 0, .slice none 0 0, .slice none 0 0] 39)).heap[W2.heap.size + 1]? = some (.cells #[.string nm, .string ds, .bool st, .bool false, .int .i64 16, .int .i64 ((zB5 pl).length : Nat), .slice none 0 0, .slice none 0 0, .slice none 0 0] 39 (0, 0))) := by
     show _ = _
     exact zCb (by simp)
    have HNE : Hid (W2.heap.size + 1 ≠ w.heap.size) := by
     show _ ≠ _
     have := HB.out.size
     omega
    have HOI := zA0 (zAu ((W2.alloc (.cells (zB5 pl).toArray 9)).alloc (.cells #[.string nm, .string ds, .bool st, .bool false, .int .i64 16, .int .i64 ((zB5 pl).length : Nat), .slice none 0 0, .slice none 0 0, .slice none 0 0] 39)) w.heap.size 179 4)
    have HOF := zA0 (zAu ((W2.alloc (.cells (zB5 pl).toArray 9)).alloc (.cells #[.string nm, .string ds, .bool st, .bool false, .int .i64 16, .int .i64 ((zB5 pl).length : Nat), .slice none 0 0, .slice none 0 0, .slice none 0 0] 39)) w.heap.size 67 3)
    generalize ((W2.alloc (.cells (zB5 pl).toArray 9)).alloc (.cells #[.string nm, .string ds, .bool st, .bool false, .int .i64 16, .int .i64 ((zB5 pl).length : Nat), .slice none 0 0, .slice none 0 0, .slice none 0 0] 39)) = W3 at *
    clear HB HG HQ HTY HM2
    generalize W2.heap.size + 1 = go at *
    have HC0 : Hid (([] : List IN) ++ cod ps (s.ls.drop 0) 0 = CZ) := HCZ.out.symm
    have HF0 : Hid (fra s.ts (s.ls.drop 0) 0 [] = FZ) := HFZ.out.symm
    go_loopw [10, 12, 14] (fun at_ vc i_ wr => ∃ (k : Nat) (p : Int) (cd : List IN) (fs : List FM) (zs : List (Int × Bool)) (vf : Value), i_ = .int .i64 (k : Int) ∧ at_ = .int .i64 p ∧ k ≤ s.ls.length ∧ 0 ≤ p ∧ p ≤ 3 * k ∧ cd.length ≤ k ∧ fs.length ≤ k ∧ wr.ownsRow w.heap.size 179 4 vc cd.length (zCf cd) ∧ wr.ownsRow w.heap.size 67 3 vf fs.length (zC9 fs) ∧ FRs pl wr fs zs ∧ wr.heap[go]? = some (.cells #[.string nm, .string ds, .bool st, .bool false, .int .i64 16, .int .i64 ((zB5 pl).length : Nat), .slice none 0 0, .slice none 0 0, vf] 39 (0, 0)) ∧ wr.heap[gp]? = some (.cells (zBi ps).toArray 3 (0, 0)) ∧ wr.heap[w.heap.size]? = some (.cells #[.string ⟨#[]⟩, .string ⟨#[]⟩, .bool false, .bool false, .int .i64 0, .int .i64 0, .slice none 0 0, .slice none 0 0, .slice none 0 0] 39 (0, 0)) ∧ Below w.heap.size w wr ∧ cd ++ cod ps (s.ls.drop k) p = CZ ∧ fra s.ts (s.ls.drop k) p zs = FZ) (fun _ _ i_ _ => s.ls.length - (intOf i_).toNat)
    case atStart => exact ⟨0, 0, [], [], [], _, rfl, rfl, Nat.zero_le _, by omega, by omega, by simp, by simp, HOI.out, HOF.out, FRs.nil, HO3.out, HG3.out, HQ3.out, HB3.out, HC0.out, HF0.out⟩
    case round =>
     clear HB3 HG3 HQ3 HO3 HC0 HF0 HOI HOF
     obtain ⟨k, p, cd, fs, zs, vf, rfl, rfl, hk, hp0, hp1, hcl, hfl, hoc, hof, hfr, ho, hg, hq, hb, hc, hf⟩ := hrel
     obtain ⟨aoc, capc, rfl⟩ := zA4 hoc
     obtain ⟨aof, capf, rfl⟩ := zA4 hof
     have HB := zA0 hb
     have HG := zA0 hg
     have HQ := zA0 hq
     have HO := zA0 ho
     have HOC := zA0 hoc
     have HOF := zA0 hof
     have HFR := zA0 hfr
     have HC := zA0 hc
     have HF := zA0 hf
     clear hb hg hq ho hoc hof hfr hc hf
     have k2 := zA1 (HP0.out.below HB.out).blk 2 (v := s.vl) rfl
     rw [HEL.out] at k2
     by_cases hlt : k < s.ls.length
     · have hlt' : (k : Int) < (s.ls.length : Int) := by omega
       obtain ⟨x, hx⟩ : ∃ x, s.ls[k]? = some x := ⟨s.ls[k], List.getElem?_eq_getElem hlt⟩
       obtain ⟨gl, capl', ev, hgl, l0, l1, l2, l3, l4, l5⟩ := zLu (HP0.out.below HB.out).l hx
       rw [HEL.out] at ev
       cases ev
       have hxr := HR.out.ls x (List.mem_of_getElem? hx)
       have hxr1 : x.lb < (s.labels : Int) := hxr.1
       have hxr2 : x.hr < (s.labels : Int) := hxr.2
       rw [cod_at hx] at HC
       rw [fra_at hx] at HF
       have hsz := zPj x.op
       clear hx hxr
       by_cases hh : 0 ≤ x.hr
       · rw [if_pos hh] at HC HF
         go_upto_region 17 with (fail)
         clear k2 l0 l1 l2 l3 l4 l5
         have HA4 : Hid (Below wr.heap.size wr (wr.alloc (.cells #[.int .i64 x.pl, .int .i64 x.op, .int .i64 x.a, .int .i64 x.b, .int .i64 x.lb, .int .i64 x.hr] 181))) := zA2 wr _
         have HA5 : Hid (Below wr.heap.size wr (wr.alloc (.cells #[.int .i64 x.pl, .int .i64 x.op, .int .i64 x.a, .int .i64 x.b, .int .i64 x.lb, .int .i64 x.hr] 181)).drew) := zA5 (zA2 wr _) 1
         have HX4 : Hid ((wr.alloc (.cells #[.int .i64 x.pl, .int .i64 x.op, .int .i64 x.a, .int .i64 x.b, .int .i64 x.lb, .int .i64 x.hr] 181)).heap[wr.heap.size]? = some (.cells #[.int .i64 x.pl, .int .i64 x.op, .int .i64 x.a, .int .i64 x.b, .int .i64 x.lb, .int .i64 x.hr] 181 (0, 0))) := heap_alloc_new wr _
         have HX5 : Hid ((wr.alloc (.cells #[.int .i64 x.pl, .int .i64 x.op, .int .i64 x.a, .int .i64 x.b, .int .i64 x.lb, .int .i64 x.hr] 181)).drew.heap[wr.heap.size]? = some (.cells #[.int .i64 x.pl, .int .i64 x.op, .int .i64 x.a, .int .i64 x.b, .int .i64 x.lb, .int .i64 x.hr] 181 (0, 0))) := heap_alloc_new wr _
         generalize wr.alloc (.cells #[.int .i64 x.pl, .int .i64 x.op, .int .i64 x.a, .int .i64 x.b, .int .i64 x.lb, .int .i64 x.hr] 181) = W4 at *
         generalize hWX : wr.heap.size = gx at *
         have HWX := zA0 hWX
         clear hWX
         have HS4 := zA0 (zA1 HX4.out 5 (v := .int .i64 x.hr) rfl)
         have HS5 := zA0 (zA1 HX5.out 5 (v := .int .i64 x.hr) rfl)
         have HB5 := zA0 (HB.out.trans (HA5.out.mono (HWX.out ▸ HB.out.size)))
         have HS9 : Hid (∀ T, Same T wr W4.drew) := fun T => Same.of_below (HWX.out.symm ▸ HA5.out)
         have HM5 := zA0 (HM0.out.below HB5.out)
         have HTY := zA0 (zFu B pr pm n d pl s.sg W4.drew HM5.out)
         have HO5 := zA0 (HS9.out _ _ _ HO.out)
         have hgo5 := (Array.getElem?_eq_some_iff.1 HO5.out).1
         have c8 := zA1 HO5.out 8 (v := .slice aof fs.length capf) rfl
         have HA6 : Hid (Below W4.drew.heap.size W4.drew (W4.drew.alloc (.cells (zB5 pl).toArray 9))) := zA2 _ _
         have HK6 : Hid ((W4.drew.alloc (.cells (zB5 pl).toArray 9)).heap[W4.drew.heap.size]? = some (.cells (zB5 pl).toArray 9 (0, 0))) := heap_alloc_new _ _
         have HT6 : Hid (∀ T, Same T W4.drew (W4.drew.alloc (.cells (zB5 pl).toArray 9))) := fun T => Same.of_below HA6.out
         have HS6 := zA0 (zA1 (HT6.out _ _ _ HX5.out) 5 (v := .int .i64 x.hr) rfl)
         have HM6 := zA0 (HM5.out.below HA6.out)
         have HCA := zA0 (zN8 B pr pm n d pl s.sg x.hr _ HM6.out hn)
         have HFA := zA0 (fun al => zP8 w.heap.size w.heap.size (.slice aof fs.length capf) fs p al (zB5 pl).length (zB5 pl).length (isIn s.sg.ts x.hr) _ (zA3 HOF.out (fun g c hg => HT6.out _ _ _ (HS9.out _ _ _ hg))) (by omega) (Nat.le_trans HB5.out.size HA6.out.size))
         have e8 := zA1 (HT6.out _ _ _ HO5.out) 8 (v := .slice aof fs.length capf) rfl
         generalize W4.drew.alloc (.cells (zB5 pl).toArray 9) = W6 at *
         rw [show s.ts = s.sg.ts from rfl] at HF
         generalize (isIn s.sg.ts x.hr) = bt at *
         refine wp_region_noPanic ?_
         refine wp_region_held_drew (S := (fun W => W.cell? ⟨gx, 5, none⟩ = some (.int .i64 x.hr))) (by kernel_rfl) ?_ (fun hHeld => ?_)
         · (try dsimp only); first | exact HS4.out | exact HS5.out | exact HS6.out | exact HS7.out | exact HS8.out
         refine tH 0 ?q0 rfl rfl ?q1 ?q2
         case q1 => intro w hSw; (try dsimp only at hSw); go_simp; try with_reducible rfl
         try simp only [Act.put, sq1, sq2, sq3]
         refine tH 2 ?q3 rfl rfl ?q4 ?q5
         case q4 => intro w hSw; (try dsimp only at hSw); go_simp; try with_reducible rfl
         try simp only [Act.put, sq1, sq2, sq3]
         refine tH 3 ?q6 rfl rfl ?q7 ?q8
         case q7 => intro w hSw; (try dsimp only at hSw); go_simp; try with_reducible rfl
         try simp only [Act.put, sq1, sq2, sq3]
         refine tH 5 ?q9 rfl rfl ?qb ?qc
         case qb => intro w hSw; (try dsimp only at hSw); go_simp; try with_reducible rfl
         try simp only [Act.put, sq1, sq2, sq3]
         refine tH 6 ?qd rfl rfl ?qe ?qg
         case qe => intro w hSw; (try dsimp only at hSw); go_simp; try with_reducible rfl
         try simp only [Act.put, sq1, sq2, sq3]
         refine tH 7 ?qh rfl rfl ?qi ?qj
         case qi => intro w hSw; (try dsimp only at hSw); go_simp; try with_reducible rfl
         try simp only [Act.put, sq1, sq2, sq3]
         refine wpAnyH_ready (rs := [1, 4]) (by kernel_rfl) (by simp) ?_
         refine (cH rfl (fun K hK => ?_) (cH rfl (fun K hK => ?_) AllReadyH.nil))
         · have hdum := True.intro
           go_simp
           try go_wp2_with fail
           refine hK.out _ _ ?qk ?ql
           case qk => (try dsimp only); first | exact HS4.out | exact HS5.out | exact HS6.out | exact HS7.out | exact HS8.out
           clear hK K hHeld
           intro hHeld
           try simp only [Act.put, sq1, sq2, sq3]
           refine oH 4 rfl (fun K hK => ?_)
           go_simp
           go_at_call 136; refine HTY.out.mono ?_; rintro e w2 ⟨rfl, rfl⟩
           try go_wp2_with fail
           refine hK.out _ _ ?qm ?qn
           case qm => (try dsimp only); first | exact HS4.out | exact HS5.out | exact HS6.out | exact HS7.out | exact HS8.out
           clear hK K hHeld
           intro hHeld
           try simp only [Act.put, sq1, sq2, sq3]
           refine oH 8 rfl (fun K hK => ?_)
           go_simp
           go_at_call 145; refine HCA.out.mono ?_; rintro e w2 ⟨rfl, rfl⟩
           try go_wp2_with fail
           refine hK.out _ _ ?qo ?qp
           case qo => (try dsimp only); first | exact HS4.out | exact HS5.out | exact HS6.out | exact HS7.out | exact HS8.out
           clear hK K hHeld
           intro hHeld
           try simp only [Act.put, sq1, sq2, sq3]
           refine oH 9 rfl (fun K hK => ?_)
           go_simp
           go_at_call 144; refine (HFA.out _).mono ?_; intro e w7 hq7; obtain ⟨v7, fs7, rfl, own7, hc7, kq7, sm7⟩ := hq7; obtain ⟨ao7, cap7, rfl⟩ := zA4 own7; have HW7 := zA0 own7; have HC7 := zA0 hc7; have HK7 := zA0 kq7; have HM7 := zA0 sm7; clear own7 hc7 kq7 sm7; have HO7 := zA0 (HM7.out _ (by decide) _ _ (HT6.out _ _ _ HO5.out)); have HX7 := zA0 (HM7.out _ (by decide) _ _ (HT6.out _ _ _ HX5.out)); have HS7 := zA0 (zA1 HX7.out 5 (v := .int .i64 x.hr) rfl); have HS8 := zA0 (zA1 (Same.of_set (o := 8) (u := .slice ao7 fs7.length cap7) HO7.out (T := 181) (by decide) _ _ HX7.out) 5 (v := .int .i64 x.hr) rfl); have d8 := zA1 HO7.out 8 (v := .slice aof fs.length capf) rfl; have df := zAa HO7.out
           try go_wp2_with fail
           refine hK.out _ _ ?qq ?qr
           case qq => (try dsimp only); first | exact HS4.out | exact HS5.out | exact HS6.out | exact HS7.out | exact HS8.out
           clear hK K hHeld
           intro hHeld
           try simp only [Act.put, sq1, sq2, sq3]
           refine tH 10 ?qs rfl rfl ?qu ?qv
           case qu => intro w hSw; (try dsimp only at hSw); go_simp; try with_reducible rfl
           try simp only [Act.put, sq1, sq2, sq3]
           refine oH 11 rfl (fun K hK => ?_)
           go_simp
           try go_wp2_with fail
           refine hK.out _ _ ?qw ?qx
           case qw => (try dsimp only); first | exact HS4.out | exact HS5.out | exact HS6.out | exact HS7.out | exact HS8.out
           clear hK K hHeld
           intro hHeld
           try simp only [Act.put, sq1, sq2, sq3]
           refine eH ?_
           refine NoPanic.normal ?_
           go_wp2_with fail
           have HR8 := zA0 (zJa HFR.out (fun g c hg => HM7.out _ (by decide) _ _ (HT6.out _ _ _ (HS9.out _ _ _ hg))) HC7.out ⟨_, rfl, HM7.out _ (by decide) _ _ HK6.out⟩)
           exact ⟨⟨k + 1, p, cd, fs7, _, _, by go_num, rfl, by omega, hp0, by omega, by omega, by have := HR8.out.2; omega, zA3 HOC.out (fun g c hg => Same.of_set HO7.out (by decide) _ _ (HM7.out _ (by decide) _ _ (HT6.out _ _ _ (HS9.out _ _ _ hg)))), zA3 HW7.out (Same.of_set HO7.out (by decide)), HR8.out.1.same (Same.of_set HO7.out (by decide)), by rw [zB3 HO7.out]; rfl, Same.of_set HO7.out (by decide) _ _ (HM7.out _ (by decide) _ _ (HT6.out _ _ _ (HS9.out _ _ _ HG.out))), by rw [Below.heap_setCell _ _ _ _ HNE.out.symm]; exact HM7.out _ (by decide) _ _ (HT6.out _ _ _ (HS9.out _ _ _ HQ.out)), zAd ((HB5.out.trans (HA6.out.mono HB5.out.size)).trans (zIy HK7.out)) hgo, HC.out, HF.out⟩, by simp [intOf]; omega⟩
         · have hdum := True.intro
           go_simp
           go_at_call 136; refine HTY.out.mono ?_; rintro e w2 ⟨rfl, rfl⟩
           try go_wp2_with fail
           refine hK.out _ _ ?qy ?qz
           case qy => (try dsimp only); first | exact HS4.out | exact HS5.out | exact HS6.out | exact HS7.out | exact HS8.out
           clear hK K hHeld
           intro hHeld
           try simp only [Act.put, sq1, sq2, sq3]
           refine wpAnyH_ready (rs := [1, 8]) (by kernel_rfl) (by simp) ?_
           refine (cH rfl (fun K hK => ?_) (cH rfl (fun K hK => ?_) AllReadyH.nil))
           · have hdum := True.intro
             go_simp
             try go_wp2_with fail
             refine hK.out _ _ ?qA ?qB
             case qA => (try dsimp only); first | exact HS4.out | exact HS5.out | exact HS6.out | exact HS7.out | exact HS8.out
             clear hK K hHeld
             intro hHeld
             try simp only [Act.put, sq1, sq2, sq3]
             refine oH 8 rfl (fun K hK => ?_)
             go_simp
             go_at_call 145; refine HCA.out.mono ?_; rintro e w2 ⟨rfl, rfl⟩
             try go_wp2_with fail
             refine hK.out _ _ ?qC ?qD
             case qC => (try dsimp only); first | exact HS4.out | exact HS5.out | exact HS6.out | exact HS7.out | exact HS8.out
             clear hK K hHeld
             intro hHeld
             try simp only [Act.put, sq1, sq2, sq3]
             refine oH 9 rfl (fun K hK => ?_)
             go_simp
             go_at_call 144; refine (HFA.out _).mono ?_; intro e w7 hq7; obtain ⟨v7, fs7, rfl, own7, hc7, kq7, sm7⟩ := hq7; obtain ⟨ao7, cap7, rfl⟩ := zA4 own7; have HW7 := zA0 own7; have HC7 := zA0 hc7; have HK7 := zA0 kq7; have HM7 := zA0 sm7; clear own7 hc7 kq7 sm7; have HO7 := zA0 (HM7.out _ (by decide) _ _ (HT6.out _ _ _ HO5.out)); have HX7 := zA0 (HM7.out _ (by decide) _ _ (HT6.out _ _ _ HX5.out)); have HS7 := zA0 (zA1 HX7.out 5 (v := .int .i64 x.hr) rfl); have HS8 := zA0 (zA1 (Same.of_set (o := 8) (u := .slice ao7 fs7.length cap7) HO7.out (T := 181) (by decide) _ _ HX7.out) 5 (v := .int .i64 x.hr) rfl); have d8 := zA1 HO7.out 8 (v := .slice aof fs.length capf) rfl; have df := zAa HO7.out
             try go_wp2_with fail
             refine hK.out _ _ ?qE ?qF
             case qE => (try dsimp only); first | exact HS4.out | exact HS5.out | exact HS6.out | exact HS7.out | exact HS8.out
             clear hK K hHeld
             intro hHeld
             try simp only [Act.put, sq1, sq2, sq3]
             refine tH 10 ?qG rfl rfl ?qH ?qI
             case qH => intro w hSw; (try dsimp only at hSw); go_simp; try with_reducible rfl
             try simp only [Act.put, sq1, sq2, sq3]
             refine oH 11 rfl (fun K hK => ?_)
             go_simp
             try go_wp2_with fail
             refine hK.out _ _ ?qJ ?qK
             case qJ => (try dsimp only); first | exact HS4.out | exact HS5.out | exact HS6.out | exact HS7.out | exact HS8.out
             clear hK K hHeld
             intro hHeld
             try simp only [Act.put, sq1, sq2, sq3]
             refine eH ?_
             refine NoPanic.normal ?_
             go_wp2_with fail
             have HR8 := zA0 (zJa HFR.out (fun g c hg => HM7.out _ (by decide) _ _ (HT6.out _ _ _ (HS9.out _ _ _ hg))) HC7.out ⟨_, rfl, HM7.out _ (by decide) _ _ HK6.out⟩)
             exact ⟨⟨k + 1, p, cd, fs7, _, _, by go_num, rfl, by omega, hp0, by omega, by omega, by have := HR8.out.2; omega, zA3 HOC.out (fun g c hg => Same.of_set HO7.out (by decide) _ _ (HM7.out _ (by decide) _ _ (HT6.out _ _ _ (HS9.out _ _ _ hg)))), zA3 HW7.out (Same.of_set HO7.out (by decide)), HR8.out.1.same (Same.of_set HO7.out (by decide)), by rw [zB3 HO7.out]; rfl, Same.of_set HO7.out (by decide) _ _ (HM7.out _ (by decide) _ _ (HT6.out _ _ _ (HS9.out _ _ _ HG.out))), by rw [Below.heap_setCell _ _ _ _ HNE.out.symm]; exact HM7.out _ (by decide) _ _ (HT6.out _ _ _ (HS9.out _ _ _ HQ.out)), zAd ((HB5.out.trans (HA6.out.mono HB5.out.size)).trans (zIy HK7.out)) hgo, HC.out, HF.out⟩, by simp [intOf]; omega⟩
           · have hdum := True.intro
             go_simp
             go_at_call 145; refine HCA.out.mono ?_; rintro e w2 ⟨rfl, rfl⟩
             try go_wp2_with fail
             refine hK.out _ _ ?qL ?qM
             case qL => (try dsimp only); first | exact HS4.out | exact HS5.out | exact HS6.out | exact HS7.out | exact HS8.out
             clear hK K hHeld
             intro hHeld
             try simp only [Act.put, sq1, sq2, sq3]
             refine oH 1 rfl (fun K hK => ?_)
             go_simp
             try go_wp2_with fail
             refine hK.out _ _ ?qN ?qO
             case qN => (try dsimp only); first | exact HS4.out | exact HS5.out | exact HS6.out | exact HS7.out | exact HS8.out
             clear hK K hHeld
             intro hHeld
             try simp only [Act.put, sq1, sq2, sq3]
             refine oH 9 rfl (fun K hK => ?_)
             go_simp
             go_at_call 144; refine (HFA.out _).mono ?_; intro e w7 hq7; obtain ⟨v7, fs7, rfl, own7, hc7, kq7, sm7⟩ := hq7; obtain ⟨ao7, cap7, rfl⟩ := zA4 own7; have HW7 := zA0 own7; have HC7 := zA0 hc7; have HK7 := zA0 kq7; have HM7 := zA0 sm7; clear own7 hc7 kq7 sm7; have HO7 := zA0 (HM7.out _ (by decide) _ _ (HT6.out _ _ _ HO5.out)); have HX7 := zA0 (HM7.out _ (by decide) _ _ (HT6.out _ _ _ HX5.out)); have HS7 := zA0 (zA1 HX7.out 5 (v := .int .i64 x.hr) rfl); have HS8 := zA0 (zA1 (Same.of_set (o := 8) (u := .slice ao7 fs7.length cap7) HO7.out (T := 181) (by decide) _ _ HX7.out) 5 (v := .int .i64 x.hr) rfl); have d8 := zA1 HO7.out 8 (v := .slice aof fs.length capf) rfl; have df := zAa HO7.out
             try go_wp2_with fail
             refine hK.out _ _ ?qP ?qQ
             case qP => (try dsimp only); first | exact HS4.out | exact HS5.out | exact HS6.out | exact HS7.out | exact HS8.out
             clear hK K hHeld
             intro hHeld
             try simp only [Act.put, sq1, sq2, sq3]
             refine tH 10 ?qR rfl rfl ?qS ?qT
             case qS => intro w hSw; (try dsimp only at hSw); go_simp; try with_reducible rfl
             try simp only [Act.put, sq1, sq2, sq3]
             refine oH 11 rfl (fun K hK => ?_)
             go_simp
             try go_wp2_with fail
             refine hK.out _ _ ?qU ?qV
             case qU => (try dsimp only); first | exact HS4.out | exact HS5.out | exact HS6.out | exact HS7.out | exact HS8.out
             clear hK K hHeld
             intro hHeld
             try simp only [Act.put, sq1, sq2, sq3]
             refine eH ?_
             refine NoPanic.normal ?_
             go_wp2_with fail
             have HR8 := zA0 (zJa HFR.out (fun g c hg => HM7.out _ (by decide) _ _ (HT6.out _ _ _ (HS9.out _ _ _ hg))) HC7.out ⟨_, rfl, HM7.out _ (by decide) _ _ HK6.out⟩)
             exact ⟨⟨k + 1, p, cd, fs7, _, _, by go_num, rfl, by omega, hp0, by omega, by omega, by have := HR8.out.2; omega, zA3 HOC.out (fun g c hg => Same.of_set HO7.out (by decide) _ _ (HM7.out _ (by decide) _ _ (HT6.out _ _ _ (HS9.out _ _ _ hg)))), zA3 HW7.out (Same.of_set HO7.out (by decide)), HR8.out.1.same (Same.of_set HO7.out (by decide)), by rw [zB3 HO7.out]; rfl, Same.of_set HO7.out (by decide) _ _ (HM7.out _ (by decide) _ _ (HT6.out _ _ _ (HS9.out _ _ _ HG.out))), by rw [Below.heap_setCell _ _ _ _ HNE.out.symm]; exact HM7.out _ (by decide) _ _ (HT6.out _ _ _ (HS9.out _ _ _ HQ.out)), zAd ((HB5.out.trans (HA6.out.mono HB5.out.size)).trans (zIy HK7.out)) hgo, HC.out, HF.out⟩, by simp [intOf]; omega⟩
       · rw [if_neg hh] at HC HF
         by_cases hl0 : 0 ≤ x.lb
         · obtain ⟨q, hq⟩ := Int.eq_ofNat_of_zero_le hl0
           rw [if_pos hl0] at HC
           rw [hq] at l4 hxr1 HC
           have hql : q < ps.length := by omega
           have cq : wr.cell? ⟨gp, q, none⟩ = some (.int .i64 ps[q]) := zA1 HG.out q (by simp [zBi, hql])
           have hgz := (Array.getElem?_eq_some_iff.1 HG.out).1
           rw [Int.toNat_natCast, List.getElem?_eq_getElem hql, Option.getD_some] at HC
           go_upto_region 21 with (fail)
           clear k2 l0 l1 l2 l3 l4 l5 hlt'
           have V4 := zJo wr (.cells #[.int .i64 p, .int .i64 x.op, .int .i64 (ps[q]), .int .i64 x.b, .int .i64 ((q : Int)), .int .i64 x.hr] 181) ⟨p, x.op, ps[q], x.b⟩
           have O4 := zDt (zDt HOC.out (.cells #[.int .i64 p, .int .i64 x.op, .int .i64 (ps[q]), .int .i64 x.b, .int .i64 ((q : Int)), .int .i64 x.hr] 181)) (.cells #[.int .i64 p, .int .i64 x.op, .int .i64 (ps[q]), .int .i64 x.b] 179)
           have z4 := HB.out.size
           have zc := zA0 HOC.out.lt
           go_wp2_with (first | (at_builtin; refine zEu rfl _ _ rfl w.heap.size _ _ _ _ [⟨p, x.op, ps[q], x.b⟩] rfl O4 rfl V4 (by simp; omega) (by simp; omega) ?_; intro v5 w5 ho5 st5; obtain ⟨ao5, cap5, rfl⟩ := zA4 ho5; have ST5 := zA0 st5; have HO5 := zA0 ho5; have c1 := zA1 (zM6 HOC.out st5) 1 rfl; clear st5 ho5 V4 O4) | (go_at_call 143; refine (GZ.out x.op _).mono ?_; rintro e w6 ⟨rfl, b6⟩))
           exact ⟨⟨k + 1, p + (sz x.op : Nat), cd ++ [⟨p, x.op, ps[q], x.b⟩], fs, zs, _, by go_num, by go_num, by omega, by omega, by omega, by simp; omega, by omega, by rw [List.length_append, zFo]; exact zBx HO5.out b6, zA3 HOF.out (zBv HOC.out ST5.out b6 (by decide)), HFR.out.same (zBv HOC.out ST5.out b6 (by decide)), zBv HOC.out ST5.out b6 (by decide) _ _ HO.out, zBv HOC.out ST5.out b6 (by decide) _ _ HG.out, zBv HOC.out ST5.out b6 (by decide) _ _ HQ.out, zI4 HB.out HOC.out ST5.out b6, by rw [List.append_assoc]; exact HC.out, HF.out⟩, by simp [intOf]; omega⟩
         · rw [if_neg hl0] at HC
           go_upto_region 21 with (fail)
           clear k2 l0 l1 l2 l3 l4 l5 hlt'
           have V4 := zJo wr (.cells #[.int .i64 p, .int .i64 x.op, .int .i64 (x.a), .int .i64 x.b, .int .i64 (x.lb), .int .i64 x.hr] 181) ⟨p, x.op, x.a, x.b⟩
           have O4 := zDt (zDt HOC.out (.cells #[.int .i64 p, .int .i64 x.op, .int .i64 (x.a), .int .i64 x.b, .int .i64 (x.lb), .int .i64 x.hr] 181)) (.cells #[.int .i64 p, .int .i64 x.op, .int .i64 (x.a), .int .i64 x.b] 179)
           have z4 := HB.out.size
           have zc := zA0 HOC.out.lt
           go_wp2_with (first | (at_builtin; refine zEu rfl _ _ rfl w.heap.size _ _ _ _ [⟨p, x.op, x.a, x.b⟩] rfl O4 rfl V4 (by simp; omega) (by simp; omega) ?_; intro v5 w5 ho5 st5; obtain ⟨ao5, cap5, rfl⟩ := zA4 ho5; have ST5 := zA0 st5; have HO5 := zA0 ho5; have c1 := zA1 (zM6 HOC.out st5) 1 rfl; clear st5 ho5 V4 O4) | (go_at_call 143; refine (GZ.out x.op _).mono ?_; rintro e w6 ⟨rfl, b6⟩))
           exact ⟨⟨k + 1, p + (sz x.op : Nat), cd ++ [⟨p, x.op, x.a, x.b⟩], fs, zs, _, by go_num, by go_num, by omega, by omega, by omega, by simp; omega, by omega, by rw [List.length_append, zFo]; exact zBx HO5.out b6, zA3 HOF.out (zBv HOC.out ST5.out b6 (by decide)), HFR.out.same (zBv HOC.out ST5.out b6 (by decide)), zBv HOC.out ST5.out b6 (by decide) _ _ HO.out, zBv HOC.out ST5.out b6 (by decide) _ _ HG.out, zBv HOC.out ST5.out b6 (by decide) _ _ HQ.out, zI4 HB.out HOC.out ST5.out b6, by rw [List.append_assoc]; exact HC.out, HF.out⟩, by simp [intOf]; omega⟩
     · have hlt' : ¬ (k : Int) < (s.ls.length : Int) := by omega
       obtain rfl : k = s.ls.length := by omega
       rw [List.drop_length] at HC HF
       have HC2 : Hid (cd = CZ) := by have e := HC.out; rw [show cod ps [] p = [] from rfl, List.append_nil] at e; exact e
       have HF2 : Hid (zs = FZ) := HF.out
       obtain rfl := HC2.out
       obtain rfl := HF2.out
       clear HC HF HC2 HF2 HCZ HFZ
       have HEN := zA0 (zKu zRc _ cd wr (zEb.of_own HOC.out) hcz)
       have ho6 := zA1 HO.out 6 (v := .slice none 0 0) rfl
       have ho7 := (Array.getElem?_eq_some_iff.1 HO.out).1
       have hof := zAa HO.out
       generalize hEZ : encL cd [] = EZ at *
       have HEZ := zA0 hEZ
       clear hEZ
       go_upto_region 24 with (go_at_call 146; refine HEN.out.mono ?_; rintro e w8 ⟨b8, v8, rfl, own8⟩; obtain ⟨ao8, cap8, rfl⟩ := zA4 own8; have HB8 := zA0 b8; have HO8 := zA0 own8; have HX8 := zA0 ((b8.block _ ho7).trans HO.out); have e6 := zA1 HX8.out 6 (v := .slice none 0 0) rfl; have ef := zAa HX8.out; clear b8 own8)
       have HB9 : Hid (Below w.heap.size w (w8.setCell ⟨go, 6, none⟩ (.slice ao8 EZ.1.length cap8))) := zAd (HB.out.trans (HB8.out.mono HB.out.size)) hgo
       have HO9 : Hid ((w8.setCell ⟨go, 6, none⟩ (.slice ao8 EZ.1.length cap8)).heap[go]? = some (.cells #[.string nm, .string ds, .bool st, .bool false, .int .i64 16, .int .i64 ((zB5 pl).length : Nat), .slice ao8 EZ.1.length cap8, .slice none 0 0, .slice aof fs.length capf] 39 (0, 0))) := by
        show _ = _
        rw [zB3 HX8.out]; rfl
       have HG9 : Hid ((w8.setCell ⟨go, 6, none⟩ (.slice ao8 EZ.1.length cap8)).heap[gp]? = some (.cells (zBi ps).toArray 3 (0, 0))) := Same.of_set HX8.out (by decide) _ _ (Same.of_below HB8.out _ _ HG.out)
       have HQ9 : Hid ((w8.setCell ⟨go, 6, none⟩ (.slice ao8 EZ.1.length cap8)).heap[w.heap.size]? = some (.cells #[.string ⟨#[]⟩, .string ⟨#[]⟩, .bool false, .bool false, .int .i64 0, .int .i64 0, .slice none 0 0, .slice none 0 0, .slice none 0 0] 39 (0, 0))) := by
        show _ = _
        rw [Below.heap_setCell _ _ _ _ HNE.out.symm]
        exact Same.of_below HB8.out _ _ HQ.out
       have HW9 := zA0 (zA3 HO8.out (Same.of_set (o := 6) (u := .slice ao8 EZ.1.length cap8) HX8.out (by decide)))
       have HF9 := zA0 (zA3 (zBx HOF.out HB8.out) (Same.of_set (o := 6) (u := .slice ao8 EZ.1.length cap8) HX8.out (by decide)))
       have HR9 := zA0 ((HFR.out.same (Same.of_below HB8.out)).same (Same.of_set (o := 6) (u := .slice ao8 EZ.1.length cap8) HX8.out (by decide)))
       have HH9 := zA0 (zAu (w8.setCell ⟨go, 6, none⟩ (.slice ao8 EZ.1.length cap8)) w.heap.size 154 4)
       have hb0 := HB.out.size
       generalize (w8.setCell ⟨go, 6, none⟩ (.slice ao8 EZ.1.length cap8)) = W9 at *
       generalize wr.heap.size = b0 at *
       obtain ⟨aoh, caph, eh⟩ := zA4 HP0.out.h
       have HEH := zA0 eh
       have k7 := zA1 (HP0.out.below HB9.out).blk 7 (v := s.vh) rfl
       rw [eh] at k7
       have hhs := HB0.hn
       clear eh HB8 HO8 HX8 e6 ef ho6 ho7 hof HEN HB HG HQ HO HOC HOF HFR hlt hlt' k2
       go_upto_region 25 with (fail)
       clear k7
       go_wp2_with fail
       go_loopw [16] (fun i_ wr => ∃ (j : Nat) (hl : List HN) (vh : Value), i_ = .int .i64 ((s.hs.length : Int) - 1 - (j : Int)) ∧ j ≤ s.hs.length ∧ hl = (s.hs.take j).map (plH ps) ∧ wr.ownsRow w.heap.size 154 4 vh hl.length (zBs hl) ∧ wr.heap[go]? = some (.cells #[.string nm, .string ds, .bool st, .bool false, .int .i64 16, .int .i64 ((zB5 pl).length : Nat), .slice ao8 EZ.1.length cap8, vh, .slice aof fs.length capf] 39 (0, 0)) ∧ wr.heap[gp]? = some (.cells (zBi ps).toArray 3 (0, 0)) ∧ wr.heap[w.heap.size]? = some (.cells #[.string ⟨#[]⟩, .string ⟨#[]⟩, .bool false, .bool false, .int .i64 0, .int .i64 0, .slice none 0 0, .slice none 0 0, .slice none 0 0] 39 (0, 0)) ∧ Below w.heap.size w wr ∧ wr.ownsRow b0 5 1 (.slice ao8 EZ.1.length cap8) EZ.1.length (zAj EZ.1) ∧ wr.ownsRow w.heap.size 67 3 (.slice aof fs.length capf) fs.length (zC9 fs) ∧ FRs pl wr fs zs) (fun i_ _ => (intOf i_ + 1).toNat)
       case atStart => exact ⟨0, [], .slice none 0 0, by go_num, Nat.zero_le _, by simp, HH9.out, HO9.out, HG9.out, HQ9.out, HB9.out, HW9.out, HF9.out, HR9.out⟩
       case round =>
        clear HB9 HG9 HQ9 HO9 HW9 HF9 HR9 HH9
        obtain ⟨j, hl, vh, rfl, hj, hhl, hoh, ho, hg, hq, hb, hwb, hof, hfr⟩ := hrel
        obtain ⟨aov, capv, rfl⟩ := zA4 hoh
        by_cases hlt : j < s.hs.length
        · have hlt' : (0 : Int) ≤ (s.hs.length : Int) - 1 - (j : Int) := by omega
          obtain ⟨⟨xf, xt, xa⟩, hx⟩ : ∃ x, s.hs[j]? = some x := ⟨_, List.getElem?_eq_getElem hlt⟩
          obtain ⟨gh, caph', ev, hgh, t0, t1, t2⟩ := zRs (HP0.out.below hb).h hx
          rw [HEH.out] at ev
          cases ev
          have k7 := zA1 (HP0.out.below hb).blk 7 (v := s.vh) rfl
          rw [HEH.out] at k7
          obtain ⟨⟨f0, f1⟩, ⟨u0, u1⟩, a0, a1⟩ := HR.out.hs _ (List.mem_of_getElem? hx)
          dsimp only at f0 f1 u0 u1 a0 a1 t0 t1 t2
          obtain ⟨qf, rfl⟩ := Int.eq_ofNat_of_zero_le f0
          obtain ⟨qt, rfl⟩ := Int.eq_ofNat_of_zero_le u0
          obtain ⟨qa, rfl⟩ := Int.eq_ofNat_of_zero_le a0
          have f1' : (qf : Int) < (s.labels : Int) := f1
          have u1' : (qt : Int) < (s.labels : Int) := u1
          have a1' : (qa : Int) < (s.labels : Int) := a1
          clear f0 u0 a0 f1 u1 a1
          have hhz : s.hs.length ≤ 900000 := Nat.le_trans hhs hn
          have hji : (s.hs.length : Int) - 1 - ((s.hs.length : Int) - 1 - (j : Int)) = (j : Int) := by omega
          have hw1 : IntKind.i64.wrap ((s.hs.length : Int) - 1) = (s.hs.length : Int) - 1 := wrap_i64 (by omega) (by omega)
          have hw2 : IntKind.i64.wrap ((s.hs.length : Int) - 1 - ((s.hs.length : Int) - 1 - (j : Int))) = (j : Int) := by rw [hji]; exact wrap_i64 (by omega) (by omega)
          have hw3 : IntKind.i64.wrap (j : Int) = (j : Int) := wrap_i64 (by omega) (by omega)
          have hjl : (j : Int) < (s.hs.length : Int) := by omega
          have HO := zA0 ho
          have HOH := zA0 hoh
          have HG := zA0 hg
          have HQ := zA0 hq
          have HB := zA0 hb
          have HWB := zA0 hwb
          have HOF := zA0 hof
          have HFR := zA0 hfr
          have HHL := zA0 hhl
          have HXX := zA0 hx
          have HSA : Hid (HS27 pm gh j (.slice (some ⟨gh, 0, none⟩) s.hs.length caph) ⟨(qf : Int), (qt : Int), (qa : Int)⟩ wr) := ⟨k7, t0, t1, t2⟩
          have HSB := zA0 (HSA.out.below (zA5 (Below.refl _ _) 1))
          have HSC := zA0 (HSA.out.below (zA2 wr (.cells #[.int .i64 0, .int .i64 0, .int .i64 0] 190)))
          have HSD := zA0 (HSA.out.below (zA5 (zA2 wr (.cells #[.int .i64 0, .int .i64 0, .int .i64 0] 190)) 1))
          have HSE := zA0 (HSA.out.below (zA5 (zA2 wr (.cells #[.int .i64 (qf : Int), .int .i64 (qt : Int), .int .i64 (qa : Int)] 190)) 1))
          clear ho hoh hg hq hb hwb hof hfr hhl hx k7 t0 t1 t2
          go_upto_region 27 with (fail)
          refine wp_region_noPanic ?_
          refine wp_region_held_drew (S := (HS27 pm gh j (.slice (some ⟨gh, 0, none⟩) s.hs.length caph) ⟨(qf : Int), (qt : Int), (qa : Int)⟩)) (by kernel_rfl) ?_ (fun hHeld => ?_)
          · (try dsimp only); first | exact HSA.out | exact HSB.out | exact HSC.out | exact HSD.out | exact HSE.out
          refine tH 0 ?qW rfl rfl ?qX ?qY
          case qX => intro w hSw; (try dsimp only at hSw); go_simp; try with_reducible rfl
          try simp only [Act.put, sq1, sq2, sq3]
          refine tH 1 ?qZ rfl rfl ?j0 ?j1
          case j0 => intro w hSw; (try dsimp only at hSw); go_simp; try with_reducible rfl
          try simp only [Act.put, sq1, sq2, sq3]
          refine tH 2 ?j2 rfl rfl ?j3 ?j4
          case j3 => intro w hSw; (try dsimp only at hSw); go_simp; try with_reducible rfl
          try simp only [Act.put, sq1, sq2, sq3]
          refine tH 3 ?j5 rfl rfl ?j6 ?j7
          case j6 => intro w hSw; (try dsimp only at hSw); go_simp; obtain ⟨S1, S2, S3, S4⟩ := hSw; go_simp; try with_reducible rfl
          try simp only [Act.put, sq1, sq2, sq3]
          refine tH 4 ?j8 rfl rfl ?j9 ?ja
          case j9 => intro w hSw; (try dsimp only at hSw); go_simp; try with_reducible rfl
          try simp only [Act.put, sq1, sq2, sq3]
          refine tH 5 ?jb rfl rfl ?jc ?jd
          case jc => intro w hSw; (try dsimp only at hSw); go_simp; try with_reducible rfl
          try simp only [Act.put, sq1, sq2, sq3]
          refine tH 6 ?je rfl rfl ?jf ?jg
          case jf => intro w hSw; (try dsimp only at hSw); go_simp; try with_reducible rfl
          try simp only [Act.put, sq1, sq2, sq3]
          refine tH 7 ?jh rfl rfl ?ji ?jj
          case ji => intro w hSw; (try dsimp only at hSw); go_simp; obtain ⟨S1, S2, S3, S4⟩ := hSw; go_simp; try with_reducible rfl
          try simp only [Act.put, sq1, sq2, sq3]
          refine tH 8 ?jk rfl rfl ?jl ?jm
          case jl => intro w hSw; (try dsimp only at hSw); go_simp; try with_reducible rfl
          try simp only [Act.put, sq1, sq2, sq3]
          refine tH 9 (.int .i64 ((s.hs.length : Int) - 1)) rfl rfl ?jn ?jo
          case jn => intro w hSw; (try dsimp only at hSw); go_simp; try with_reducible rfl
          try simp only [Act.put, sq1, sq2, sq3]
          refine tH 10 ?jp rfl rfl ?jq ?jr
          case jq => intro w hSw; (try dsimp only at hSw); go_simp; try with_reducible rfl
          try simp only [Act.put, sq1, sq2, sq3]
          refine tH 11 (.int .i64 (j : Int)) rfl rfl ?js ?jt
          case js => intro w hSw; (try dsimp only at hSw); go_simp; try exact hw3
          try simp only [Act.put, sq1, sq2, sq3]
          refine tH 12 (.pointer (some ⟨gh, j * 3, none⟩)) rfl rfl ?ju ?jv
          case ju => intro w hSw; (try dsimp only at hSw); go_simp; try with_reducible rfl
          try simp only [Act.put, sq1, sq2, sq3]
          refine tH 13 ?jw rfl rfl ?jx ?jy
          case jx => intro w hSw; (try dsimp only at hSw); go_simp; obtain ⟨S1, S2, S3, S4⟩ := hSw; go_simp; try with_reducible rfl
          try simp only [Act.put, sq1, sq2, sq3]
          refine oH 14 rfl (fun K hK => ?_)
          go_simp
          try go_wp2_with fail
          refine hK.out _ _ ?jz ?jA
          case jz => (try dsimp only); first | exact HSA.out | exact HSB.out | exact HSC.out | exact HSD.out | exact HSE.out
          clear hK K hHeld
          intro hHeld
          try simp only [Act.put, sq1, sq2, sq3]
          refine oH 15 rfl (fun K hK => ?_)
          go_simp
          try go_wp2_with fail
          refine hK.out _ _ ?jB ?jC
          case jB => (try dsimp only); first | exact HSA.out | exact HSB.out | exact HSC.out | exact HSD.out | exact HSE.out
          clear hK K hHeld
          intro hHeld
          try simp only [Act.put, sq1, sq2, sq3]
          refine eH ?_
          refine NoPanic.normal ?_
          clear HSA HSB HSC HSD HSE hHeld hw1 hw2 hw3 hji hgh
          have HXA : Hid ((wr.alloc (.cells #[.int .i64 (qf : Int), .int .i64 (qt : Int), .int .i64 (qa : Int)] 190)).drew.heap[wr.heap.size]? = some (.cells #[.int .i64 (qf : Int), .int .i64 (qt : Int), .int .i64 (qa : Int)] 190 (0, 0))) := heap_alloc_new wr _
          have HBA : Hid (Below wr.heap.size wr (wr.alloc (.cells #[.int .i64 (qf : Int), .int .i64 (qt : Int), .int .i64 (qa : Int)] 190)).drew) := zA5 (zA2 wr _) 1
          generalize (wr.alloc (.cells #[.int .i64 (qf : Int), .int .i64 (qt : Int), .int .i64 (qa : Int)] 190)).drew = WX at *
          have HSX : Hid (∀ T, Same T wr WX) := fun T => Same.of_below HBA.out
          have HBX := zA0 (HB.out.trans (HBA.out.mono HB.out.size))
          have HOX := zA0 (HSX.out _ _ _ HO.out)
          have HGX := zA0 (HSX.out _ _ _ HG.out)
          have HQX := zA0 (HSX.out _ _ _ HQ.out)
          have HHX := zA0 (zA3 HOH.out (HSX.out _))
          have HWX := zA0 (zA3 HWB.out (HSX.out _))
          have HFX := zA0 (zA3 HOF.out (HSX.out _))
          have HRX := zA0 (HFR.out.same (HSX.out _))
          generalize wr.heap.size = gx at *
          clear HO HG HQ HOH HWB HOF HFR HB HBA HSX
          have hql1 : qf < ps.length := by omega
          have hql2 : qt < ps.length := by omega
          have hql3 : qa < ps.length := by omega
          have c7a := zA1 HOX.out 7 (v := .slice aov hl.length capv) rfl
          have SX := zA0 (HS28.of HXA.out HGX.out hql1 hql2 hql3)
          have BA := zA0 (zA5 (zA2 WX (.cells (hrow ⟨ps[qf], ps[qt], ps[qa], ⟨#[84, 104, 114, 111, 119, 97, 98, 108, 101]⟩⟩).toArray 154)) 1)
          have SA : Hid (∀ T, Same T WX (WX.alloc (.cells (hrow ⟨ps[qf], ps[qt], ps[qa], ⟨#[84, 104, 114, 111, 119, 97, 98, 108, 101]⟩⟩).toArray 154)).drew) := fun T => Same.of_below BA.out
          have RA : Hid ((WX.alloc (.cells (hrow ⟨ps[qf], ps[qt], ps[qa], ⟨#[84, 104, 114, 111, 119, 97, 98, 108, 101]⟩⟩).toArray 154)).drew.heap[WX.heap.size]? = some (.cells (hrow ⟨ps[qf], ps[qt], ps[qa], ⟨#[84, 104, 114, 111, 119, 97, 98, 108, 101]⟩⟩).toArray 154 (0, 0))) := heap_alloc_new WX _
          have c7b := zA1 (SA.out _ _ _ HOX.out) 7 (v := .slice aov hl.length capv) rfl
          have hlj : hl.length = j := by rw [HHL.out, List.length_map, List.length_take]; omega
          obtain ⟨v9, w9, hr9, ho9, hg9⟩ := zKs _ w.heap.size WX.heap.size (.slice aov hl.length capv) hl.length (zBs hl) _ (zA3 HHX.out (SA.out _)) RA.out (by omega) (Nat.le_trans HBX.out.size (by have := BA.out.size; exact this))
          clear hlj
          obtain ⟨ao9, cap9, rfl⟩ := zA4 ho9
          have HR9 := zA0 hr9
          have S9 : Hid (∀ T, T ≠ 154 → Same T WX w9) := fun T hT => (SA.out T).trans (Same.of_grown (zA3 HHX.out (SA.out _)) hg9 hT)
          have B9 : Hid (Below w.heap.size w w9) := hgrown HBX.out BA.out hg9 (fun k hk => ((zA3 HHX.out (SA.out _)).lt k hk).1)
          have HO9 := zA0 (S9.out _ (by decide) _ _ HOX.out)
          have HOW := zA0 ho9
          clear ho9 hr9 hg9
          have e7 := zA1 HO9.out 7 (v := .slice aov hl.length capv) rfl
          have ef := zAa HO9.out
          have SXD : Hid (HS28 gx gp qf qt qa ps[qf] ps[qt] ps[qa] WX.drew) := SX.out
          have SXA := zA0 (HS28.of (SA.out _ _ _ HXA.out) (SA.out _ _ _ HGX.out) hql1 hql2 hql3)
          have SX9 := zA0 (HS28.of (S9.out _ (by decide) _ _ HXA.out) (S9.out _ (by decide) _ _ HGX.out) hql1 hql2 hql3)
          have Z9 : Hid (∀ T, T ≠ 39 → Same T w9 (w9.setCell ⟨go, 7, none⟩ (.slice ao9 (hl.length + 1) cap9))) := fun T hT => Same.of_set HO9.out hT
          have SXZ := zA0 (HS28.of (Z9.out _ (by decide) _ _ (S9.out _ (by decide) _ _ HXA.out)) (Z9.out _ (by decide) _ _ (S9.out _ (by decide) _ _ HGX.out)) hql1 hql2 hql3)
          simp only [hrow] at c7b SXA
          generalize hP1 : ps[qf] = P1 at *
          generalize hP2 : ps[qt] = P2 at *
          generalize hP3 : ps[qa] = P3 at *
          have HP123 := zA0 (And.intro hP1 (And.intro hP2 hP3))
          clear hP1 hP2 hP3
          go_upto_region 28 with (fail)
          refine wp_region_noPanic ?_
          refine wp_region_held_drew (S := (HS28 gx gp qf qt qa P1 P2 P3)) (by kernel_rfl) ?_ (fun hHeld => ?_)
          · (try dsimp only); first | exact SX.out | exact SXD.out | exact SXA.out | exact SX9.out | exact SXZ.out
          refine tH 0 ?jD rfl rfl ?jE ?jF
          case jE => intro w hSw; (try dsimp only at hSw); go_simp; try with_reducible rfl
          try simp only [Act.put, sq1, sq2, sq3]
          refine tH 2 ?jG rfl rfl ?jH ?jI
          case jH => intro w hSw; (try dsimp only at hSw); go_simp; try with_reducible rfl
          try simp only [Act.put, sq1, sq2, sq3]
          refine tH 3 ?jJ rfl rfl ?jK ?jL
          case jK => intro w hSw; (try dsimp only at hSw); go_simp; try with_reducible rfl
          try simp only [Act.put, sq1, sq2, sq3]
          refine tH 4 ?jM rfl rfl ?jN ?jO
          case jN => intro w hSw; (try dsimp only at hSw); go_simp; obtain ⟨S1, S2, S3, S4, S5, S6⟩ := hSw; go_simp; try with_reducible rfl
          try simp only [Act.put, sq1, sq2, sq3]
          refine tH 5 ?jP rfl rfl ?jQ ?jR
          case jQ => intro w hSw; (try dsimp only at hSw); go_simp; try with_reducible rfl
          try simp only [Act.put, sq1, sq2, sq3]
          refine tH 6 ?jS rfl rfl ?jT ?jU
          case jT => intro w hSw; (try dsimp only at hSw); go_simp; obtain ⟨S1, S2, S3, S4, S5, S6⟩ := hSw; go_simp; try with_reducible rfl
          try simp only [Act.put, sq1, sq2, sq3]
          refine tH 7 ?jV rfl rfl ?jW ?jX
          case jW => intro w hSw; (try dsimp only at hSw); go_simp; try with_reducible rfl
          try simp only [Act.put, sq1, sq2, sq3]
          refine tH 8 ?jY rfl rfl ?jZ ?k0
          case jZ => intro w hSw; (try dsimp only at hSw); go_simp; try with_reducible rfl
          try simp only [Act.put, sq1, sq2, sq3]
          refine tH 9 ?k1 rfl rfl ?k4 ?k5
          case k4 => intro w hSw; (try dsimp only at hSw); go_simp; obtain ⟨S1, S2, S3, S4, S5, S6⟩ := hSw; go_simp; try with_reducible rfl
          try simp only [Act.put, sq1, sq2, sq3]
          refine tH 10 ?k6 rfl rfl ?k8 ?k9
          case k8 => intro w hSw; (try dsimp only at hSw); go_simp; try with_reducible rfl
          try simp only [Act.put, sq1, sq2, sq3]
          refine tH 11 ?ka rfl rfl ?kb ?kc
          case kb => intro w hSw; (try dsimp only at hSw); go_simp; obtain ⟨S1, S2, S3, S4, S5, S6⟩ := hSw; go_simp; try with_reducible rfl
          try simp only [Act.put, sq1, sq2, sq3]
          refine tH 12 ?kd rfl rfl ?ke ?kf
          case ke => intro w hSw; (try dsimp only at hSw); go_simp; try with_reducible rfl
          try simp only [Act.put, sq1, sq2, sq3]
          refine tH 13 ?kg rfl rfl ?kh ?ki
          case kh => intro w hSw; (try dsimp only at hSw); go_simp; try with_reducible rfl
          try simp only [Act.put, sq1, sq2, sq3]
          refine tH 14 ?kj rfl rfl ?kk ?kl
          case kk => intro w hSw; (try dsimp only at hSw); go_simp; obtain ⟨S1, S2, S3, S4, S5, S6⟩ := hSw; go_simp; try with_reducible rfl
          try simp only [Act.put, sq1, sq2, sq3]
          refine tH 15 ?km rfl rfl ?kn ?ko
          case kn => intro w hSw; (try dsimp only at hSw); go_simp; try with_reducible rfl
          try simp only [Act.put, sq1, sq2, sq3]
          refine tH 16 ?kp rfl rfl ?kq ?kr
          case kq => intro w hSw; (try dsimp only at hSw); go_simp; obtain ⟨S1, S2, S3, S4, S5, S6⟩ := hSw; go_simp; try with_reducible rfl
          try simp only [Act.put, sq1, sq2, sq3]
          refine tH 17 ?ks rfl rfl ?kt ?ku
          case kt => intro w hSw; (try dsimp only at hSw); go_simp; try with_reducible rfl
          try simp only [Act.put, sq1, sq2, sq3]
          refine wpAnyH_ready (rs := [1, 18]) (by kernel_rfl) (by simp) ?_
          refine (cH rfl (fun K hK => ?_) (cH rfl (fun K hK => ?_) AllReadyH.nil))
          · have hdum := True.intro
            go_simp
            try go_wp2_with fail
            refine hK.out _ _ ?kv ?kw
            case kv => (try dsimp only); first | exact SX.out | exact SXD.out | exact SXA.out | exact SX9.out | exact SXZ.out
            clear hK K hHeld
            intro hHeld
            try simp only [Act.put, sq1, sq2, sq3]
            refine oH 18 rfl (fun K hK => ?_)
            go_simp
            try go_wp2_with fail
            refine hK.out _ _ ?kx ?ky
            case kx => (try dsimp only); first | exact SX.out | exact SXD.out | exact SXA.out | exact SX9.out | exact SXZ.out
            clear hK K hHeld
            intro hHeld
            try simp only [Act.put, sq1, sq2, sq3]
            refine oH 19 rfl (fun K hK => ?_)
            refine zBr (v := .slice aov hl.length capv) (vb := .slice (some ⟨WX.heap.size, 0, none⟩) 1 1) rfl rfl rfl rfl HR9.out ?_
            refine hK.out _ _ ?kz ?kA
            case kz => (try dsimp only); first | exact SX.out | exact SXD.out | exact SXA.out | exact SX9.out | exact SXZ.out
            clear hK K hHeld
            intro hHeld
            try simp only [Act.put, sq1, sq2, sq3]
            refine tH 20 ?kB rfl rfl ?kC ?kD
            case kC => intro w hSw; (try dsimp only at hSw); go_simp; try with_reducible rfl
            try simp only [Act.put, sq1, sq2, sq3]
            refine oH 21 rfl (fun K hK => ?_)
            go_simp
            try go_wp2_with fail
            refine hK.out _ _ ?kE ?kF
            case kE => (try dsimp only); first | exact SX.out | exact SXD.out | exact SXA.out | exact SX9.out | exact SXZ.out
            clear hK K hHeld
            intro hHeld
            try simp only [Act.put, sq1, sq2, sq3]
            refine eH ?_
            refine NoPanic.normal ?_
            go_wp2_with fail
            have HZ9 := zA0 (S9.out _ (by decide) _ _ HQX.out)
            exact ⟨⟨j + 1, hl ++ [⟨P1, P2, P3, ⟨#[84, 104, 114, 111, 119, 97, 98, 108, 101]⟩⟩], _, by go_num, by omega, by rw [List.take_add_one, HXX.out, List.map_append, ← HHL.out]; congr 1; simp [plH, hql1, hql2, hql3, HP123.out], by rw [List.length_append, zHk]; exact zA3 HOW.out (Z9.out _ (by decide)), by rw [zB3 HO9.out]; simp, Z9.out _ (by decide) _ _ (S9.out _ (by decide) _ _ HGX.out), by rw [Below.heap_setCell _ _ _ _ HNE.out.symm]; exact HZ9.out, zAd B9.out hgo, zA3 HWX.out ((S9.out _ (by decide)).trans (Z9.out _ (by decide))), zA3 HFX.out ((S9.out _ (by decide)).trans (Z9.out _ (by decide))), HRX.out.same ((S9.out _ (by decide)).trans (Z9.out _ (by decide)))⟩, by simp [intOf]; omega⟩
          · have hdum := True.intro
            go_simp
            try go_wp2_with fail
            refine hK.out _ _ ?kG ?kH
            case kG => (try dsimp only); first | exact SX.out | exact SXD.out | exact SXA.out | exact SX9.out | exact SXZ.out
            clear hK K hHeld
            intro hHeld
            try simp only [Act.put, sq1, sq2, sq3]
            refine oH 1 rfl (fun K hK => ?_)
            go_simp
            try go_wp2_with fail
            refine hK.out _ _ ?kI ?kJ
            case kI => (try dsimp only); first | exact SX.out | exact SXD.out | exact SXA.out | exact SX9.out | exact SXZ.out
            clear hK K hHeld
            intro hHeld
            try simp only [Act.put, sq1, sq2, sq3]
            refine oH 19 rfl (fun K hK => ?_)
            refine zBr (v := .slice aov hl.length capv) (vb := .slice (some ⟨WX.heap.size, 0, none⟩) 1 1) rfl rfl rfl rfl HR9.out ?_
            refine hK.out _ _ ?kK ?kL
            case kK => (try dsimp only); first | exact SX.out | exact SXD.out | exact SXA.out | exact SX9.out | exact SXZ.out
            clear hK K hHeld
            intro hHeld
            try simp only [Act.put, sq1, sq2, sq3]
            refine tH 20 ?kM rfl rfl ?kN ?kO
            case kN => intro w hSw; (try dsimp only at hSw); go_simp; try with_reducible rfl
            try simp only [Act.put, sq1, sq2, sq3]
            refine oH 21 rfl (fun K hK => ?_)
            go_simp
            try go_wp2_with fail
            refine hK.out _ _ ?kP ?kQ
            case kP => (try dsimp only); first | exact SX.out | exact SXD.out | exact SXA.out | exact SX9.out | exact SXZ.out
            clear hK K hHeld
            intro hHeld
            try simp only [Act.put, sq1, sq2, sq3]
            refine eH ?_
            refine NoPanic.normal ?_
            go_wp2_with fail
            have HZ9 := zA0 (S9.out _ (by decide) _ _ HQX.out)
            exact ⟨⟨j + 1, hl ++ [⟨P1, P2, P3, ⟨#[84, 104, 114, 111, 119, 97, 98, 108, 101]⟩⟩], _, by go_num, by omega, by rw [List.take_add_one, HXX.out, List.map_append, ← HHL.out]; congr 1; simp [plH, hql1, hql2, hql3, HP123.out], by rw [List.length_append, zHk]; exact zA3 HOW.out (Z9.out _ (by decide)), by rw [zB3 HO9.out]; simp, Z9.out _ (by decide) _ _ (S9.out _ (by decide) _ _ HGX.out), by rw [Below.heap_setCell _ _ _ _ HNE.out.symm]; exact HZ9.out, zAd B9.out hgo, zA3 HWX.out ((S9.out _ (by decide)).trans (Z9.out _ (by decide))), zA3 HFX.out ((S9.out _ (by decide)).trans (Z9.out _ (by decide))), HRX.out.same ((S9.out _ (by decide)).trans (Z9.out _ (by decide)))⟩, by simp [intOf]; omega⟩
        · obtain rfl : j = s.hs.length := by omega
          have hlt' : ¬ (0 : Int) ≤ (s.hs.length : Int) - 1 - (s.hs.length : Int) := by omega
          have hhn : hl.length = s.hs.length := by rw [hhl, List.length_map, List.length_take]; omega
          rw [hhn] at ho
          have o0 := zA1 ho 0 rfl
          have o1 := zA1 ho 1 rfl
          have o2 := zA1 ho 2 rfl
          have o3 := zA1 ho 3 rfl
          have o4 := zA1 ho 4 rfl
          have o5 := zA1 ho 5 rfl
          have o6 := zA1 ho 6 rfl
          have o7 := zA1 ho 7 rfl
          have o8 := zA1 ho 8 rfl
          have HY := zA0 hq
          have HBX := zA0 hb
          have HV := zA0 (And.intro hoh (And.intro hwb (And.intro hof hfr)))
          have HHN := zA0 (And.intro hhn hhl)
          clear ho hq hb hg hoh hwb hof hfr hhn hhl
          go_wp2_with (refine wpList_store_row rfl 39 _ _ rfl w.heap.size #[.string nm, .string ds, .bool st, .bool false, .int .i64 16, .int .i64 ((zB5 pl).length : Nat), .slice ao8 EZ.1.length cap8, .slice aov s.hs.length capv, .slice aof fs.length capf] rfl rfl 39 _ HY.out (by kernel_rfl) rfl (by simp [Value.oneCell']) ?_)
          have HT := zA0 (zGb.row (cs := #[.string nm, .string ds, .bool st, .bool false, .int .i64 16, .int .i64 ((zB5 pl).length : Nat), .slice ao8 EZ.1.length cap8, .slice aov s.hs.length capv, .slice aof fs.length capf]) HY.out)
          refine bodyPost_ret (results_cell_row rfl _ _ w.heap.size 39 _ (0, 0) _ rfl HT.out.1 Tryz.underlying39 rfl (by kernel_rfl)) rfl ?_
          clear o0 o1 o2 o3 o4 o5 o6 o7 o8
          generalize (wr.setRow w.heap.size #[.string nm, .string ds, .bool st, .bool false, .int .i64 16, .int .i64 ((zB5 pl).length : Nat), .slice ao8 EZ.1.length cap8, .slice aov s.hs.length capv, .slice aof fs.length capf]) = WZ at *
          unfold zK6 zDf
          rw [HPE.out, HCE.out, HFE.out, HEZ.out]
          refine ⟨_, _, _, fs, rfl, HT.out.2.2 _ _ (Nat.le_refl _) HBX.out, ⟨b0, hb0, zA3 HV.out.2.1 (HT.out.2.1 _ (by decide))⟩, ?_, zA3 HV.out.2.2.1 (HT.out.2.1 _ (by decide)), HV.out.2.2.2.same (HT.out.2.1 _ (by decide))⟩
          have e := zA3 HV.out.1 (HT.out.2.1 _ (by decide))
          rw [HHN.out.1] at e
          rw [List.length_map]
          rw [HHN.out.2, List.take_length] at e
          exact e
end Go.Proofs.YtpehimfnkmepnaaGreat.M
