/- Texts MZ. -/
import Derived.Test.YtlnapfeglbdecaaBm13
import Derived.Test.YtlnapfeglbdecaaBm02
import Derived.Deep.OwnRows
import Derived.Laws.OwnMore
import Derived.Laws.Tables
import Derived.Laws.Rows
import Derived.Test.YtlnapfeglbdecaaBm05
namespace Go.Proofs.Ytlnapfeglbdecaa.M
open Go.RowKit

theorem made_ints (n : Nat) : madeCells #[Value.int .i64 0] n = (ncells (List.replicate n 0)).toArray := by
  apply Array.toList_inj.1
  rw [toList_madeCells_one]
  simp [ncells]
theorem infoI0 : (Try.prog.info? 3).map (fun i => (i.zero, i.size, i.bytes)) = some (some (.int .i64 0), 1, 8) := by kernel_rfl
theorem plc_at {l : List LN} {x : LN} {k : Nat} {p : Int} {ps : List Int} (h : l[k]? = some x) : plc (l.drop k) p ps = if 0 ≤ x.hr then plc (l.drop (k + 1)) p (ps.set x.hr.toNat p) else plc (l.drop (k + 1)) (p + (sz x.op : Nat)) ps := by rw [drop_at' h, plc_cons]
theorem cod_at {l : List LN} {x : LN} {k : Nat} {p : Int} {ps : List Int} (h : l[k]? = some x) : cod ps (l.drop k) p = if 0 ≤ x.hr then cod ps (l.drop (k + 1)) p else ⟨p, x.op, if 0 ≤ x.lb then (ps[x.lb.toNat]?).getD 0 else x.a, x.b⟩ :: cod ps (l.drop (k + 1)) (p + (sz x.op : Nat)) := by rw [drop_at' h, cod_cons]
theorem fra_at {l : List LN} {x : LN} {k : Nat} {p : Int} {ts : List Int} {fs : List (Int × Bool)} (h : l[k]? = some x) : fra ts (l.drop k) p fs = if 0 ≤ x.hr then fra ts (l.drop (k + 1)) p (if (fs[fs.length - 1]?).map (·.1) = some p then fs else fs ++ [(p, isIn ts x.hr)]) else fra ts (l.drop (k + 1)) (p + (sz x.op : Nat)) fs := by rw [drop_at' h, fra_cons]
theorem own_empty (w : World) (B T s : Nat) : w.ownsRow B T s (.slice none 0 0) 0 [] := ⟨by simp, .inl ⟨rfl, rfl⟩⟩
theorem step_same {wr w5 w6 : World} {B n T : Nat} {vc v5 : Value} {xs : List Value} {o1 o2 : Obj} (h : wr.ownsRow B 52 4 vc n xs) (st : Step vc ((wr.alloc o1).alloc o2) v5 w5) (b6 : Below w5.heap.size w5 w6) (hT : T ≠ 52) : Same T wr w6 :=
  ((Same.of_below (below_alloc wr o1)).trans (Same.of_below (below_alloc _ o2))).trans ((Same.of_grown (own_alloc (own_alloc h o1) o2) st.grown hT).trans (Same.of_below b6))
theorem step_below {w wr w5 w6 : World} {n : Nat} {vc v5 : Value} {xs : List Value} {o1 o2 : Obj} (hb : Below w.heap.size w wr) (h : wr.ownsRow w.heap.size 52 4 vc n xs) (st : Step vc ((wr.alloc o1).alloc o2) v5 w5) (b6 : Below w5.heap.size w5 w6) : Below w.heap.size w w6 := by
  have b5 := hb.trans ((of_alloc (of_alloc st)).below hb.size (fun k hk => (h.lt k hk).1))
  exact b5.trans (b6.mono b5.size)
theorem step_box {wr w5 : World} {B n : Nat} {vc v5 : Value} {xs : List Value} {o1 o2 : Obj} (h : wr.ownsRow B 52 4 vc n xs) (st : Step vc ((wr.alloc o1).alloc o2) v5 w5) : w5.heap[wr.heap.size]? = some o1 := by
  rw [st.grown.block wr.heap.size (by simp; omega) (by intro e; have := (h.lt _ e.symm).2; omega), (below_alloc _ _).block _ (by simp)]
  exact heap_alloc_new wr o1
theorem laid1_box (w : World) (o : Obj) (i : IN) : IView ((w.alloc o).alloc (.cells #[.int .i64 i.pl, .int .i64 i.op, .int .i64 i.a, .int .i64 i.b] 52)) (.slice (some ⟨w.heap.size + 1, 0, none⟩) 1 1) [i] := by
  have := IView.laid1 (w.alloc o) i
  rwa [show (w.alloc o).heap.size = w.heap.size + 1 by simp] at this
theorem kq_below {B : Nat} {w w' : World} (h : Kq B B w w') : Below B w w' := ⟨h.os, h.tape, h.output, h.size, fun k hk => h.block k hk (by omega)⟩
theorem frs_step {pl bt : Bool} {wr w7 : World} {fs fs7 : List FM} {zs : List (Int × Bool)} {p : Int} {lc : Value} (hf : FRs pl wr fs zs) (hs : Same 9 wr w7)
    (hc : (fs7 = fs ∧ ∃ x, fs[fs.length - 1]? = some x ∧ x.at_ = p) ∨ (∃ y, fs7 = fs ++ [y] ∧ FIs p lc bt w7 y ∧ ∀ x, fs[fs.length - 1]? = some x → x.at_ ≠ p))
    (hl : ∃ g, lc = .slice (some ⟨g, 0, none⟩) (kinds pl).length (kinds pl).length ∧ w7.heap[g]? = some (.cells (kinds pl).toArray 9)) :
    FRs pl w7 fs7 (if (zs[zs.length - 1]?).map (·.1) = some p then zs else zs ++ [(p, bt)]) ∧ fs7.length ≤ fs.length + 1 := by
  rw [hf.last]
  rcases hc with ⟨rfl, x, hx, rfl⟩ | ⟨y, rfl, ⟨h1, h2, h3⟩, h4⟩
  · rw [hx, if_pos (by rfl)]
    exact ⟨hf.same hs, by omega⟩
  · rw [if_neg ?_]
    · exact ⟨(hf.same hs).add ⟨h1, h2 ▸ hl, h3⟩, by simp⟩
    · intro e
      rcases e2 : fs[fs.length - 1]? with _ | x
      · rw [e2] at e; cases e
      · rw [e2] at e; exact h4 x e2 (by simpa using e)
def plH (ps : List Int) (x : TR) : HN := ⟨(ps[x.f.toNat]?).getD 0, (ps[x.t.toNat]?).getD 0, (ps[x.a.toNat]?).getD 0, ⟨#[84, 104, 114, 111, 119, 97, 98, 108, 101]⟩⟩
def handsZ (σ : SG) : List HN := σ.hs.map (plH (placesZ σ))
def hcells (l : List HN) : List Value := l.flatMap hrow
theorem hcells_snoc (l : List HN) (y : HN) : hcells (l ++ [y]) = hcells l ++ hrow y := by simp [hcells]
def SetsTo (g T : Nat) (w w' : World) (cs : Array Value) : Prop := w'.heap[g]? = some (.cells cs T (0, 0)) ∧ (∀ T', T' ≠ T → Same T' w w') ∧ ∀ B w0, B ≤ g → Below B w0 w → Below B w0 w'
theorem SetsTo.row {g T : Nat} {w : World} {old cs : Array Value} (h : w.heap[g]? = some (.cells old T (0, 0))) : SetsTo g T w (w.setRow g cs) cs :=
  ⟨setRow_heap _ _ _ _ _ _ h, fun T' hT k cur hk => (setRow_other _ _ _ _ (other_block hk h hT)).trans hk, fun _ _ hB hb => ⟨hb.os, hb.tape, hb.output, by simp [World.setRow]; exact hb.size, fun k hk => (setRow_other _ _ _ _ (by omega)).trans (hb.block k hk)⟩⟩
def DoneQ (pl st : Bool) (nm ds : ByteArray) (σ : SG) (w : World) (e : Ending) (w' : World) : Prop := ∃ vc vh vf fs, e = .returned (.agg #[.string nm, .string ds, .bool st, .bool false, .int .i64 16, .int .i64 ((kinds pl).length : Nat), vc, vh, vf]) ∧ Below w.heap.size w w' ∧ (∃ b, w.heap.size ≤ b ∧ w'.ownsRow b 5 1 vc (encL (codeZ σ) []).1.length (bcells (encL (codeZ σ) []).1)) ∧ w'.ownsRow w.heap.size 55 4 vh (handsZ σ).length (hcells (handsZ σ)) ∧ w'.ownsRow w.heap.size 118 3 vf fs.length (fcells fs) ∧ FRs pl w' fs (framesZ σ)
theorem heap_new' {w : World} {o : Obj} {k : Nat} (h : k = w.heap.size) : (w.alloc o).heap[k]? = some o := by subst h; exact heap_alloc_new w o
theorem tcells_get : ∀ (l : List TR) (j : Nat) (x : TR) (i : Nat), l[j]? = some x → i < 3 → (tcells l)[j * 3 + i]? = (trow x)[i]?
  | [], _, _, _, h, _ => by simp at h
  | y :: l, 0, x, i, h, hi => by simp at h; subst h; unfold tcells; rw [List.flatMap_cons, Nat.zero_mul, Nat.zero_add, List.getElem?_append_left (by simp [trow]; omega)]
  | y :: l, j + 1, x, i, h, hi => by
    have := tcells_get l j x i (by simpa using h) hi
    unfold tcells at *
    rw [List.flatMap_cons, List.getElem?_append_right (by simp [trow]; omega), show (j + 1) * 3 + i - (trow y).length = j * 3 + i by simp [trow]; omega]
    exact this
theorem own_try {w : World} {B : Nat} {v : Value} {l : List TR} (h : w.ownsRow B 106 3 v l.length (tcells l)) {j : Nat} {x : TR} (hj : l[j]? = some x) :
    ∃ g cap, v = .slice (some ⟨g, 0, none⟩) l.length cap ∧ g < w.heap.size ∧ w.cell? ⟨g, j * 3, none⟩ = some (.int .i64 x.f) ∧ w.cell? ⟨g, j * 3 + 1, none⟩ = some (.int .i64 x.t) ∧ w.cell? ⟨g, j * 3 + 2, none⟩ = some (.int .i64 x.a) := by
  have hlt := (List.getElem?_eq_some_iff.1 hj).1
  rcases h.2 with ⟨rfl, h0⟩ | ⟨g, cap, cur, rfl, _, hg, h1, h2, h3, h4⟩
  · rw [h0] at hlt; simp at hlt
  · have e : ∀ i, i < 3 → cur[j * 3 + i]? = (trow x)[i]? := by
      intro i hi
      rw [← tcells_get l j x i hj hi, ← h4, List.getElem?_take, if_pos (by omega), Array.getElem?_toList]
    exact ⟨g, cap, rfl, (Array.getElem?_eq_some_iff.1 hg).1, cell_row hg _ (e 0 (by decide)), cell_row hg _ (e 1 (by decide)), cell_row hg _ (e 2 (by decide))⟩
def HS27 (pm gh j : Nat) (v : Value) (x : TR) (W : World) : Prop := W.cell? ⟨pm, 7, none⟩ = some v ∧ W.cell? ⟨gh, j * 3, none⟩ = some (.int .i64 x.f) ∧ W.cell? ⟨gh, j * 3 + 1, none⟩ = some (.int .i64 x.t) ∧ W.cell? ⟨gh, j * 3 + 2, none⟩ = some (.int .i64 x.a)
theorem cell_lt {w : World} {a : Addr} {v : Value} (h : w.cell? a = some v) : a.block < w.heap.size := World.block_lt_of_cell? _ _ h
theorem HS27.below {pm gh j : Nat} {v : Value} {x : TR} {W W' : World} (h : HS27 pm gh j v x W) (b : Below W.heap.size W W') : HS27 pm gh j v x W' :=
  ⟨(b.cell (cell_lt h.1)).trans h.1, (b.cell (cell_lt h.2.1)).trans h.2.1, (b.cell (cell_lt h.2.2.1)).trans h.2.2.1, (b.cell (cell_lt h.2.2.2)).trans h.2.2.2⟩
theorem wrap_i64 {x : Int} (h : -9223372036854775808 ≤ x) (k : x ≤ 9223372036854775807) : IntKind.i64.wrap x = x := by simp [IntKind.wrap, IntKind.bits, IntKind.signed]; omega
def HS28 (gx gp qf qt qa : Nat) (p1 p2 p3 : Int) (W : World) : Prop := W.cell? ⟨gx, 0, none⟩ = some (.int .i64 (qf : Int)) ∧ W.cell? ⟨gx, 1, none⟩ = some (.int .i64 (qt : Int)) ∧ W.cell? ⟨gx, 2, none⟩ = some (.int .i64 (qa : Int)) ∧ W.cell? ⟨gp, qf, none⟩ = some (.int .i64 p1) ∧ W.cell? ⟨gp, qt, none⟩ = some (.int .i64 p2) ∧ W.cell? ⟨gp, qa, none⟩ = some (.int .i64 p3)
theorem HS28.of {gx gp qf qt qa : Nat} {ps : List Int} {W : World} (h : W.heap[gx]? = some (.cells #[.int .i64 (qf : Int), .int .i64 (qt : Int), .int .i64 (qa : Int)] 106 (0, 0))) (k : W.heap[gp]? = some (.cells (ncells ps).toArray 3 (0, 0))) (h1 : qf < ps.length) (h2 : qt < ps.length) (h3 : qa < ps.length) : HS28 gx gp qf qt qa ps[qf] ps[qt] ps[qa] W :=
  ⟨cell_row h 0 rfl, cell_row h 1 rfl, cell_row h 2 rfl, cell_row k qf (by simp [ncells, h1]), cell_row k qt (by simp [ncells, h2]), cell_row k qa (by simp [ncells, h3])⟩
theorem hgrown {w w1 w2 w3 : World} {g : Option Nat} (h : Below w.heap.size w w1) (k : Below w1.heap.size w1 w2) (hg : w2.grownBy w3 g) (hB : ∀ x, g = some x → w.heap.size ≤ x) : Below w.heap.size w w3 := by
  have h2 := h.trans (k.mono h.size)
  have hz := h2.size
  exact ⟨hg.os.trans h2.os, hg.tape.trans h2.tape, hg.output.trans h2.output, Nat.le_trans h2.size hg.size, fun i hi => (hg.block i (by omega) (fun e => by have := hB i e.symm; omega)).trans (h2.block i hi)⟩
theorem hrow_one (x : HN) : ∀ u ∈ hrow x, u.oneCell' = true := by
  intro u hu
  simp [hrow] at hu
  rcases hu with rfl | rfl | rfl | rfl <;> rfl
theorem Try.info55x : (Try.prog.info? 55).map (fun i => (i.zero, i.size, i.bytes)) = some (some (.agg #[.int .i64 0, .int .i64 0, .int .i64 0, .string ⟨#[]⟩]), 4, 40) := by kernel_rfl
theorem run_happend (w : World) (B b : Nat) (v : Value) (n : Nat) (xs : List Value) (y : HN) (hown : w.ownsRow B 55 4 v n xs) (hg : w.heap[b]? = some (.cells (hrow y).toArray 55 (0, 0))) (hlen : n ≤ 1000000) (hB : B ≤ w.heap.size) :
    ∃ v' w', (Builtin.append_ #[35, 35] 35 #[v, .slice (some ⟨b, 0, none⟩) 1 1]).run Try.prog w = .ok v' w' ∧ w'.ownsRow B 55 4 v' (n + 1) (xs ++ hrow y) ∧ w.grownBy w' v.ownBlock := by
  obtain ⟨i0, hi, hz0, hz1, hz2⟩ := info_parts Try.info55x
  obtain ⟨v', w', hr, h2, h3, _, h4⟩ := run_append_own_at (P := Try.prog) w B 35 35 55 i0 _ 4 40 Try.underlying35 hi hz0 hz1 hz2 rfl (by decide) v n xs hown ⟨b, 0, none⟩ 1 1 (hrow y) rfl
    (fun j u hj => by
      have e : (⟨b, 0, none⟩ : Addr).add j = ⟨b, j, none⟩ := by unfold Addr.add; split <;> simp_all
      rw [e]
      exact cell_row hg j (by simpa using hj)) (hrow_one y) (by unfold maxLen; omega) (by omega) (by omega)
  exact ⟨v', w', hr, h2, h3⟩
theorem op_append {P : Program} {ops : Array Oper} {o : Oper} {a : Act} {w w' : World} {K : Act → World → Prop} {Q : Exit → Act → World → Prop} {E : Prop} {s x : Operand} {t : TypeId} {v vb v' : Value} (hgd : o.guard = none)
    (ho : o.op = .call { callee := .builtin .append, args := #[s, x], argTypes := #[t, t] }) (hs : a.eval s = v) (hx : a.eval x = vb) (hr : (Builtin.append_ #[t, t] o.type #[v, vb]).run P w = .ok v' w') (h : K (a.put o.dst v') w') :
    if Region.wanted o (yielded ops a.tmps) = true then Oper.wp P o a w K Q else E := by
  rw [if_pos (by simp [Region.wanted, hgd])]
  unfold Oper.wp execOp
  simp only [ho, resolve, invoke, builtin, Sem.run_bind, Sem.run_pure, Result.andThen_ok, List.map_toArray, List.map_cons, List.map_nil, hs, hx, hr]
  exact h
set_option maxRecDepth 8000 in
set_option maxHeartbeats 20000000 in
theorem done_any (B pr pm n d : Nat) (pl : Bool) (σ : SG) (nm ds : ByteArray) (st : Bool) (w : World) (h : Mk B pr pm n d pl σ w) (hr : Refs σ) (hn : n ≤ 900000) (hcz : (codeZ σ).length ≤ 400) (hl : σ.ls.length ≤ 1000) (hlb : σ.labels ≤ 1000) :
    Calls Try.prog 31 #[.pointer (some ⟨pm, 0, none⟩), .string nm, .string ds, .bool st] w fun e w' => DoneQ pl st nm ds σ w e w' := by
  have HM := hidIt h
  have HM0 := hidIt h
  have GZ := hidIt (fun (op : Int) W => rsize rname5 op W)
  obtain ⟨s, HP, HB0, rfl⟩ := h
  have HR := hidIt hr
  have hlen : s.ls.length ≤ 1000 := hl
  have hlbl : s.labels ≤ 1000 := hlb
  obtain ⟨i0, hi, hz0, hz1, hz2⟩ := info_parts infoI0
  have HL := hidIt HP.l
  have hpmz := HP.lt.1
  obtain ⟨aol, capl, el⟩ := own_slice HP.l
  have HEL := hidIt el
  have HP0 := hidIt HP
  have k3 := cell_row HP.blk 3 (v := .int .i64 s.labels) rfl
  clear HP el hr hl hlb
  go_enter Try.func31, Try.ntmps31
  go_upto_region 2 with (at_make; refine wpList_make_row _ rfl _ _ 25 rfl 3 i0 (.int .i64 0) Try.underlying25 hi hz0 hz1 rfl _ _ s.labels rfl rfl (by rw [hz2]; omega) (by omega) ?_)
  have HB : Hid (Below w.heap.size w ((w.alloc (.cells #[.string ⟨#[]⟩, .string ⟨#[]⟩, .bool false, .bool false, .int .i64 0, .int .i64 0, .slice none 0 0, .slice none 0 0, .slice none 0 0] 38)).alloc (.cells (madeCells #[.int .i64 0] s.labels) 3))) := (below_alloc w _).alloc (below_alloc w _).size _
  have HG : Hid (((w.alloc (.cells #[.string ⟨#[]⟩, .string ⟨#[]⟩, .bool false, .bool false, .int .i64 0, .int .i64 0, .slice none 0 0, .slice none 0 0, .slice none 0 0] 38)).alloc (.cells (madeCells #[.int .i64 0] s.labels) 3)).heap[w.heap.size + 1]? = some (.cells (ncells (List.replicate s.labels 0)).toArray 3 (0, 0))) := by
    show _ = _
    rw [← made_ints]
    exact heap_new' (by simp)
  have HQ : Hid (((w.alloc (.cells #[.string ⟨#[]⟩, .string ⟨#[]⟩, .bool false, .bool false, .int .i64 0, .int .i64 0, .slice none 0 0, .slice none 0 0, .slice none 0 0] 38)).alloc (.cells (madeCells #[.int .i64 0] s.labels) 3)).heap[w.heap.size]? = some (.cells #[.string ⟨#[]⟩, .string ⟨#[]⟩, .bool false, .bool false, .int .i64 0, .int .i64 0, .slice none 0 0, .slice none 0 0, .slice none 0 0] 38 (0, 0))) := by
    show _ = _
    rw [(below_alloc _ _).block _ (by simp)]
    exact heap_alloc_new w _
  generalize ((w.alloc (.cells #[.string ⟨#[]⟩, .string ⟨#[]⟩, .bool false, .bool false, .int .i64 0, .int .i64 0, .slice none 0 0, .slice none 0 0, .slice none 0 0] 38)).alloc (.cells (madeCells #[.int .i64 0] s.labels) 3)) = W1 at *
  have hgp : w.heap.size ≤ w.heap.size + 1 := Nat.le_succ _
  generalize w.heap.size + 1 = gp at *
  clear k3
  have HZ0 : Hid (plc (s.ls.drop 0) 0 (List.replicate s.labels 0) = placesZ s.sg) := rfl
  have HCZ : Hid (codeZ s.sg = cod (placesZ s.sg) s.ls 0) := rfl
  have HFZ : Hid (framesZ s.sg = fra s.ts s.ls 0 []) := rfl
  generalize hPE : placesZ s.sg = PS at *
  generalize hCE : codeZ s.sg = CZ at *
  generalize hFE : framesZ s.sg = FZ at *
  have HPE := hidIt hPE
  have HCE := hidIt hCE
  have HFE := hidIt hFE
  clear hPE hCE hFE
  go_wp2_with fail
  go_loopw [10, 11] (fun at_ i_ wr => ∃ (k : Nat) (p : Int) (ps : List Int), i_ = .int .i64 (k : Int) ∧ at_ = .int .i64 p ∧ k ≤ s.ls.length ∧ 0 ≤ p ∧ p ≤ 3 * k ∧ ps.length = s.labels ∧ wr.heap[gp]? = some (.cells (ncells ps).toArray 3 (0, 0)) ∧ wr.heap[w.heap.size]? = some (.cells #[.string ⟨#[]⟩, .string ⟨#[]⟩, .bool false, .bool false, .int .i64 0, .int .i64 0, .slice none 0 0, .slice none 0 0, .slice none 0 0] 38 (0, 0)) ∧ Below w.heap.size w wr ∧ plc (s.ls.drop k) p ps = PS) (fun _ i_ _ => s.ls.length - (intOf i_).toNat)
  case atStart => exact ⟨0, 0, _, rfl, rfl, Nat.zero_le _, by omega, by omega, by simp, HG.out, HQ.out, HB.out, HZ0.out⟩
  case round =>
    clear HB HG HQ HZ0
    obtain ⟨k, p, ps, rfl, rfl, hk, hp0, hp1, hpl, hg, hq, hb, hZ⟩ := hrel
    have HB := hidIt hb
    have HG := hidIt hg
    have HQ := hidIt hq
    have HZ := hidIt hZ
    clear hb hg hq hZ
    have k2 := cell_row (HP0.out.below HB.out).blk 2 (v := s.vl) rfl
    rw [HEL.out] at k2
    by_cases hlt : k < s.ls.length
    · have hlt' : (k : Int) < (s.ls.length : Int) := by omega
      obtain ⟨x, hx⟩ : ∃ x, s.ls[k]? = some x := ⟨s.ls[k], List.getElem?_eq_getElem hlt⟩
      obtain ⟨gl, capl', ev, hgl, l0, l1, l2, l3, l4, l5⟩ := own_line (HP0.out.below HB.out).l hx
      rw [HEL.out] at ev
      cases ev
      have hxr := HR.out.ls x (List.mem_of_getElem? hx)
      have hxr1 : x.lb < (s.labels : Int) := hxr.1
      have hxr2 : x.hr < (s.labels : Int) := hxr.2
      rw [plc_at hx] at HZ
      have hsz := sz_le x.op
      clear hx hxr l0 l2 l3 l4
      by_cases hh : 0 ≤ x.hr
      · rw [if_pos hh] at HZ
        obtain ⟨q, hq⟩ := Int.eq_ofNat_of_zero_le hh
        rw [hq] at l5 hxr2 HZ
        have hql : q < ps.length := by omega
        have cq : wr.cell? ⟨gp, q, none⟩ = some (.int .i64 ps[q]) := cell_row HG.out q (by simp [ncells, hql])
        have cf := frozen_row HG.out
        rw [Int.toNat_natCast] at HZ
        clear hq hh
        have HG2 : Hid ((wr.setCell ⟨gp, q, none⟩ (.int .i64 p)).heap[gp]? = some (.cells (ncells (ps.set q p)).toArray 3 (0, 0))) := by
          show _ = _
          rw [set_row HG.out]
          congr 2
          simp [ncells, List.map_set]
        have HQ2 : Hid ((wr.setCell ⟨gp, q, none⟩ (.int .i64 p)).heap[w.heap.size]? = some (.cells #[.string ⟨#[]⟩, .string ⟨#[]⟩, .bool false, .bool false, .int .i64 0, .int .i64 0, .slice none 0 0, .slice none 0 0, .slice none 0 0] 38 (0, 0))) := by
          show _ = _
          rw [Below.heap_setCell _ _ _ _ (other_block HQ.out HG.out (by decide))]
          exact HQ.out
        have HB2 := hidIt (below_set (o := q) (u := .int .i64 p) HB.out hgp)
        go_wp2_with fail
        exact ⟨⟨k + 1, p, _, by go_num, rfl, by omega, hp0, by omega, by rw [List.length_set]; exact hpl, HG2.out, HQ2.out, HB2.out, HZ.out⟩, by simp [intOf]; omega⟩
      · rw [if_neg hh] at HZ
        have G1 := hidIt (GZ.out x.op wr)
        go_wp2_with (go_at_call 18; refine G1.out.mono ?_; rintro e w2 ⟨rfl, b2⟩)
        exact ⟨⟨k + 1, p + (sz x.op : Nat), ps, by go_num, by go_num, by omega, by omega, by omega, hpl, (b2.block _ (Array.getElem?_eq_some_iff.1 HG.out).1).trans HG.out, (b2.block _ (Array.getElem?_eq_some_iff.1 HQ.out).1).trans HQ.out, HB.out.trans (b2.mono HB.out.size), HZ.out⟩, by simp [intOf]; omega⟩
    · have hlt' : ¬ (k : Int) < (s.ls.length : Int) := by omega
      obtain rfl : k = s.ls.length := by omega
      rw [List.drop_length] at HZ
      have HZ2 : Hid (ps = PS) := HZ.out
      obtain rfl := HZ2.out
      clear HZ HZ2
      generalize wr = W2 at *
      have HM2 := hidIt (HM.out.below HB.out)
      have HTY := hidIt (types_any B pr pm n d pl s.sg W2 HM2.out)
      go_upto_region 9 with (fail)
      clear HM HL k2 hlt hlt' hk hp0 hp1
      go_wp2_with (go_at_call 38; refine HTY.out.mono ?_; rintro e w2 ⟨rfl, rfl⟩)
      have hgo : w.heap.size ≤ W2.heap.size + 1 := Nat.le_succ_of_le HB.out.size
      have HB3 : Hid (Below w.heap.size w ((W2.alloc (.cells (kinds pl).toArray 9)).alloc (.cells #[.string nm, .string ds, .bool st, .bool false, .int .i64 16, .int .i64 ((kinds pl).length : Nat), .slice none 0 0, .slice none 0 0, .slice none 0 0] 38))) := (HB.out.alloc HB.out.size _).alloc (by have := HB.out.size; simp; omega) _
      have HG3 : Hid (((W2.alloc (.cells (kinds pl).toArray 9)).alloc (.cells #[.string nm, .string ds, .bool st, .bool false, .int .i64 16, .int .i64 ((kinds pl).length : Nat), .slice none 0 0, .slice none 0 0, .slice none 0 0] 38)).heap[gp]? = some (.cells (ncells ps).toArray 3 (0, 0))) := by
        show _ = _
        rw [(below_alloc _ _).block _ (by have := (Array.getElem?_eq_some_iff.1 HG.out).1; simp; omega), (below_alloc _ _).block _ (Array.getElem?_eq_some_iff.1 HG.out).1]
        exact HG.out
      have HQ3 : Hid (((W2.alloc (.cells (kinds pl).toArray 9)).alloc (.cells #[.string nm, .string ds, .bool st, .bool false, .int .i64 16, .int .i64 ((kinds pl).length : Nat), .slice none 0 0, .slice none 0 0, .slice none 0 0] 38)).heap[w.heap.size]? = some (.cells #[.string ⟨#[]⟩, .string ⟨#[]⟩, .bool false, .bool false, .int .i64 0, .int .i64 0, .slice none 0 0, .slice none 0 0, .slice none 0 0] 38 (0, 0))) := by
        show _ = _
        rw [(below_alloc _ _).block _ (by have := (Array.getElem?_eq_some_iff.1 HQ.out).1; simp; omega), (below_alloc _ _).block _ (Array.getElem?_eq_some_iff.1 HQ.out).1]
        exact HQ.out
      have HO3 : Hid (((W2.alloc (.cells (kinds pl).toArray 9)).alloc (.cells #[.string nm, .string ds, .bool st, .bool false, .int .i64 16, .int .i64 ((kinds pl).length : Nat), .slice none 0 0, .slice none 0 0, .slice none 0 0] 38)).heap[W2.heap.size + 1]? = some (.cells #[.string nm, .string ds, .bool st, .bool false, .int .i64 16, .int .i64 ((kinds pl).length : Nat), .slice none 0 0, .slice none 0 0, .slice none 0 0] 38 (0, 0))) := by
        show _ = _
        exact heap_new' (by simp)
      have HNE : Hid (W2.heap.size + 1 ≠ w.heap.size) := by
        show _ ≠ _
        have := HB.out.size
        omega
      have HOI := hidIt (own_empty ((W2.alloc (.cells (kinds pl).toArray 9)).alloc (.cells #[.string nm, .string ds, .bool st, .bool false, .int .i64 16, .int .i64 ((kinds pl).length : Nat), .slice none 0 0, .slice none 0 0, .slice none 0 0] 38)) w.heap.size 52 4)
      have HOF := hidIt (own_empty ((W2.alloc (.cells (kinds pl).toArray 9)).alloc (.cells #[.string nm, .string ds, .bool st, .bool false, .int .i64 16, .int .i64 ((kinds pl).length : Nat), .slice none 0 0, .slice none 0 0, .slice none 0 0] 38)) w.heap.size 118 3)
      generalize ((W2.alloc (.cells (kinds pl).toArray 9)).alloc (.cells #[.string nm, .string ds, .bool st, .bool false, .int .i64 16, .int .i64 ((kinds pl).length : Nat), .slice none 0 0, .slice none 0 0, .slice none 0 0] 38)) = W3 at *
      clear HB HG HQ HTY HM2
      generalize W2.heap.size + 1 = go at *
      have HC0 : Hid (([] : List IN) ++ cod ps (s.ls.drop 0) 0 = CZ) := HCZ.out.symm
      have HF0 : Hid (fra s.ts (s.ls.drop 0) 0 [] = FZ) := HFZ.out.symm
      go_loopw [10, 12, 14] (fun at_ vc i_ wr => ∃ (k : Nat) (p : Int) (cd : List IN) (fs : List FM) (zs : List (Int × Bool)) (vf : Value), i_ = .int .i64 (k : Int) ∧ at_ = .int .i64 p ∧ k ≤ s.ls.length ∧ 0 ≤ p ∧ p ≤ 3 * k ∧ cd.length ≤ k ∧ fs.length ≤ k ∧ wr.ownsRow w.heap.size 52 4 vc cd.length (icells cd) ∧ wr.ownsRow w.heap.size 118 3 vf fs.length (fcells fs) ∧ FRs pl wr fs zs ∧ wr.heap[go]? = some (.cells #[.string nm, .string ds, .bool st, .bool false, .int .i64 16, .int .i64 ((kinds pl).length : Nat), .slice none 0 0, .slice none 0 0, vf] 38 (0, 0)) ∧ wr.heap[gp]? = some (.cells (ncells ps).toArray 3 (0, 0)) ∧ wr.heap[w.heap.size]? = some (.cells #[.string ⟨#[]⟩, .string ⟨#[]⟩, .bool false, .bool false, .int .i64 0, .int .i64 0, .slice none 0 0, .slice none 0 0, .slice none 0 0] 38 (0, 0)) ∧ Below w.heap.size w wr ∧ cd ++ cod ps (s.ls.drop k) p = CZ ∧ fra s.ts (s.ls.drop k) p zs = FZ) (fun _ _ i_ _ => s.ls.length - (intOf i_).toNat)
      case atStart => exact ⟨0, 0, [], [], [], _, rfl, rfl, Nat.zero_le _, by omega, by omega, by simp, by simp, HOI.out, HOF.out, FRs.nil, HO3.out, HG3.out, HQ3.out, HB3.out, HC0.out, HF0.out⟩
      case round =>
        clear HB3 HG3 HQ3 HO3 HC0 HF0 HOI HOF
        obtain ⟨k, p, cd, fs, zs, vf, rfl, rfl, hk, hp0, hp1, hcl, hfl, hoc, hof, hfr, ho, hg, hq, hb, hc, hf⟩ := hrel
        obtain ⟨aoc, capc, rfl⟩ := own_slice hoc
        obtain ⟨aof, capf, rfl⟩ := own_slice hof
        have HB := hidIt hb
        have HG := hidIt hg
        have HQ := hidIt hq
        have HO := hidIt ho
        have HOC := hidIt hoc
        have HOF := hidIt hof
        have HFR := hidIt hfr
        have HC := hidIt hc
        have HF := hidIt hf
        clear hb hg hq ho hoc hof hfr hc hf
        have k2 := cell_row (HP0.out.below HB.out).blk 2 (v := s.vl) rfl
        rw [HEL.out] at k2
        by_cases hlt : k < s.ls.length
        · have hlt' : (k : Int) < (s.ls.length : Int) := by omega
          obtain ⟨x, hx⟩ : ∃ x, s.ls[k]? = some x := ⟨s.ls[k], List.getElem?_eq_getElem hlt⟩
          obtain ⟨gl, capl', ev, hgl, l0, l1, l2, l3, l4, l5⟩ := own_line (HP0.out.below HB.out).l hx
          rw [HEL.out] at ev
          cases ev
          have hxr := HR.out.ls x (List.mem_of_getElem? hx)
          have hxr1 : x.lb < (s.labels : Int) := hxr.1
          have hxr2 : x.hr < (s.labels : Int) := hxr.2
          rw [cod_at hx] at HC
          rw [fra_at hx] at HF
          have hsz := sz_le x.op
          clear hx hxr
          by_cases hh : 0 ≤ x.hr
          · rw [if_pos hh] at HC HF
            go_upto_region 17 with (fail)
            clear k2 l0 l1 l2 l3 l4 l5
            have HA4 : Hid (Below wr.heap.size wr (wr.alloc (.cells #[.int .i64 x.pl, .int .i64 x.op, .int .i64 x.a, .int .i64 x.b, .int .i64 x.lb, .int .i64 x.hr] 94))) := below_alloc wr _
            have HA5 : Hid (Below wr.heap.size wr (wr.alloc (.cells #[.int .i64 x.pl, .int .i64 x.op, .int .i64 x.a, .int .i64 x.b, .int .i64 x.lb, .int .i64 x.hr] 94)).drew) := below_drewN (below_alloc wr _) 1
            have HX4 : Hid ((wr.alloc (.cells #[.int .i64 x.pl, .int .i64 x.op, .int .i64 x.a, .int .i64 x.b, .int .i64 x.lb, .int .i64 x.hr] 94)).heap[wr.heap.size]? = some (.cells #[.int .i64 x.pl, .int .i64 x.op, .int .i64 x.a, .int .i64 x.b, .int .i64 x.lb, .int .i64 x.hr] 94 (0, 0))) := heap_alloc_new wr _
            have HX5 : Hid ((wr.alloc (.cells #[.int .i64 x.pl, .int .i64 x.op, .int .i64 x.a, .int .i64 x.b, .int .i64 x.lb, .int .i64 x.hr] 94)).drew.heap[wr.heap.size]? = some (.cells #[.int .i64 x.pl, .int .i64 x.op, .int .i64 x.a, .int .i64 x.b, .int .i64 x.lb, .int .i64 x.hr] 94 (0, 0))) := heap_alloc_new wr _
            generalize wr.alloc (.cells #[.int .i64 x.pl, .int .i64 x.op, .int .i64 x.a, .int .i64 x.b, .int .i64 x.lb, .int .i64 x.hr] 94) = W4 at *
            generalize hWX : wr.heap.size = gx at *
            have HWX := hidIt hWX
            clear hWX
            have HS4 := hidIt (cell_row HX4.out 5 (v := .int .i64 x.hr) rfl)
            have HS5 := hidIt (cell_row HX5.out 5 (v := .int .i64 x.hr) rfl)
            have HB5 := hidIt (HB.out.trans (HA5.out.mono (HWX.out ▸ HB.out.size)))
            have HS9 : Hid (∀ T, Same T wr W4.drew) := fun T => Same.of_below (HWX.out.symm ▸ HA5.out)
            have HM5 := hidIt (HM0.out.below HB5.out)
            have HTY := hidIt (types_any B pr pm n d pl s.sg W4.drew HM5.out)
            have HO5 := hidIt (HS9.out _ _ _ HO.out)
            have hgo5 := (Array.getElem?_eq_some_iff.1 HO5.out).1
            have c8 := cell_row HO5.out 8 (v := .slice aof fs.length capf) rfl
            have HA6 : Hid (Below W4.drew.heap.size W4.drew (W4.drew.alloc (.cells (kinds pl).toArray 9))) := below_alloc _ _
            have HK6 : Hid ((W4.drew.alloc (.cells (kinds pl).toArray 9)).heap[W4.drew.heap.size]? = some (.cells (kinds pl).toArray 9 (0, 0))) := heap_alloc_new _ _
            have HT6 : Hid (∀ T, Same T W4.drew (W4.drew.alloc (.cells (kinds pl).toArray 9))) := fun T => Same.of_below HA6.out
            have HS6 := hidIt (cell_row (HT6.out _ _ _ HX5.out) 5 (v := .int .i64 x.hr) rfl)
            have HM6 := hidIt (HM5.out.below HA6.out)
            have HCA := hidIt (caught_any B pr pm n d pl s.sg x.hr _ HM6.out hn)
            have HFA := hidIt (fun al => frame_any w.heap.size w.heap.size (.slice aof fs.length capf) fs p al (kinds pl).length (kinds pl).length (isIn s.sg.ts x.hr) _ (own_same HOF.out (fun g c hg => HT6.out _ _ _ (HS9.out _ _ _ hg))) (by omega) (Nat.le_trans HB5.out.size HA6.out.size))
            have e8 := cell_row (HT6.out _ _ _ HO5.out) 8 (v := .slice aof fs.length capf) rfl
            generalize W4.drew.alloc (.cells (kinds pl).toArray 9) = W6 at *
            rw [show s.ts = s.sg.ts from rfl] at HF
            generalize (isIn s.sg.ts x.hr) = bt at *
            refine wp_region_noPanic ?_
            refine wp_region_held_drew (S := (fun W => W.cell? ⟨gx, 5, none⟩ = some (.int .i64 x.hr))) (by kernel_rfl) ?_ (fun hHeld => ?_)
            · (try dsimp only); first | exact HS4.out | exact HS5.out | exact HS6.out | exact HS7.out | exact HS8.out
            refine tH 0 ?vr17_1 rfl rfl ?hyr17_1 ?restr17_1
            case hyr17_1 => intro w hSw; (try dsimp only at hSw); go_simp; try with_reducible rfl
            try simp only [Act.put, sq1, sq2, sq3]
            refine tH 2 ?vr17_2 rfl rfl ?hyr17_2 ?restr17_2
            case hyr17_2 => intro w hSw; (try dsimp only at hSw); go_simp; try with_reducible rfl
            try simp only [Act.put, sq1, sq2, sq3]
            refine tH 3 ?vr17_3 rfl rfl ?hyr17_3 ?restr17_3
            case hyr17_3 => intro w hSw; (try dsimp only at hSw); go_simp; try with_reducible rfl
            try simp only [Act.put, sq1, sq2, sq3]
            refine tH 5 ?vr17_4 rfl rfl ?hyr17_4 ?restr17_4
            case hyr17_4 => intro w hSw; (try dsimp only at hSw); go_simp; try with_reducible rfl
            try simp only [Act.put, sq1, sq2, sq3]
            refine tH 6 ?vr17_5 rfl rfl ?hyr17_5 ?restr17_5
            case hyr17_5 => intro w hSw; (try dsimp only at hSw); go_simp; try with_reducible rfl
            try simp only [Act.put, sq1, sq2, sq3]
            refine tH 7 ?vr17_6 rfl rfl ?hyr17_6 ?restr17_6
            case hyr17_6 => intro w hSw; (try dsimp only at hSw); go_simp; try with_reducible rfl
            try simp only [Act.put, sq1, sq2, sq3]
            refine wpAnyH_ready (rs := [1, 4]) (by kernel_rfl) (by simp) ?_
            refine (cH rfl (fun K hK => ?_) (cH rfl (fun K hK => ?_) AllReadyH.nil))
            · have hdum := True.intro
              go_simp
              try go_wp2_with fail
              refine hK.out _ _ ?hSr17_7 ?restr17_7
              case hSr17_7 => (try dsimp only); first | exact HS4.out | exact HS5.out | exact HS6.out | exact HS7.out | exact HS8.out
              clear hK K hHeld
              intro hHeld
              try simp only [Act.put, sq1, sq2, sq3]
              refine oH 4 rfl (fun K hK => ?_)
              go_simp
              go_at_call 38; refine HTY.out.mono ?_; rintro e w2 ⟨rfl, rfl⟩
              try go_wp2_with fail
              refine hK.out _ _ ?hSr17_8 ?restr17_8
              case hSr17_8 => (try dsimp only); first | exact HS4.out | exact HS5.out | exact HS6.out | exact HS7.out | exact HS8.out
              clear hK K hHeld
              intro hHeld
              try simp only [Act.put, sq1, sq2, sq3]
              refine oH 8 rfl (fun K hK => ?_)
              go_simp
              go_at_call 46; refine HCA.out.mono ?_; rintro e w2 ⟨rfl, rfl⟩
              try go_wp2_with fail
              refine hK.out _ _ ?hSr17_9 ?restr17_9
              case hSr17_9 => (try dsimp only); first | exact HS4.out | exact HS5.out | exact HS6.out | exact HS7.out | exact HS8.out
              clear hK K hHeld
              intro hHeld
              try simp only [Act.put, sq1, sq2, sq3]
              refine oH 9 rfl (fun K hK => ?_)
              go_simp
              go_at_call 45; refine (HFA.out _).mono ?_; intro e w7 hq7; obtain ⟨v7, fs7, rfl, own7, hc7, kq7, sm7⟩ := hq7; obtain ⟨ao7, cap7, rfl⟩ := own_slice own7; have HW7 := hidIt own7; have HC7 := hidIt hc7; have HK7 := hidIt kq7; have HM7 := hidIt sm7; clear own7 hc7 kq7 sm7; have HO7 := hidIt (HM7.out _ (by decide) _ _ (HT6.out _ _ _ HO5.out)); have HX7 := hidIt (HM7.out _ (by decide) _ _ (HT6.out _ _ _ HX5.out)); have HS7 := hidIt (cell_row HX7.out 5 (v := .int .i64 x.hr) rfl); have HS8 := hidIt (cell_row (Same.of_set (o := 8) (u := .slice ao7 fs7.length cap7) HO7.out (T := 94) (by decide) _ _ HX7.out) 5 (v := .int .i64 x.hr) rfl); have d8 := cell_row HO7.out 8 (v := .slice aof fs.length capf) rfl; have df := frozen_row HO7.out
              try go_wp2_with fail
              refine hK.out _ _ ?hSr17_10 ?restr17_10
              case hSr17_10 => (try dsimp only); first | exact HS4.out | exact HS5.out | exact HS6.out | exact HS7.out | exact HS8.out
              clear hK K hHeld
              intro hHeld
              try simp only [Act.put, sq1, sq2, sq3]
              refine tH 10 ?vr17_11 rfl rfl ?hyr17_11 ?restr17_11
              case hyr17_11 => intro w hSw; (try dsimp only at hSw); go_simp; try with_reducible rfl
              try simp only [Act.put, sq1, sq2, sq3]
              refine oH 11 rfl (fun K hK => ?_)
              go_simp
              try go_wp2_with fail
              refine hK.out _ _ ?hSr17_12 ?restr17_12
              case hSr17_12 => (try dsimp only); first | exact HS4.out | exact HS5.out | exact HS6.out | exact HS7.out | exact HS8.out
              clear hK K hHeld
              intro hHeld
              try simp only [Act.put, sq1, sq2, sq3]
              refine eH ?_
              refine NoPanic.normal ?_
              go_wp2_with fail
              have HR8 := hidIt (frs_step HFR.out (fun g c hg => HM7.out _ (by decide) _ _ (HT6.out _ _ _ (HS9.out _ _ _ hg))) HC7.out ⟨_, rfl, HM7.out _ (by decide) _ _ HK6.out⟩)
              exact ⟨⟨k + 1, p, cd, fs7, _, _, by go_num, rfl, by omega, hp0, by omega, by omega, by have := HR8.out.2; omega, own_same HOC.out (fun g c hg => Same.of_set HO7.out (by decide) _ _ (HM7.out _ (by decide) _ _ (HT6.out _ _ _ (HS9.out _ _ _ hg)))), own_same HW7.out (Same.of_set HO7.out (by decide)), HR8.out.1.same (Same.of_set HO7.out (by decide)), by rw [set_row HO7.out]; rfl, Same.of_set HO7.out (by decide) _ _ (HM7.out _ (by decide) _ _ (HT6.out _ _ _ (HS9.out _ _ _ HG.out))), by rw [Below.heap_setCell _ _ _ _ HNE.out.symm]; exact HM7.out _ (by decide) _ _ (HT6.out _ _ _ (HS9.out _ _ _ HQ.out)), below_set ((HB5.out.trans (HA6.out.mono HB5.out.size)).trans (kq_below HK7.out)) hgo, HC.out, HF.out⟩, by simp [intOf]; omega⟩
            · have hdum := True.intro
              go_simp
              go_at_call 38; refine HTY.out.mono ?_; rintro e w2 ⟨rfl, rfl⟩
              try go_wp2_with fail
              refine hK.out _ _ ?hSr17_13 ?restr17_13
              case hSr17_13 => (try dsimp only); first | exact HS4.out | exact HS5.out | exact HS6.out | exact HS7.out | exact HS8.out
              clear hK K hHeld
              intro hHeld
              try simp only [Act.put, sq1, sq2, sq3]
              refine wpAnyH_ready (rs := [1, 8]) (by kernel_rfl) (by simp) ?_
              refine (cH rfl (fun K hK => ?_) (cH rfl (fun K hK => ?_) AllReadyH.nil))
              · have hdum := True.intro
                go_simp
                try go_wp2_with fail
                refine hK.out _ _ ?hSr17_14 ?restr17_14
                case hSr17_14 => (try dsimp only); first | exact HS4.out | exact HS5.out | exact HS6.out | exact HS7.out | exact HS8.out
                clear hK K hHeld
                intro hHeld
                try simp only [Act.put, sq1, sq2, sq3]
                refine oH 8 rfl (fun K hK => ?_)
                go_simp
                go_at_call 46; refine HCA.out.mono ?_; rintro e w2 ⟨rfl, rfl⟩
                try go_wp2_with fail
                refine hK.out _ _ ?hSr17_15 ?restr17_15
                case hSr17_15 => (try dsimp only); first | exact HS4.out | exact HS5.out | exact HS6.out | exact HS7.out | exact HS8.out
                clear hK K hHeld
                intro hHeld
                try simp only [Act.put, sq1, sq2, sq3]
                refine oH 9 rfl (fun K hK => ?_)
                go_simp
                go_at_call 45; refine (HFA.out _).mono ?_; intro e w7 hq7; obtain ⟨v7, fs7, rfl, own7, hc7, kq7, sm7⟩ := hq7; obtain ⟨ao7, cap7, rfl⟩ := own_slice own7; have HW7 := hidIt own7; have HC7 := hidIt hc7; have HK7 := hidIt kq7; have HM7 := hidIt sm7; clear own7 hc7 kq7 sm7; have HO7 := hidIt (HM7.out _ (by decide) _ _ (HT6.out _ _ _ HO5.out)); have HX7 := hidIt (HM7.out _ (by decide) _ _ (HT6.out _ _ _ HX5.out)); have HS7 := hidIt (cell_row HX7.out 5 (v := .int .i64 x.hr) rfl); have HS8 := hidIt (cell_row (Same.of_set (o := 8) (u := .slice ao7 fs7.length cap7) HO7.out (T := 94) (by decide) _ _ HX7.out) 5 (v := .int .i64 x.hr) rfl); have d8 := cell_row HO7.out 8 (v := .slice aof fs.length capf) rfl; have df := frozen_row HO7.out
                try go_wp2_with fail
                refine hK.out _ _ ?hSr17_16 ?restr17_16
                case hSr17_16 => (try dsimp only); first | exact HS4.out | exact HS5.out | exact HS6.out | exact HS7.out | exact HS8.out
                clear hK K hHeld
                intro hHeld
                try simp only [Act.put, sq1, sq2, sq3]
                refine tH 10 ?vr17_17 rfl rfl ?hyr17_17 ?restr17_17
                case hyr17_17 => intro w hSw; (try dsimp only at hSw); go_simp; try with_reducible rfl
                try simp only [Act.put, sq1, sq2, sq3]
                refine oH 11 rfl (fun K hK => ?_)
                go_simp
                try go_wp2_with fail
                refine hK.out _ _ ?hSr17_18 ?restr17_18
                case hSr17_18 => (try dsimp only); first | exact HS4.out | exact HS5.out | exact HS6.out | exact HS7.out | exact HS8.out
                clear hK K hHeld
                intro hHeld
                try simp only [Act.put, sq1, sq2, sq3]
                refine eH ?_
                refine NoPanic.normal ?_
                go_wp2_with fail
                have HR8 := hidIt (frs_step HFR.out (fun g c hg => HM7.out _ (by decide) _ _ (HT6.out _ _ _ (HS9.out _ _ _ hg))) HC7.out ⟨_, rfl, HM7.out _ (by decide) _ _ HK6.out⟩)
                exact ⟨⟨k + 1, p, cd, fs7, _, _, by go_num, rfl, by omega, hp0, by omega, by omega, by have := HR8.out.2; omega, own_same HOC.out (fun g c hg => Same.of_set HO7.out (by decide) _ _ (HM7.out _ (by decide) _ _ (HT6.out _ _ _ (HS9.out _ _ _ hg)))), own_same HW7.out (Same.of_set HO7.out (by decide)), HR8.out.1.same (Same.of_set HO7.out (by decide)), by rw [set_row HO7.out]; rfl, Same.of_set HO7.out (by decide) _ _ (HM7.out _ (by decide) _ _ (HT6.out _ _ _ (HS9.out _ _ _ HG.out))), by rw [Below.heap_setCell _ _ _ _ HNE.out.symm]; exact HM7.out _ (by decide) _ _ (HT6.out _ _ _ (HS9.out _ _ _ HQ.out)), below_set ((HB5.out.trans (HA6.out.mono HB5.out.size)).trans (kq_below HK7.out)) hgo, HC.out, HF.out⟩, by simp [intOf]; omega⟩
              · have hdum := True.intro
                go_simp
                go_at_call 46; refine HCA.out.mono ?_; rintro e w2 ⟨rfl, rfl⟩
                try go_wp2_with fail
                refine hK.out _ _ ?hSr17_19 ?restr17_19
                case hSr17_19 => (try dsimp only); first | exact HS4.out | exact HS5.out | exact HS6.out | exact HS7.out | exact HS8.out
                clear hK K hHeld
                intro hHeld
                try simp only [Act.put, sq1, sq2, sq3]
                refine oH 1 rfl (fun K hK => ?_)
                go_simp
                try go_wp2_with fail
                refine hK.out _ _ ?hSr17_20 ?restr17_20
                case hSr17_20 => (try dsimp only); first | exact HS4.out | exact HS5.out | exact HS6.out | exact HS7.out | exact HS8.out
                clear hK K hHeld
                intro hHeld
                try simp only [Act.put, sq1, sq2, sq3]
                refine oH 9 rfl (fun K hK => ?_)
                go_simp
                go_at_call 45; refine (HFA.out _).mono ?_; intro e w7 hq7; obtain ⟨v7, fs7, rfl, own7, hc7, kq7, sm7⟩ := hq7; obtain ⟨ao7, cap7, rfl⟩ := own_slice own7; have HW7 := hidIt own7; have HC7 := hidIt hc7; have HK7 := hidIt kq7; have HM7 := hidIt sm7; clear own7 hc7 kq7 sm7; have HO7 := hidIt (HM7.out _ (by decide) _ _ (HT6.out _ _ _ HO5.out)); have HX7 := hidIt (HM7.out _ (by decide) _ _ (HT6.out _ _ _ HX5.out)); have HS7 := hidIt (cell_row HX7.out 5 (v := .int .i64 x.hr) rfl); have HS8 := hidIt (cell_row (Same.of_set (o := 8) (u := .slice ao7 fs7.length cap7) HO7.out (T := 94) (by decide) _ _ HX7.out) 5 (v := .int .i64 x.hr) rfl); have d8 := cell_row HO7.out 8 (v := .slice aof fs.length capf) rfl; have df := frozen_row HO7.out
                try go_wp2_with fail
                refine hK.out _ _ ?hSr17_21 ?restr17_21
                case hSr17_21 => (try dsimp only); first | exact HS4.out | exact HS5.out | exact HS6.out | exact HS7.out | exact HS8.out
                clear hK K hHeld
                intro hHeld
                try simp only [Act.put, sq1, sq2, sq3]
                refine tH 10 ?vr17_22 rfl rfl ?hyr17_22 ?restr17_22
                case hyr17_22 => intro w hSw; (try dsimp only at hSw); go_simp; try with_reducible rfl
                try simp only [Act.put, sq1, sq2, sq3]
                refine oH 11 rfl (fun K hK => ?_)
                go_simp
                try go_wp2_with fail
                refine hK.out _ _ ?hSr17_23 ?restr17_23
                case hSr17_23 => (try dsimp only); first | exact HS4.out | exact HS5.out | exact HS6.out | exact HS7.out | exact HS8.out
                clear hK K hHeld
                intro hHeld
                try simp only [Act.put, sq1, sq2, sq3]
                refine eH ?_
                refine NoPanic.normal ?_
                go_wp2_with fail
                have HR8 := hidIt (frs_step HFR.out (fun g c hg => HM7.out _ (by decide) _ _ (HT6.out _ _ _ (HS9.out _ _ _ hg))) HC7.out ⟨_, rfl, HM7.out _ (by decide) _ _ HK6.out⟩)
                exact ⟨⟨k + 1, p, cd, fs7, _, _, by go_num, rfl, by omega, hp0, by omega, by omega, by have := HR8.out.2; omega, own_same HOC.out (fun g c hg => Same.of_set HO7.out (by decide) _ _ (HM7.out _ (by decide) _ _ (HT6.out _ _ _ (HS9.out _ _ _ hg)))), own_same HW7.out (Same.of_set HO7.out (by decide)), HR8.out.1.same (Same.of_set HO7.out (by decide)), by rw [set_row HO7.out]; rfl, Same.of_set HO7.out (by decide) _ _ (HM7.out _ (by decide) _ _ (HT6.out _ _ _ (HS9.out _ _ _ HG.out))), by rw [Below.heap_setCell _ _ _ _ HNE.out.symm]; exact HM7.out _ (by decide) _ _ (HT6.out _ _ _ (HS9.out _ _ _ HQ.out)), below_set ((HB5.out.trans (HA6.out.mono HB5.out.size)).trans (kq_below HK7.out)) hgo, HC.out, HF.out⟩, by simp [intOf]; omega⟩
          · rw [if_neg hh] at HC HF
            by_cases hl0 : 0 ≤ x.lb
            · obtain ⟨q, hq⟩ := Int.eq_ofNat_of_zero_le hl0
              rw [if_pos hl0] at HC
              rw [hq] at l4 hxr1 HC
              have hql : q < ps.length := by omega
              have cq : wr.cell? ⟨gp, q, none⟩ = some (.int .i64 ps[q]) := cell_row HG.out q (by simp [ncells, hql])
              have hgz := (Array.getElem?_eq_some_iff.1 HG.out).1
              rw [Int.toNat_natCast, List.getElem?_eq_getElem hql, Option.getD_some] at HC
              go_upto_region 21 with (fail)
              clear k2 l0 l1 l2 l3 l4 l5 hlt'
              have V4 := laid1_box wr (.cells #[.int .i64 p, .int .i64 x.op, .int .i64 (ps[q]), .int .i64 x.b, .int .i64 ((q : Int)), .int .i64 x.hr] 94) ⟨p, x.op, ps[q], x.b⟩
              have O4 := own_alloc (own_alloc HOC.out (.cells #[.int .i64 p, .int .i64 x.op, .int .i64 (ps[q]), .int .i64 x.b, .int .i64 ((q : Int)), .int .i64 x.hr] 94)) (.cells #[.int .i64 p, .int .i64 x.op, .int .i64 (ps[q]), .int .i64 x.b] 52)
              have z4 := HB.out.size
              have zc := hidIt HOC.out.lt
              go_wp2_with (first | (at_builtin; refine wpList_iappend rfl _ _ rfl w.heap.size _ _ _ _ [⟨p, x.op, ps[q], x.b⟩] rfl O4 rfl V4 (by simp; omega) (by simp; omega) ?_; intro v5 w5 ho5 st5; obtain ⟨ao5, cap5, rfl⟩ := own_slice ho5; have ST5 := hidIt st5; have HO5 := hidIt ho5; have c1 := cell_row (step_box HOC.out st5) 1 rfl; clear st5 ho5 V4 O4) | (go_at_call 18; refine (GZ.out x.op _).mono ?_; rintro e w6 ⟨rfl, b6⟩))
              exact ⟨⟨k + 1, p + (sz x.op : Nat), cd ++ [⟨p, x.op, ps[q], x.b⟩], fs, zs, _, by go_num, by go_num, by omega, by omega, by omega, by simp; omega, by omega, by rw [List.length_append, icells_append]; exact own_below HO5.out b6, own_same HOF.out (step_same HOC.out ST5.out b6 (by decide)), HFR.out.same (step_same HOC.out ST5.out b6 (by decide)), step_same HOC.out ST5.out b6 (by decide) _ _ HO.out, step_same HOC.out ST5.out b6 (by decide) _ _ HG.out, step_same HOC.out ST5.out b6 (by decide) _ _ HQ.out, step_below HB.out HOC.out ST5.out b6, by rw [List.append_assoc]; exact HC.out, HF.out⟩, by simp [intOf]; omega⟩
            · rw [if_neg hl0] at HC
              go_upto_region 21 with (fail)
              clear k2 l0 l1 l2 l3 l4 l5 hlt'
              have V4 := laid1_box wr (.cells #[.int .i64 p, .int .i64 x.op, .int .i64 (x.a), .int .i64 x.b, .int .i64 (x.lb), .int .i64 x.hr] 94) ⟨p, x.op, x.a, x.b⟩
              have O4 := own_alloc (own_alloc HOC.out (.cells #[.int .i64 p, .int .i64 x.op, .int .i64 (x.a), .int .i64 x.b, .int .i64 (x.lb), .int .i64 x.hr] 94)) (.cells #[.int .i64 p, .int .i64 x.op, .int .i64 (x.a), .int .i64 x.b] 52)
              have z4 := HB.out.size
              have zc := hidIt HOC.out.lt
              go_wp2_with (first | (at_builtin; refine wpList_iappend rfl _ _ rfl w.heap.size _ _ _ _ [⟨p, x.op, x.a, x.b⟩] rfl O4 rfl V4 (by simp; omega) (by simp; omega) ?_; intro v5 w5 ho5 st5; obtain ⟨ao5, cap5, rfl⟩ := own_slice ho5; have ST5 := hidIt st5; have HO5 := hidIt ho5; have c1 := cell_row (step_box HOC.out st5) 1 rfl; clear st5 ho5 V4 O4) | (go_at_call 18; refine (GZ.out x.op _).mono ?_; rintro e w6 ⟨rfl, b6⟩))
              exact ⟨⟨k + 1, p + (sz x.op : Nat), cd ++ [⟨p, x.op, x.a, x.b⟩], fs, zs, _, by go_num, by go_num, by omega, by omega, by omega, by simp; omega, by omega, by rw [List.length_append, icells_append]; exact own_below HO5.out b6, own_same HOF.out (step_same HOC.out ST5.out b6 (by decide)), HFR.out.same (step_same HOC.out ST5.out b6 (by decide)), step_same HOC.out ST5.out b6 (by decide) _ _ HO.out, step_same HOC.out ST5.out b6 (by decide) _ _ HG.out, step_same HOC.out ST5.out b6 (by decide) _ _ HQ.out, step_below HB.out HOC.out ST5.out b6, by rw [List.append_assoc]; exact HC.out, HF.out⟩, by simp [intOf]; omega⟩
        · have hlt' : ¬ (k : Int) < (s.ls.length : Int) := by omega
          obtain rfl : k = s.ls.length := by omega
          rw [List.drop_length] at HC HF
          have HC2 : Hid (cd = CZ) := by have e := HC.out; rw [show cod ps [] p = [] from rfl, List.append_nil] at e; exact e
          have HF2 : Hid (zs = FZ) := HF.out
          obtain rfl := HC2.out
          obtain rfl := HF2.out
          clear HC HF HC2 HF2 HCZ HFZ
          have HEN := hidIt (rencode_any rname5 _ cd wr (IView.of_own HOC.out) hcz)
          have ho6 := cell_row HO.out 6 (v := .slice none 0 0) rfl
          have ho7 := (Array.getElem?_eq_some_iff.1 HO.out).1
          have hof := frozen_row HO.out
          generalize hEZ : encL cd [] = EZ at *
          have HEZ := hidIt hEZ
          clear hEZ
          go_upto_region 24 with (go_at_call 47; refine HEN.out.mono ?_; rintro e w8 ⟨b8, v8, rfl, own8⟩; obtain ⟨ao8, cap8, rfl⟩ := own_slice own8; have HB8 := hidIt b8; have HO8 := hidIt own8; have HX8 := hidIt ((b8.block _ ho7).trans HO.out); have e6 := cell_row HX8.out 6 (v := .slice none 0 0) rfl; have ef := frozen_row HX8.out; clear b8 own8)
          have HB9 : Hid (Below w.heap.size w (w8.setCell ⟨go, 6, none⟩ (.slice ao8 EZ.1.length cap8))) := below_set (HB.out.trans (HB8.out.mono HB.out.size)) hgo
          have HO9 : Hid ((w8.setCell ⟨go, 6, none⟩ (.slice ao8 EZ.1.length cap8)).heap[go]? = some (.cells #[.string nm, .string ds, .bool st, .bool false, .int .i64 16, .int .i64 ((kinds pl).length : Nat), .slice ao8 EZ.1.length cap8, .slice none 0 0, .slice aof fs.length capf] 38 (0, 0))) := by
            show _ = _
            rw [set_row HX8.out]; rfl
          have HG9 : Hid ((w8.setCell ⟨go, 6, none⟩ (.slice ao8 EZ.1.length cap8)).heap[gp]? = some (.cells (ncells ps).toArray 3 (0, 0))) := Same.of_set HX8.out (by decide) _ _ (Same.of_below HB8.out _ _ HG.out)
          have HQ9 : Hid ((w8.setCell ⟨go, 6, none⟩ (.slice ao8 EZ.1.length cap8)).heap[w.heap.size]? = some (.cells #[.string ⟨#[]⟩, .string ⟨#[]⟩, .bool false, .bool false, .int .i64 0, .int .i64 0, .slice none 0 0, .slice none 0 0, .slice none 0 0] 38 (0, 0))) := by
            show _ = _
            rw [Below.heap_setCell _ _ _ _ HNE.out.symm]
            exact Same.of_below HB8.out _ _ HQ.out
          have HW9 := hidIt (own_same HO8.out (Same.of_set (o := 6) (u := .slice ao8 EZ.1.length cap8) HX8.out (by decide)))
          have HF9 := hidIt (own_same (own_below HOF.out HB8.out) (Same.of_set (o := 6) (u := .slice ao8 EZ.1.length cap8) HX8.out (by decide)))
          have HR9 := hidIt ((HFR.out.same (Same.of_below HB8.out)).same (Same.of_set (o := 6) (u := .slice ao8 EZ.1.length cap8) HX8.out (by decide)))
          have HH9 := hidIt (own_empty (w8.setCell ⟨go, 6, none⟩ (.slice ao8 EZ.1.length cap8)) w.heap.size 55 4)
          have hb0 := HB.out.size
          generalize (w8.setCell ⟨go, 6, none⟩ (.slice ao8 EZ.1.length cap8)) = W9 at *
          generalize wr.heap.size = b0 at *
          obtain ⟨aoh, caph, eh⟩ := own_slice HP0.out.h
          have HEH := hidIt eh
          have k7 := cell_row (HP0.out.below HB9.out).blk 7 (v := s.vh) rfl
          rw [eh] at k7
          have hhs := HB0.hn
          clear eh HB8 HO8 HX8 e6 ef ho6 ho7 hof HEN HB HG HQ HO HOC HOF HFR hlt hlt' k2
          go_upto_region 25 with (fail)
          clear k7
          go_wp2_with fail
          go_loopw [16] (fun i_ wr => ∃ (j : Nat) (hl : List HN) (vh : Value), i_ = .int .i64 ((s.hs.length : Int) - 1 - (j : Int)) ∧ j ≤ s.hs.length ∧ hl = (s.hs.take j).map (plH ps) ∧ wr.ownsRow w.heap.size 55 4 vh hl.length (hcells hl) ∧ wr.heap[go]? = some (.cells #[.string nm, .string ds, .bool st, .bool false, .int .i64 16, .int .i64 ((kinds pl).length : Nat), .slice ao8 EZ.1.length cap8, vh, .slice aof fs.length capf] 38 (0, 0)) ∧ wr.heap[gp]? = some (.cells (ncells ps).toArray 3 (0, 0)) ∧ wr.heap[w.heap.size]? = some (.cells #[.string ⟨#[]⟩, .string ⟨#[]⟩, .bool false, .bool false, .int .i64 0, .int .i64 0, .slice none 0 0, .slice none 0 0, .slice none 0 0] 38 (0, 0)) ∧ Below w.heap.size w wr ∧ wr.ownsRow b0 5 1 (.slice ao8 EZ.1.length cap8) EZ.1.length (bcells EZ.1) ∧ wr.ownsRow w.heap.size 118 3 (.slice aof fs.length capf) fs.length (fcells fs) ∧ FRs pl wr fs zs) (fun i_ _ => (intOf i_ + 1).toNat)
          case atStart => exact ⟨0, [], .slice none 0 0, by go_num, Nat.zero_le _, by simp, HH9.out, HO9.out, HG9.out, HQ9.out, HB9.out, HW9.out, HF9.out, HR9.out⟩
          case round =>
            clear HB9 HG9 HQ9 HO9 HW9 HF9 HR9 HH9
            obtain ⟨j, hl, vh, rfl, hj, hhl, hoh, ho, hg, hq, hb, hwb, hof, hfr⟩ := hrel
            obtain ⟨aov, capv, rfl⟩ := own_slice hoh
            by_cases hlt : j < s.hs.length
            · have hlt' : (0 : Int) ≤ (s.hs.length : Int) - 1 - (j : Int) := by omega
              obtain ⟨⟨xf, xt, xa⟩, hx⟩ : ∃ x, s.hs[j]? = some x := ⟨_, List.getElem?_eq_getElem hlt⟩
              obtain ⟨gh, caph', ev, hgh, t0, t1, t2⟩ := own_try (HP0.out.below hb).h hx
              rw [HEH.out] at ev
              cases ev
              have k7 := cell_row (HP0.out.below hb).blk 7 (v := s.vh) rfl
              rw [HEH.out] at k7
              obtain ⟨⟨f0, f1⟩, ⟨u0, u1⟩, a0, a1⟩ := HR.out.hs _ (List.mem_of_getElem? hx)
              dsimp only at f0 f1 u0 u1 a0 a1 t0 t1 t2
              obtain ⟨qf, rfl⟩ := Int.eq_ofNat_of_zero_le f0
              obtain ⟨qt, rfl⟩ := Int.eq_ofNat_of_zero_le u0
              obtain ⟨qa, rfl⟩ := Int.eq_ofNat_of_zero_le a0
              have f1' : (qf : Int) < (s.labels : Int) := f1
              have u1' : (qt : Int) < (s.labels : Int) := u1
              have a1' : (qa : Int) < (s.labels : Int) := a1
              clear f0 u0 a0 f1 u1 a1
              have hhz : s.hs.length ≤ 900000 := Nat.le_trans hhs hn
              have hji : (s.hs.length : Int) - 1 - ((s.hs.length : Int) - 1 - (j : Int)) = (j : Int) := by omega
              have hw1 : IntKind.i64.wrap ((s.hs.length : Int) - 1) = (s.hs.length : Int) - 1 := wrap_i64 (by omega) (by omega)
              have hw2 : IntKind.i64.wrap ((s.hs.length : Int) - 1 - ((s.hs.length : Int) - 1 - (j : Int))) = (j : Int) := by rw [hji]; exact wrap_i64 (by omega) (by omega)
              have hw3 : IntKind.i64.wrap (j : Int) = (j : Int) := wrap_i64 (by omega) (by omega)
              have hjl : (j : Int) < (s.hs.length : Int) := by omega
              have HO := hidIt ho
              have HOH := hidIt hoh
              have HG := hidIt hg
              have HQ := hidIt hq
              have HB := hidIt hb
              have HWB := hidIt hwb
              have HOF := hidIt hof
              have HFR := hidIt hfr
              have HHL := hidIt hhl
              have HXX := hidIt hx
              have HSA : Hid (HS27 pm gh j (.slice (some ⟨gh, 0, none⟩) s.hs.length caph) ⟨(qf : Int), (qt : Int), (qa : Int)⟩ wr) := ⟨k7, t0, t1, t2⟩
              have HSB := hidIt (HSA.out.below (below_drewN (Below.refl _ _) 1))
              have HSC := hidIt (HSA.out.below (below_alloc wr (.cells #[.int .i64 0, .int .i64 0, .int .i64 0] 106)))
              have HSD := hidIt (HSA.out.below (below_drewN (below_alloc wr (.cells #[.int .i64 0, .int .i64 0, .int .i64 0] 106)) 1))
              have HSE := hidIt (HSA.out.below (below_drewN (below_alloc wr (.cells #[.int .i64 (qf : Int), .int .i64 (qt : Int), .int .i64 (qa : Int)] 106)) 1))
              clear ho hoh hg hq hb hwb hof hfr hhl hx k7 t0 t1 t2
              go_upto_region 27 with (fail)
              refine wp_region_noPanic ?_
              refine wp_region_held_drew (S := (HS27 pm gh j (.slice (some ⟨gh, 0, none⟩) s.hs.length caph) ⟨(qf : Int), (qt : Int), (qa : Int)⟩)) (by kernel_rfl) ?_ (fun hHeld => ?_)
              · (try dsimp only); first | exact HSA.out | exact HSB.out | exact HSC.out | exact HSD.out | exact HSE.out
              refine tH 0 ?vr27_1 rfl rfl ?hyr27_1 ?restr27_1
              case hyr27_1 => intro w hSw; (try dsimp only at hSw); go_simp; try with_reducible rfl
              try simp only [Act.put, sq1, sq2, sq3]
              refine tH 1 ?vr27_2 rfl rfl ?hyr27_2 ?restr27_2
              case hyr27_2 => intro w hSw; (try dsimp only at hSw); go_simp; try with_reducible rfl
              try simp only [Act.put, sq1, sq2, sq3]
              refine tH 2 ?vr27_3 rfl rfl ?hyr27_3 ?restr27_3
              case hyr27_3 => intro w hSw; (try dsimp only at hSw); go_simp; try with_reducible rfl
              try simp only [Act.put, sq1, sq2, sq3]
              refine tH 3 ?vr27_4 rfl rfl ?hyr27_4 ?restr27_4
              case hyr27_4 => intro w hSw; (try dsimp only at hSw); go_simp; obtain ⟨S1, S2, S3, S4⟩ := hSw; go_simp; try with_reducible rfl
              try simp only [Act.put, sq1, sq2, sq3]
              refine tH 4 ?vr27_5 rfl rfl ?hyr27_5 ?restr27_5
              case hyr27_5 => intro w hSw; (try dsimp only at hSw); go_simp; try with_reducible rfl
              try simp only [Act.put, sq1, sq2, sq3]
              refine tH 5 ?vr27_6 rfl rfl ?hyr27_6 ?restr27_6
              case hyr27_6 => intro w hSw; (try dsimp only at hSw); go_simp; try with_reducible rfl
              try simp only [Act.put, sq1, sq2, sq3]
              refine tH 6 ?vr27_7 rfl rfl ?hyr27_7 ?restr27_7
              case hyr27_7 => intro w hSw; (try dsimp only at hSw); go_simp; try with_reducible rfl
              try simp only [Act.put, sq1, sq2, sq3]
              refine tH 7 ?vr27_8 rfl rfl ?hyr27_8 ?restr27_8
              case hyr27_8 => intro w hSw; (try dsimp only at hSw); go_simp; obtain ⟨S1, S2, S3, S4⟩ := hSw; go_simp; try with_reducible rfl
              try simp only [Act.put, sq1, sq2, sq3]
              refine tH 8 ?vr27_9 rfl rfl ?hyr27_9 ?restr27_9
              case hyr27_9 => intro w hSw; (try dsimp only at hSw); go_simp; try with_reducible rfl
              try simp only [Act.put, sq1, sq2, sq3]
              refine tH 9 (.int .i64 ((s.hs.length : Int) - 1)) rfl rfl ?hyr27_10 ?restr27_10
              case hyr27_10 => intro w hSw; (try dsimp only at hSw); go_simp; try with_reducible rfl
              try simp only [Act.put, sq1, sq2, sq3]
              refine tH 10 ?vr27_11 rfl rfl ?hyr27_11 ?restr27_11
              case hyr27_11 => intro w hSw; (try dsimp only at hSw); go_simp; try with_reducible rfl
              try simp only [Act.put, sq1, sq2, sq3]
              refine tH 11 (.int .i64 (j : Int)) rfl rfl ?hyr27_12 ?restr27_12
              case hyr27_12 => intro w hSw; (try dsimp only at hSw); go_simp; try exact hw3
              try simp only [Act.put, sq1, sq2, sq3]
              refine tH 12 (.pointer (some ⟨gh, j * 3, none⟩)) rfl rfl ?hyr27_13 ?restr27_13
              case hyr27_13 => intro w hSw; (try dsimp only at hSw); go_simp; try with_reducible rfl
              try simp only [Act.put, sq1, sq2, sq3]
              refine tH 13 ?vr27_14 rfl rfl ?hyr27_14 ?restr27_14
              case hyr27_14 => intro w hSw; (try dsimp only at hSw); go_simp; obtain ⟨S1, S2, S3, S4⟩ := hSw; go_simp; try with_reducible rfl
              try simp only [Act.put, sq1, sq2, sq3]
              refine oH 14 rfl (fun K hK => ?_)
              go_simp
              try go_wp2_with fail
              refine hK.out _ _ ?hSr27_15 ?restr27_15
              case hSr27_15 => (try dsimp only); first | exact HSA.out | exact HSB.out | exact HSC.out | exact HSD.out | exact HSE.out
              clear hK K hHeld
              intro hHeld
              try simp only [Act.put, sq1, sq2, sq3]
              refine oH 15 rfl (fun K hK => ?_)
              go_simp
              try go_wp2_with fail
              refine hK.out _ _ ?hSr27_16 ?restr27_16
              case hSr27_16 => (try dsimp only); first | exact HSA.out | exact HSB.out | exact HSC.out | exact HSD.out | exact HSE.out
              clear hK K hHeld
              intro hHeld
              try simp only [Act.put, sq1, sq2, sq3]
              refine eH ?_
              refine NoPanic.normal ?_
              clear HSA HSB HSC HSD HSE hHeld hw1 hw2 hw3 hji hgh
              have HXA : Hid ((wr.alloc (.cells #[.int .i64 (qf : Int), .int .i64 (qt : Int), .int .i64 (qa : Int)] 106)).drew.heap[wr.heap.size]? = some (.cells #[.int .i64 (qf : Int), .int .i64 (qt : Int), .int .i64 (qa : Int)] 106 (0, 0))) := heap_alloc_new wr _
              have HBA : Hid (Below wr.heap.size wr (wr.alloc (.cells #[.int .i64 (qf : Int), .int .i64 (qt : Int), .int .i64 (qa : Int)] 106)).drew) := below_drewN (below_alloc wr _) 1
              generalize (wr.alloc (.cells #[.int .i64 (qf : Int), .int .i64 (qt : Int), .int .i64 (qa : Int)] 106)).drew = WX at *
              have HSX : Hid (∀ T, Same T wr WX) := fun T => Same.of_below HBA.out
              have HBX := hidIt (HB.out.trans (HBA.out.mono HB.out.size))
              have HOX := hidIt (HSX.out _ _ _ HO.out)
              have HGX := hidIt (HSX.out _ _ _ HG.out)
              have HQX := hidIt (HSX.out _ _ _ HQ.out)
              have HHX := hidIt (own_same HOH.out (HSX.out _))
              have HWX := hidIt (own_same HWB.out (HSX.out _))
              have HFX := hidIt (own_same HOF.out (HSX.out _))
              have HRX := hidIt (HFR.out.same (HSX.out _))
              generalize wr.heap.size = gx at *
              clear HO HG HQ HOH HWB HOF HFR HB HBA HSX
              have hql1 : qf < ps.length := by omega
              have hql2 : qt < ps.length := by omega
              have hql3 : qa < ps.length := by omega
              have c7a := cell_row HOX.out 7 (v := .slice aov hl.length capv) rfl
              have SX := hidIt (HS28.of HXA.out HGX.out hql1 hql2 hql3)
              have BA := hidIt (below_drewN (below_alloc WX (.cells (hrow ⟨ps[qf], ps[qt], ps[qa], ⟨#[84, 104, 114, 111, 119, 97, 98, 108, 101]⟩⟩).toArray 55)) 1)
              have SA : Hid (∀ T, Same T WX (WX.alloc (.cells (hrow ⟨ps[qf], ps[qt], ps[qa], ⟨#[84, 104, 114, 111, 119, 97, 98, 108, 101]⟩⟩).toArray 55)).drew) := fun T => Same.of_below BA.out
              have RA : Hid ((WX.alloc (.cells (hrow ⟨ps[qf], ps[qt], ps[qa], ⟨#[84, 104, 114, 111, 119, 97, 98, 108, 101]⟩⟩).toArray 55)).drew.heap[WX.heap.size]? = some (.cells (hrow ⟨ps[qf], ps[qt], ps[qa], ⟨#[84, 104, 114, 111, 119, 97, 98, 108, 101]⟩⟩).toArray 55 (0, 0))) := heap_alloc_new WX _
              have c7b := cell_row (SA.out _ _ _ HOX.out) 7 (v := .slice aov hl.length capv) rfl
              have hlj : hl.length = j := by rw [HHL.out, List.length_map, List.length_take]; omega
              obtain ⟨v9, w9, hr9, ho9, hg9⟩ := run_happend _ w.heap.size WX.heap.size (.slice aov hl.length capv) hl.length (hcells hl) _ (own_same HHX.out (SA.out _)) RA.out (by omega) (Nat.le_trans HBX.out.size (by have := BA.out.size; exact this))
              clear hlj
              obtain ⟨ao9, cap9, rfl⟩ := own_slice ho9
              have HR9 := hidIt hr9
              have S9 : Hid (∀ T, T ≠ 55 → Same T WX w9) := fun T hT => (SA.out T).trans (Same.of_grown (own_same HHX.out (SA.out _)) hg9 hT)
              have B9 : Hid (Below w.heap.size w w9) := hgrown HBX.out BA.out hg9 (fun k hk => ((own_same HHX.out (SA.out _)).lt k hk).1)
              have HO9 := hidIt (S9.out _ (by decide) _ _ HOX.out)
              have HOW := hidIt ho9
              clear ho9 hr9 hg9
              have e7 := cell_row HO9.out 7 (v := .slice aov hl.length capv) rfl
              have ef := frozen_row HO9.out
              have SXD : Hid (HS28 gx gp qf qt qa ps[qf] ps[qt] ps[qa] WX.drew) := SX.out
              have SXA := hidIt (HS28.of (SA.out _ _ _ HXA.out) (SA.out _ _ _ HGX.out) hql1 hql2 hql3)
              have SX9 := hidIt (HS28.of (S9.out _ (by decide) _ _ HXA.out) (S9.out _ (by decide) _ _ HGX.out) hql1 hql2 hql3)
              have Z9 : Hid (∀ T, T ≠ 38 → Same T w9 (w9.setCell ⟨go, 7, none⟩ (.slice ao9 (hl.length + 1) cap9))) := fun T hT => Same.of_set HO9.out hT
              have SXZ := hidIt (HS28.of (Z9.out _ (by decide) _ _ (S9.out _ (by decide) _ _ HXA.out)) (Z9.out _ (by decide) _ _ (S9.out _ (by decide) _ _ HGX.out)) hql1 hql2 hql3)
              simp only [hrow] at c7b SXA
              generalize hP1 : ps[qf] = P1 at *
              generalize hP2 : ps[qt] = P2 at *
              generalize hP3 : ps[qa] = P3 at *
              have HP123 := hidIt (And.intro hP1 (And.intro hP2 hP3))
              clear hP1 hP2 hP3
              go_upto_region 28 with (fail)
              refine wp_region_noPanic ?_
              refine wp_region_held_drew (S := (HS28 gx gp qf qt qa P1 P2 P3)) (by kernel_rfl) ?_ (fun hHeld => ?_)
              · (try dsimp only); first | exact SX.out | exact SXD.out | exact SXA.out | exact SX9.out | exact SXZ.out
              refine tH 0 ?vr28_1 rfl rfl ?hyr28_1 ?restr28_1
              case hyr28_1 => intro w hSw; (try dsimp only at hSw); go_simp; try with_reducible rfl
              try simp only [Act.put, sq1, sq2, sq3]
              refine tH 2 ?vr28_2 rfl rfl ?hyr28_2 ?restr28_2
              case hyr28_2 => intro w hSw; (try dsimp only at hSw); go_simp; try with_reducible rfl
              try simp only [Act.put, sq1, sq2, sq3]
              refine tH 3 ?vr28_3 rfl rfl ?hyr28_3 ?restr28_3
              case hyr28_3 => intro w hSw; (try dsimp only at hSw); go_simp; try with_reducible rfl
              try simp only [Act.put, sq1, sq2, sq3]
              refine tH 4 ?vr28_4 rfl rfl ?hyr28_4 ?restr28_4
              case hyr28_4 => intro w hSw; (try dsimp only at hSw); go_simp; obtain ⟨S1, S2, S3, S4, S5, S6⟩ := hSw; go_simp; try with_reducible rfl
              try simp only [Act.put, sq1, sq2, sq3]
              refine tH 5 ?vr28_5 rfl rfl ?hyr28_5 ?restr28_5
              case hyr28_5 => intro w hSw; (try dsimp only at hSw); go_simp; try with_reducible rfl
              try simp only [Act.put, sq1, sq2, sq3]
              refine tH 6 ?vr28_6 rfl rfl ?hyr28_6 ?restr28_6
              case hyr28_6 => intro w hSw; (try dsimp only at hSw); go_simp; obtain ⟨S1, S2, S3, S4, S5, S6⟩ := hSw; go_simp; try with_reducible rfl
              try simp only [Act.put, sq1, sq2, sq3]
              refine tH 7 ?vr28_7 rfl rfl ?hyr28_7 ?restr28_7
              case hyr28_7 => intro w hSw; (try dsimp only at hSw); go_simp; try with_reducible rfl
              try simp only [Act.put, sq1, sq2, sq3]
              refine tH 8 ?vr28_8 rfl rfl ?hyr28_8 ?restr28_8
              case hyr28_8 => intro w hSw; (try dsimp only at hSw); go_simp; try with_reducible rfl
              try simp only [Act.put, sq1, sq2, sq3]
              refine tH 9 ?vr28_9 rfl rfl ?hyr28_9 ?restr28_9
              case hyr28_9 => intro w hSw; (try dsimp only at hSw); go_simp; obtain ⟨S1, S2, S3, S4, S5, S6⟩ := hSw; go_simp; try with_reducible rfl
              try simp only [Act.put, sq1, sq2, sq3]
              refine tH 10 ?vr28_10 rfl rfl ?hyr28_10 ?restr28_10
              case hyr28_10 => intro w hSw; (try dsimp only at hSw); go_simp; try with_reducible rfl
              try simp only [Act.put, sq1, sq2, sq3]
              refine tH 11 ?vr28_11 rfl rfl ?hyr28_11 ?restr28_11
              case hyr28_11 => intro w hSw; (try dsimp only at hSw); go_simp; obtain ⟨S1, S2, S3, S4, S5, S6⟩ := hSw; go_simp; try with_reducible rfl
              try simp only [Act.put, sq1, sq2, sq3]
              refine tH 12 ?vr28_12 rfl rfl ?hyr28_12 ?restr28_12
              case hyr28_12 => intro w hSw; (try dsimp only at hSw); go_simp; try with_reducible rfl
              try simp only [Act.put, sq1, sq2, sq3]
              refine tH 13 ?vr28_13 rfl rfl ?hyr28_13 ?restr28_13
              case hyr28_13 => intro w hSw; (try dsimp only at hSw); go_simp; try with_reducible rfl
              try simp only [Act.put, sq1, sq2, sq3]
              refine tH 14 ?vr28_14 rfl rfl ?hyr28_14 ?restr28_14
              case hyr28_14 => intro w hSw; (try dsimp only at hSw); go_simp; obtain ⟨S1, S2, S3, S4, S5, S6⟩ := hSw; go_simp; try with_reducible rfl
              try simp only [Act.put, sq1, sq2, sq3]
              refine tH 15 ?vr28_15 rfl rfl ?hyr28_15 ?restr28_15
              case hyr28_15 => intro w hSw; (try dsimp only at hSw); go_simp; try with_reducible rfl
              try simp only [Act.put, sq1, sq2, sq3]
              refine tH 16 ?vr28_16 rfl rfl ?hyr28_16 ?restr28_16
              case hyr28_16 => intro w hSw; (try dsimp only at hSw); go_simp; obtain ⟨S1, S2, S3, S4, S5, S6⟩ := hSw; go_simp; try with_reducible rfl
              try simp only [Act.put, sq1, sq2, sq3]
              refine tH 17 ?vr28_17 rfl rfl ?hyr28_17 ?restr28_17
              case hyr28_17 => intro w hSw; (try dsimp only at hSw); go_simp; try with_reducible rfl
              try simp only [Act.put, sq1, sq2, sq3]
              refine wpAnyH_ready (rs := [1, 18]) (by kernel_rfl) (by simp) ?_
              refine (cH rfl (fun K hK => ?_) (cH rfl (fun K hK => ?_) AllReadyH.nil))
              · have hdum := True.intro
                go_simp
                try go_wp2_with fail
                refine hK.out _ _ ?hSr28_18 ?restr28_18
                case hSr28_18 => (try dsimp only); first | exact SX.out | exact SXD.out | exact SXA.out | exact SX9.out | exact SXZ.out
                clear hK K hHeld
                intro hHeld
                try simp only [Act.put, sq1, sq2, sq3]
                refine oH 18 rfl (fun K hK => ?_)
                go_simp
                try go_wp2_with fail
                refine hK.out _ _ ?hSr28_19 ?restr28_19
                case hSr28_19 => (try dsimp only); first | exact SX.out | exact SXD.out | exact SXA.out | exact SX9.out | exact SXZ.out
                clear hK K hHeld
                intro hHeld
                try simp only [Act.put, sq1, sq2, sq3]
                refine oH 19 rfl (fun K hK => ?_)
                refine op_append (v := .slice aov hl.length capv) (vb := .slice (some ⟨WX.heap.size, 0, none⟩) 1 1) rfl rfl rfl rfl HR9.out ?_
                refine hK.out _ _ ?hSr28_20 ?restr28_20
                case hSr28_20 => (try dsimp only); first | exact SX.out | exact SXD.out | exact SXA.out | exact SX9.out | exact SXZ.out
                clear hK K hHeld
                intro hHeld
                try simp only [Act.put, sq1, sq2, sq3]
                refine tH 20 ?vr28_21 rfl rfl ?hyr28_21 ?restr28_21
                case hyr28_21 => intro w hSw; (try dsimp only at hSw); go_simp; try with_reducible rfl
                try simp only [Act.put, sq1, sq2, sq3]
                refine oH 21 rfl (fun K hK => ?_)
                go_simp
                try go_wp2_with fail
                refine hK.out _ _ ?hSr28_22 ?restr28_22
                case hSr28_22 => (try dsimp only); first | exact SX.out | exact SXD.out | exact SXA.out | exact SX9.out | exact SXZ.out
                clear hK K hHeld
                intro hHeld
                try simp only [Act.put, sq1, sq2, sq3]
                refine eH ?_
                refine NoPanic.normal ?_
                go_wp2_with fail
                have HZ9 := hidIt (S9.out _ (by decide) _ _ HQX.out)
                exact ⟨⟨j + 1, hl ++ [⟨P1, P2, P3, ⟨#[84, 104, 114, 111, 119, 97, 98, 108, 101]⟩⟩], _, by go_num, by omega, by rw [List.take_add_one, HXX.out, List.map_append, ← HHL.out]; congr 1; simp [plH, hql1, hql2, hql3, HP123.out], by rw [List.length_append, hcells_snoc]; exact own_same HOW.out (Z9.out _ (by decide)), by rw [set_row HO9.out]; simp, Z9.out _ (by decide) _ _ (S9.out _ (by decide) _ _ HGX.out), by rw [Below.heap_setCell _ _ _ _ HNE.out.symm]; exact HZ9.out, below_set B9.out hgo, own_same HWX.out ((S9.out _ (by decide)).trans (Z9.out _ (by decide))), own_same HFX.out ((S9.out _ (by decide)).trans (Z9.out _ (by decide))), HRX.out.same ((S9.out _ (by decide)).trans (Z9.out _ (by decide)))⟩, by simp [intOf]; omega⟩
              · have hdum := True.intro
                go_simp
                try go_wp2_with fail
                refine hK.out _ _ ?hSr28_23 ?restr28_23
                case hSr28_23 => (try dsimp only); first | exact SX.out | exact SXD.out | exact SXA.out | exact SX9.out | exact SXZ.out
                clear hK K hHeld
                intro hHeld
                try simp only [Act.put, sq1, sq2, sq3]
                refine oH 1 rfl (fun K hK => ?_)
                go_simp
                try go_wp2_with fail
                refine hK.out _ _ ?hSr28_24 ?restr28_24
                case hSr28_24 => (try dsimp only); first | exact SX.out | exact SXD.out | exact SXA.out | exact SX9.out | exact SXZ.out
                clear hK K hHeld
                intro hHeld
                try simp only [Act.put, sq1, sq2, sq3]
                refine oH 19 rfl (fun K hK => ?_)
                refine op_append (v := .slice aov hl.length capv) (vb := .slice (some ⟨WX.heap.size, 0, none⟩) 1 1) rfl rfl rfl rfl HR9.out ?_
                refine hK.out _ _ ?hSr28_25 ?restr28_25
                case hSr28_25 => (try dsimp only); first | exact SX.out | exact SXD.out | exact SXA.out | exact SX9.out | exact SXZ.out
                clear hK K hHeld
                intro hHeld
                try simp only [Act.put, sq1, sq2, sq3]
                refine tH 20 ?vr28_26 rfl rfl ?hyr28_26 ?restr28_26
                case hyr28_26 => intro w hSw; (try dsimp only at hSw); go_simp; try with_reducible rfl
                try simp only [Act.put, sq1, sq2, sq3]
                refine oH 21 rfl (fun K hK => ?_)
                go_simp
                try go_wp2_with fail
                refine hK.out _ _ ?hSr28_27 ?restr28_27
                case hSr28_27 => (try dsimp only); first | exact SX.out | exact SXD.out | exact SXA.out | exact SX9.out | exact SXZ.out
                clear hK K hHeld
                intro hHeld
                try simp only [Act.put, sq1, sq2, sq3]
                refine eH ?_
                refine NoPanic.normal ?_
                go_wp2_with fail
                have HZ9 := hidIt (S9.out _ (by decide) _ _ HQX.out)
                exact ⟨⟨j + 1, hl ++ [⟨P1, P2, P3, ⟨#[84, 104, 114, 111, 119, 97, 98, 108, 101]⟩⟩], _, by go_num, by omega, by rw [List.take_add_one, HXX.out, List.map_append, ← HHL.out]; congr 1; simp [plH, hql1, hql2, hql3, HP123.out], by rw [List.length_append, hcells_snoc]; exact own_same HOW.out (Z9.out _ (by decide)), by rw [set_row HO9.out]; simp, Z9.out _ (by decide) _ _ (S9.out _ (by decide) _ _ HGX.out), by rw [Below.heap_setCell _ _ _ _ HNE.out.symm]; exact HZ9.out, below_set B9.out hgo, own_same HWX.out ((S9.out _ (by decide)).trans (Z9.out _ (by decide))), own_same HFX.out ((S9.out _ (by decide)).trans (Z9.out _ (by decide))), HRX.out.same ((S9.out _ (by decide)).trans (Z9.out _ (by decide)))⟩, by simp [intOf]; omega⟩

            · obtain rfl : j = s.hs.length := by omega
              have hlt' : ¬ (0 : Int) ≤ (s.hs.length : Int) - 1 - (s.hs.length : Int) := by omega
              have hhn : hl.length = s.hs.length := by rw [hhl, List.length_map, List.length_take]; omega
              rw [hhn] at ho
              have o0 := cell_row ho 0 rfl
              have o1 := cell_row ho 1 rfl
              have o2 := cell_row ho 2 rfl
              have o3 := cell_row ho 3 rfl
              have o4 := cell_row ho 4 rfl
              have o5 := cell_row ho 5 rfl
              have o6 := cell_row ho 6 rfl
              have o7 := cell_row ho 7 rfl
              have o8 := cell_row ho 8 rfl
              have HY := hidIt hq
              have HBX := hidIt hb
              have HV := hidIt (And.intro hoh (And.intro hwb (And.intro hof hfr)))
              have HHN := hidIt (And.intro hhn hhl)
              clear ho hq hb hg hoh hwb hof hfr hhn hhl
              go_wp2_with (refine wpList_store_row rfl 38 _ _ rfl w.heap.size #[.string nm, .string ds, .bool st, .bool false, .int .i64 16, .int .i64 ((kinds pl).length : Nat), .slice ao8 EZ.1.length cap8, .slice aov s.hs.length capv, .slice aof fs.length capf] rfl rfl 38 _ HY.out (by kernel_rfl) rfl (by simp [Value.oneCell']) ?_)
              have HT := hidIt (SetsTo.row (cs := #[.string nm, .string ds, .bool st, .bool false, .int .i64 16, .int .i64 ((kinds pl).length : Nat), .slice ao8 EZ.1.length cap8, .slice aov s.hs.length capv, .slice aof fs.length capf]) HY.out)
              refine bodyPost_ret (results_cell_row rfl _ _ w.heap.size 38 _ (0, 0) _ rfl HT.out.1 Try.underlying38 rfl (by kernel_rfl)) rfl ?_
              clear o0 o1 o2 o3 o4 o5 o6 o7 o8
              generalize (wr.setRow w.heap.size #[.string nm, .string ds, .bool st, .bool false, .int .i64 16, .int .i64 ((kinds pl).length : Nat), .slice ao8 EZ.1.length cap8, .slice aov s.hs.length capv, .slice aof fs.length capf]) = WZ at *
              unfold DoneQ handsZ
              rw [HPE.out, HCE.out, HFE.out, HEZ.out]
              refine ⟨_, _, _, fs, rfl, HT.out.2.2 _ _ (Nat.le_refl _) HBX.out, ⟨b0, hb0, own_same HV.out.2.1 (HT.out.2.1 _ (by decide))⟩, ?_, own_same HV.out.2.2.1 (HT.out.2.1 _ (by decide)), HV.out.2.2.2.same (HT.out.2.1 _ (by decide))⟩
              have e := own_same HV.out.1 (HT.out.2.1 _ (by decide))
              rw [HHN.out.1] at e
              rw [List.length_map]
              rw [HHN.out.2, List.take_length] at e
              exact e
end Go.Proofs.Ytlnapfeglbdecaa.M
