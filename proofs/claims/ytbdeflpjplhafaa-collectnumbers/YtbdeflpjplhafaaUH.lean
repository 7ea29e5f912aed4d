/- put, Object, Array of the document's own heap: walked. -/
import Derived.Test.YtbdeflpjplhafaaUG
import Derived.Deep.RegionLaw
namespace Go.Proofs.Ytbdeflpjplhafaa.J
open Go.RowKit Go.MapKept Go.ChangeMaps
set_option linter.unusedVariables false

variable {n0 : Nat} {w : World} {R : RB} {most : Nat} {l : List Ob} {ss : List (List Bool)}
theorem RV.push (h : RV n0 w R most l ss) (o : Ob) {fv v' : Value} {W w1 : World} (hb : Below w.heap.size w W) (hf : W.ownsRow w.heap.size 2 1 fv o.f.length (icells o.f)) (ho : w1.ownsRow n0 103 4 v' (l.length + 1) (ocells 0 l R.fvs ++ ocell (usedN l) o fv)) (hg : W.grownBy w1 R.lv.ownBlock)
    (ha : v'.ownBlock = R.lv.ownBlock ∨ v'.ownBlock = some W.heap.size) (hfew : usedN (l ++ [o]) ≤ most) (hwf : Wf ss (l ++ [o])) :
    RV n0 (w1.setCell ⟨R.rb, 1, none⟩ v') { R with lv := v', fvs := R.fvs ++ [fv] } most (l ++ [o]) ss ∧ RStep R { R with lv := v', fvs := R.fvs ++ [fv] } w (w1.setCell ⟨R.rb, 1, none⟩ v') := by
  have hk : ∀ b, b < w.heap.size → b ≠ R.rb → R.lv.ownBlock ≠ some b → (w1.setCell ⟨R.rb, 1, none⟩ v').heap[b]? = w.heap[b]? := fun b h1 h2 h3 => (heap_setCell_other w1 ⟨R.rb, 1, none⟩ b _ h2).trans ((hg.block b (Nat.lt_of_lt_of_le h1 hb.size) (fun e => h3 e.symm)).trans (hb.block b h1))
  have hbw : w1.heap[R.rb]? = w.heap[R.rb]? := (hg.block _ (Nat.lt_of_lt_of_le h.box.lt hb.size) (fun e => own_not h.lo_ h.box (by decide) e.symm)).trans (hb.block _ h.box.lt)
  have hn0 : n0 ≤ w.heap.size := by have := h.lt (.inl rfl); omega
  have hrb := h.box.lt
  have hv : v'.ownBlock ≠ some R.rb := own_not ho (h.box.kept hbw) (by decide)
  have hfk : (w1.setCell ⟨R.rb, 1, none⟩ v').ownsRow n0 2 1 fv o.f.length (icells o.f) := own_wk (own_kept hf (fun g eg => by
    have hgl := hf.lt g eg
    exact (heap_setCell_other w1 ⟨R.rb, 1, none⟩ g _ (by show g ≠ R.rb; omega)).trans (hg.block g hgl.2 (fun e => by have := (h.lo_.lt g e.symm).2; omega)))) hn0
  have hsz : w.heap.size ≤ (w1.setCell ⟨R.rb, 1, none⟩ v').heap.size := by have := hg.size; have := hb.size; simp; omega
  refine ⟨⟨h.lo, ?_, ?_, by simp [h.fl], fun i v o' hv' ho' => ?_, own_kept h.so (fun b e => hk b (h.so.lt b e).2 (fun e' => own_not h.so h.box (by decide) (e' ▸ e)) (fun e' => own_apart h.so h.lo_ (by decide) e e')), fun i v r hv' hr => own_kept (h.go i v r hv' hr) (fun b e => hk b ((h.go i v r hv' hr).lt b e).2 (fun e' => own_not (h.go i v r hv' hr) h.box (by decide) (e' ▸ e)) (fun e' => own_apart (h.go i v r hv' hr) h.lo_ (by decide) e e')), fun i j v u b hij hvi huj hbv => ?_, hwf, hfew, h.most⟩, ⟨hg.os.trans hb.os, hg.tape.trans hb.tape, hg.output.trans hb.output, hsz, fun b h1 h2 => hk b h1 (fun e => h2 (.inl e)) (fun e => h2 (.inr (.inl e))), rfl, fun b e => ?_⟩⟩
  · have := (h.box.kept hbw).set 1 v'
    simpa using this
  · show (w1.setCell ⟨R.rb, 1, none⟩ v').ownsRow n0 103 4 v' (l ++ [o]).length (ocells 0 (l ++ [o]) (R.fvs ++ [fv]))
    rw [ocells_append l R.fvs 0 o fv h.fl, Nat.zero_add, List.length_append]
    exact own_kept ho (fun b e => heap_setCell_other w1 ⟨R.rb, 1, none⟩ b _ (fun e' => hv (by rw [e]; exact congrArg some e')))
  · rw [List.getElem?_append] at hv' ho'
    rw [h.fl] at hv'
    split at ho'
    · rename_i hlt
      rw [if_pos hlt] at hv'
      have hfo := h.fo i v o' hv' ho'
      exact own_kept hfo (fun b e => hk b (hfo.lt b e).2 (fun e' => own_not hfo h.box (by decide) (e' ▸ e)) (fun e' => own_apart hfo h.lo_ (by decide) e e'))
    · rename_i hlt
      rw [if_neg hlt] at hv'
      have h0 : i - l.length = 0 := by have := (List.getElem?_eq_some_iff.1 ho').1; simp at this; omega
      rw [h0] at hv' ho'
      obtain rfl : fv = v := by simpa using hv'
      obtain rfl : o = o' := by simpa using ho'
      exact hfk
  · intro hbu
    rw [List.getElem?_append, h.fl] at hvi huj
    have hold : ∀ (j : Nat) u, R.fvs[j]? = some u → u.ownBlock = some b → b < w.heap.size := fun j u hu e => (h.lt (.inr (.inr (.inr (.inl ⟨u, List.mem_of_getElem? hu, e⟩))))).2
    split at hvi
    · split at huj
      · exact h.ap i j v u b hij hvi huj hbv hbu
      · have h0 : j - l.length = 0 := by have := (List.getElem?_eq_some_iff.1 huj).1; simp at this; omega
        rw [h0] at huj
        obtain rfl : fv = u := by simpa using huj
        have := (hf.lt b hbu).1
        have := hold i v hvi hbv
        omega
    · have h0 : i - l.length = 0 := by have := (List.getElem?_eq_some_iff.1 hvi).1; simp at this; omega
      rw [h0] at hvi
      obtain rfl : fv = v := by simpa using hvi
      split at huj
      · have := (hf.lt b hbv).1
        have := hold j u huj hbu
        omega
      · have h1 : j - l.length = 0 := by have := (List.getElem?_eq_some_iff.1 huj).1; simp at this; omega
        omega
  · rcases e with e | e | e | ⟨v, hv1, e⟩ | e
    · exact .inl (.inl e)
    · rcases ha with e' | e'
      · exact .inl (.inr (.inl (e' ▸ e)))
      · have e : v'.ownBlock = some b := e
        rw [e', Option.some.injEq] at e
        exact .inr (by have := hb.size; omega)
    · exact .inl (.inr (.inr (.inl e)))
    · rcases List.mem_append.1 hv1 with hm | hm
      · exact .inl (.inr (.inr (.inr (.inl ⟨v, hm, e⟩))))
      · obtain rfl : v = fv := by simpa using hm
        exact .inr (hf.lt b e).1
    · exact .inl (.inr (.inr (.inr (.inr e))))
theorem Try.infoO : (Try.prog.info? 103).map (fun i => (i.zero, i.size, i.bytes)) = some (some (.agg #[.int .i64 0, .int .i64 0, .slice none 0 0, .int .i64 0]), 4, 48) := by kernel_rfl
theorem op_append {P : Program} {ops : Array Oper} {o : Oper} {a : Act} {w w' : World} {K : Act → World → Prop} {Q : Exit → Act → World → Prop} {E : Prop} {s x : Operand} {t : TypeId} {v vb v' : Value} (hgd : o.guard = none)
    (ho : o.op = .call { callee := .builtin .append, args := #[s, x], argTypes := #[t, t] }) (hs : a.eval s = v) (hx : a.eval x = vb) (hr : (Builtin.append_ #[t, t] o.type #[v, vb]).run P w = .ok v' w') (h : K (a.put o.dst v') w') :
    if Region.wanted o (yielded ops a.tmps) = true then Oper.wp P o a w K Q else E := by
  rw [if_pos (by simp [Region.wanted, hgd])]
  unfold Oper.wp execOp
  simp only [ho, resolve, invoke, builtin, Sem.run_bind, Sem.run_pure, Result.andThen_ok, List.map_toArray, List.map_cons, List.map_nil, hs, hx, hr]
  exact h
def zObj (s : Int) (k : Nat) : Ob := ⟨s, 0, List.replicate k 0⟩
set_option maxRecDepth 8000 in
theorem put_full (h : RV n0 w R most l ss) (s : Int) (k : Nat) (hk : k ≤ 100000) (hf : most < usedN l + (k + 3)) : Calls Try.prog 46 #[R.ptr, .int .i64 s, .int .i64 (k : Int)] w fun e w' => e = .returned (.tuple #[.int .i64 0, .int .i64 26]) ∧ ∃ q, w' = w.drewN q := by
  have GU := hidIt (fun q => uused_any (h.drewN q))
  have GU0 := hidIt (uused_any h)
  have c0 : w.cell? ⟨R.rb, 0, none⟩ = some (.int .i64 (most : Int)) := h.box.cell 0
  have hm := h.most
  have hfew := h.few
  unfold RB.ptr at GU GU0 ⊢
  clear h
  generalize usedN l = U at *
  have a1 : (most : Int) - (U : Int) < 3 + (k : Int) := by omega
  have a2 : (most : Int) ≤ 16384 := by omega
  have a3 : (U : Int) ≤ 16384 := by omega
  have a4 : (k : Int) ≤ 100000 := by omega
  go_enter Try.func46, Try.ntmps46
  go_wp2_with (go_at_call 65; refine GU0.out.mono ?_; rintro e w' ⟨rfl, hww⟩; cases hww; clear GU0)
  go_quiet ((go_at_call 65; exact Calls.quiet_of_same (GU.out _)))
  go_wp2_with fail
  go_ret2
  exact ⟨rfl, _, rfl⟩
set_option maxRecDepth 8000 in
set_option maxHeartbeats 4000000 in
theorem put_any (h : RV n0 w R most l ss) (s : Int) (k : Nat) (hk : k ≤ 100000) (hf : usedN l + (k + 3) ≤ most) (hwf : -2 ≤ s ∧ (0 ≤ s → ∃ r, ss[s.toNat]? = some r ∧ r.length = k)) : Calls Try.prog 46 #[R.ptr, .int .i64 s, .int .i64 (k : Int)] w fun e w' => e = .returned (.tuple #[.int .i64 ((usedN l : Int) + 1), .int .i64 0]) ∧ ∃ R', RV n0 w' R' most (l ++ [zObj s k]) ss ∧ RStep R R' w w' := by
  have GU := hidIt (fun q => uused_any (h.drewN q))
  have GU0 := hidIt (uused_any h)
  have c0 : w.cell? ⟨R.rb, 0, none⟩ = some (.int .i64 (most : Int)) := h.box.cell 0
  have hm := h.most
  have hfew := h.few
  have HH := hidIt h
  unfold RB.ptr at GU GU0 ⊢
  clear h
  generalize hU : usedN l = U at *
  have HU := hidIt hU
  clear hU
  have a1 : ¬ (most : Int) - (U : Int) < 3 + (k : Int) := by omega
  have a2 : (most : Int) ≤ 16384 := by omega
  have a3 : (U : Int) ≤ 16384 := by omega
  have a4 : (k : Int) ≤ 100000 := by omega
  go_enter Try.func46, Try.ntmps46
  go_wp2_with (go_at_call 65; refine GU0.out.mono ?_; rintro e w' ⟨rfl, hww⟩; cases hww; clear GU0)
  go_quiet ((go_at_call 65; exact Calls.quiet_of_same (GU.out _)))
  go_upto_region 4 with (fail)
  have H1 := HH.out.drewN nq
  have S1 : Hid (Below w.heap.size w (w.drewN nq)) := hidIt (below_drewN (Below.refl _ _) _)
  generalize w.drewN nq = W0 at *
  clear c0 GU
  obtain ⟨iI, hI, hI0, hI1, hI2⟩ := info_parts Try.infoI8
  have m1 : ∀ W : World, (Instr.makeSlice 84 (.int .i64 (k : Int)) (.int .i64 (k : Int))).run Try.prog W = .ok (.slice (some ⟨W.heap.size, 0, none⟩) k k) (W.alloc (.cells (madeCells #[.int .i64 0] k) 2)) := fun W => run_make_row _ _ iI _ Try.underlying84 hI hI0 hI1 rfl _ _ _ (by rw [hI2]; omega) (by omega) W
  clear hI hI0 hI1 hI2
  obtain ⟨ao, cap, el⟩ := own_slice H1.lo_
  obtain ⟨X, hX⟩ : ∃ X, X = ((W0.alloc (.cells (madeCells #[.int .i64 0] k) 2)).alloc (.cells #[.int .i64 ((U : Int) + 1), .int .i64 s, .slice (some ⟨W0.heap.size, 0, none⟩) k k, .int .i64 0] 103)).drew := ⟨_, rfl⟩
  have hbX : Below W0.heap.size W0 X := by rw [hX]; exact (((Below.refl _ _).alloc (Nat.le_refl _) _).alloc (by simp) _).drew
  have hXs : X.heap.size = W0.heap.size + 2 := by rw [hX]; simp
  have hX1 : X.heap[W0.heap.size + 1]? = some (.cells #[.int .i64 ((U : Int) + 1), .int .i64 s, .slice (some ⟨W0.heap.size, 0, none⟩) k k, .int .i64 0] 103 (0, 0)) := by
    rw [hX]
    have := heap_alloc_new (W0.alloc (.cells (madeCells #[.int .i64 0] k) 2)) (.cells #[.int .i64 ((U : Int) + 1), .int .i64 s, .slice (some ⟨W0.heap.size, 0, none⟩) k k, .int .i64 0] 103)
    rw [World.size_alloc] at this
    exact this
  have hX0 : X.heap[W0.heap.size]? = some (.cells (madeCells #[.int .i64 0] k) 2 (0, 0)) := by
    rw [hX]
    exact (Below.heap_alloc _ _ _ (by simp)).trans (heap_alloc_new W0 _)
  have hf : X.ownsRow W0.heap.size 2 1 (.slice (some ⟨W0.heap.size, 0, none⟩) k k) k (icells (List.replicate k 0)) :=
    ⟨by simp [icells], .inr ⟨W0.heap.size, k, _, rfl, Nat.le_refl _, hX0, Nat.le_refl _, by unfold maxLen; omega, by have := congrArg List.length (toList_madeCells_one (.int .i64 0) k); simpa using this, by rw [toList_madeCells_one]; simp [icells]⟩⟩
  have hll : l.length ≤ 16384 := by have := usedN_ge l; have := HU.out; omega
  have hn0 : n0 ≤ W0.heap.size := by have := H1.lt (.inl rfl); omega
  have hoX : X.ownsRow n0 103 4 (.slice ao l.length cap) l.length (ocells 0 l R.fvs) := by rw [← el]; exact own_below H1.lo_ hbX
  obtain ⟨iO, hO, hO0, hO1, hO2⟩ := info_parts Try.infoO
  obtain ⟨v1, w1, hr, h2, hg, _, hat⟩ := run_append_own_at (P := Try.prog) X n0 93 93 103 iO _ 4 48 Try.underlying93 hO hO0 hO1 hO2 rfl (by decide) (.slice ao l.length cap) l.length (ocells 0 l R.fvs) hoX ⟨W0.heap.size + 1, 0, none⟩ 1 1 (ocell U (zObj s k) (.slice (some ⟨W0.heap.size, 0, none⟩) k k)) rfl (fun j u hj => by
    have e : (⟨W0.heap.size + 1, 0, none⟩ : Addr).add j = ⟨W0.heap.size + 1, j, none⟩ := by unfold Addr.add; split <;> simp_all
    rw [e, cell_of_row X (W0.heap.size + 1) j _ _ (0, 0) hX1]
    match j, hj with
    | 0, hj => exact hj
    | 1, hj => exact hj
    | 2, hj => exact hj
    | 3, hj => exact hj) (fun u hu => by
    simp only [ocell, List.mem_cons, List.not_mem_nil, or_false] at hu
    rcases hu with rfl | rfl | rfl | rfl <;> rfl) (by unfold maxLen; omega) (by omega) (by omega)
  obtain ⟨ao1, cap1, rfl⟩ := own_slice h2
  have hbw : w1.heap[R.rb]? = W0.heap[R.rb]? := (hg.block _ (Nat.lt_of_lt_of_le H1.box.lt hbX.size) (fun e => own_not H1.lo_ H1.box (by decide) (by rw [el]; exact e.symm))).trans (hbX.block _ H1.box.lt)
  have y1 : w1.cell? ⟨R.rb, 1, none⟩ = some (.slice ao l.length cap) := by rw [← el]; exact (H1.box.kept hbw).cell 1
  have z1 : w1.frozen? ⟨R.rb, 1, none⟩ = false := (H1.box.kept hbw).frozen 1
  have xx : X.cell? ⟨R.rb, 1, none⟩ = some (.slice ao l.length cap) := by rw [← el]; exact (H1.below hbX).box.cell 1
  have x1 : W0.cell? ⟨R.rb, 1, none⟩ = some (.slice ao l.length cap) := by rw [← el]; exact H1.box.cell 1
  have xa : (W0.alloc (.cells (madeCells #[.int .i64 0] k) 2)).drew.cell? ⟨R.rb, 1, none⟩ = some (.slice ao l.length cap) := by rw [← el]; exact (H1.below ((Below.refl _ _).alloc (Nat.le_refl _) (.cells (madeCells #[.int .i64 0] k) 2)).drew).box.cell 1
  have FIN0 := hidIt (H1.push (zObj s k) hbX (by simpa [zObj] using hf) (by rw [HU.out]; simpa using h2) (by rw [el]; exact hg) (by rw [el]; exact hat) (by rw [usedN_append]; simp [usedN, zObj]; have := HU.out; omega) (H1.wf.snoc ⟨hwf.1, by simpa [zObj] using hwf.2⟩))
  have FIN : Hid (RV n0 (w1.setCell ⟨R.rb, 1, none⟩ (.slice ao1 (l.length + 1) cap1)) { R with lv := .slice ao1 (l.length + 1) cap1, fvs := R.fvs ++ [.slice (some ⟨W0.heap.size, 0, none⟩) k k] } most (l ++ [zObj s k]) ss ∧ RStep R { R with lv := .slice ao1 (l.length + 1) cap1, fvs := R.fvs ++ [.slice (some ⟨W0.heap.size, 0, none⟩) k k] } w (w1.setCell ⟨R.rb, 1, none⟩ (.slice ao1 (l.length + 1) cap1))) := hidIt ⟨FIN0.out.1, (RStep.of_below S1.out).trans FIN0.out.2⟩
  clear h2 hg hat hbw hoX hf hX0 hX1 hXs hbX hO hO0 hO1 hO2 H1 el
  subst hX
  have HR := hidIt hr
  clear hr
  go_region_law (refine op_append rfl rfl rfl rfl HR.out ?_)
  all_goals go_wp2_with fail
  all_goals go_ret2
  all_goals exact ⟨rfl, _, FIN.out⟩
end Go.Proofs.Ytbdeflpjplhafaa.J

