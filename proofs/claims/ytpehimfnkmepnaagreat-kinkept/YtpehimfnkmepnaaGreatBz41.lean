import Derived.Test.YtpehimfnkmepnaaGreatBz40
set_option maxRecDepth 8000
set_option maxHeartbeats 40000000
namespace Go.Proofs.YtpehimfnkmepnaaGreat.K
open Go.RowKit Go.Shelf Q Q.D
attribute [local go_sem] Oper.semAt_some
def zDh (l : List Mem) : List Value := l.map fun m => .string m.k.nm
theorem zOw : ∀ (R : List Mem) (s : ByteArray), (lin R s).length ≤ R.length
 | [], _ => Nat.le_refl _
 | m :: o, s => by
   unfold lin
   split
   · have := zOw o m.k.sup; simp; omega
   · have := zOw o s; simp; omega
theorem Tryz.info9k : (Tryz.prog.info? 9).map (fun i => (i.zero, i.size, i.bytes)) = some (some (.string ⟨#[]⟩), 1, 16) := by kernel_rfl
theorem zC3 {l n : Nat} {P : Program} {o : Oper} {a : Act} {w w' : World} {K : Act → World → Prop} {Q : Exit → Act → World → Prop} {X : Prop} {ys : Nat → Option Bool} {s x : Operand} {t : TypeId} {v vb v' : Value} (hw : o.guard = none)
 (ho : o.op = .call { callee := .builtin .append, args := #[s, x], argTypes := #[t, t] }) (hs : a.eval s = v) (hx : a.eval x = vb) (hr : (Builtin.append_ #[t, t] o.type #[v, vb]).run P w = .ok v' w') (h : K (a.put o.dst v') w') :
 if Region.wanted o ys = true then Oper.wpIn (Fence.wide.inRound l) n P o a w K Q else X := by
 rw [if_pos (by simp [Region.wanted, hw])]
 refine ⟨fun f hf => trivial, ?_⟩
 rw [show (Fence.wide.inRound l).round = some l from rfl, Oper.semAt_some l _ _ (fun c => by rw [ho]; simp)]
 unfold execOp
 simp only [ho, resolve, invoke, builtin, Sem.run_bind, Sem.run_pure, Result.andThen_ok, List.map_toArray, List.map_cons, List.map_nil, hs, hx, hr]
 exact h
def lineI (w W2 : World) (pre : List Mem) (W : World) : Prop :=
 (∃ v, Boxed W w.heap.size 47 v ∧ W.ownsRow w.heap.size 9 1 v pre.length (zDh pre) ∧ True) ∧ Below w.heap.size w W ∧ Below w.heap.size W2 W
theorem zOm (w : World) (pk : Nat) (R : List Mem) (mb : Nat) (ao : Option Addr) (c : Nat) (h : KinV w pk R mb ao c) (hR : R.length ≤ 1000000) (a : ByteArray) :
 Calls Tryz.prog 63 #[.pointer (some ⟨pk, 0, none⟩), .string a] w fun e w' => ∃ v, e = .returned v ∧ w'.ownsRow w.heap.size 9 1 v (lin R a).length (zDh (lin R a)) ∧ Below w.heap.size w w' := by
 refine (callsIn_wide (n := 5)).1 ?_
 have B2 : Below w.heap.size w (w.alloc (.cells #[.slice none 0 0] 47)) := (Below.refl _ w).alloc (Nat.le_refl _) _
 have h2 := h.below B2
 have hl := h2.look a
 have e1 := h2.e1
 have hlen := zOw R a
 refine callsIn_of_wp_marks Tryz.func63 rfl trivial ?_ rfl
 simp only [Tryz.ntmps63, List.size_toArray, List.length_cons, List.length_nil, Nat.reduceAdd, Nat.reduceSub, Array.replicate_succ, Array.replicate_zero, List.push_toArray, List.append_toArray, List.nil_append, List.cons_append]
 gi_wp2
 have hch := h.mems.chain a
 have hch2 := h2.mems.chain a
 have cb := Boxed.new w 47 (.slice none 0 0)
 generalize hp : zB7 R a = p at hch hch2 ⊢
 generalize hW : w.alloc (.cells #[.slice none 0 0] 47) = W2 at *
 have hsz : W2.heap.size = w.heap.size + 1 := by rw [← hW]; simp
 refine zEv (α := Mem) (n := 5) rfl (enters_of Tryz.func110 (by kernel_rfl) rfl) enc (lin R a) (fun W => Below w.heap.size w W) rfl (zLv 4 w p (lin R a) hch)
  (lineI w W2) (fun _ _ => False)
  (OwnFrom.and (Own.from (holdsRow_own w.heap.size w.heap.size 47 9 1 (fun pre => pre.length) zDh (fun _ _ => True)) _) (OwnFrom.and (zBx (by omega)) (ownFrom_below (by omega) (by omega))))
  (fun _ _ _ _ h _ _ => h)
  (fun _ _ h => h.2.1) ?q0
  (fun x => { tmps := #[.pointer (some ⟨pk, 0, none⟩), .string a, undef, undef, .slice none 0 0, .pointer (some ⟨w.heap.size, 0, none⟩), .pointer (some ⟨x.b, 0, none⟩), .pointer (some ⟨pk, 0, none⟩), .pointer (some ⟨pk, 0, none⟩), .pointer (some ⟨pk, 1, none⟩), .map (some mb), .string a, ptr p, .func (.func 110) #[ptr p] #[], .pointer (some ⟨x.b, 0, none⟩), undef, undef, undef, undef, undef, undef, undef, undef, undef], defers := [] })
  ?q1 ?q2 ?q3 ?q4
 case q0 =>
  exact ⟨⟨_, cb, World.ownsRow_nil _ _ _ _, trivial⟩, B2, Below.refl _ _⟩
 case q1 =>
  intro l x W K hK
  unfold enc
  gi_wp2
  exact hK
 case q2 =>
  rintro l pre x rest W hx ⟨⟨v, hv, hown, _⟩, hB, hB2⟩
  obtain ⟨i0, hi, hz0, hz1, hz2⟩ := info_parts Tryz.info9k
  obtain ⟨ab, hm⟩ := (hch.ext (zAi hB)).at x (by rw [hx]; simp)
  obtain ⟨_, _, _, _, _, _, hm⟩ := hm
  have hn := hm.e0
  clear hm
  have hplen : pre.length + 1 ≤ 1000000 := by have := congrArg List.length hx; simp at this; omega
  have hsW := hB.size
  obtain ⟨v', w1, hr, ho, hg, _, hat⟩ := run_append_own_at (P := Tryz.prog) (w := W.drew.alloc (.cells #[.string x.k.nm] 9)) w.heap.size 47 47 9 i0 (.string ⟨#[]⟩) 1 16 Tryz.underlying47 hi hz0 hz1 hz2 rfl (by decide) v pre.length (zDh pre)
   ((show W.drew.ownsRow w.heap.size 9 1 v pre.length (zDh pre) from hown).alloc _) ⟨W.heap.size, 0, none⟩ 1 1 [.string x.k.nm] rfl (fun j u hj => by
    match j, hj with
    | 0, hj => simp at hj; subst hj; exact (zEr W.drew _ _).1
    | j + 1, hj => simp at hj) (by simp [Value.oneCell']) (by unfold maxLen; omega) (by omega) (by simp; omega)
  obtain ⟨hv1, hv2, hr2, hk2, hb2⟩ := (show Boxed W.drew w.heap.size 47 v from hv).appended (by decide) (show W.drew.ownsRow w.heap.size 9 1 v pre.length (zDh pre) from hown) hsW (Nat.le_refl _) ho hg
  have hb2' : Below w.heap.size W (w1.setCell ⟨w.heap.size, 0, none⟩ v') := (show Below w.heap.size W W.drew from (Below.refl _ W).drew).trans hb2
  have hc := hv.cell
  have hc1 := hv1.cell
  have hf1 := hv1.frozen
  obtain ⟨g', cap', rfl⟩ := ownsRow_succ ho
  replace hr : (Builtin.append_ #[47, 47] 47 #[v, .slice (some ⟨W.heap.size, 0, none⟩) 1 1]).run Tryz.prog (W.alloc (.cells #[.string x.k.nm] 9)).drew = .ok (.slice (some ⟨g', 0, none⟩) (pre.length + 1) cap') w1 := hr
  have hn1 : (W.alloc (.cells #[.string x.k.nm] 9)).cell? ⟨w.heap.size, 0, none⟩ = some v := zI1 _ hc
  have hmx : Tryz.prog.follows .mixedOrders = true := by kernel_rfl
  have fin : ∀ a', zJ7 (lineI w W2) (fun _ _ => False) (pre ++ [x]) W .normal a' (w1.setCell ⟨w.heap.size, 0, none⟩ (.slice (some ⟨g', 0, none⟩) (pre.length + 1) cap')) := by
   intro a'
   refine ⟨(KeepsOthers.drew W).trans hk2, ⟨_, hv2, ?_, trivial⟩, hB.trans (hb2' : Below w.heap.size W _), hB2.trans hb2'⟩
   simpa [zDh] using hr2
  gi_wp2
  refine wpIn_region_any hmx ?_
  try (change wpAnyIn _ _ _ _ _ _ _ _ _ (World.drew _))
  refine wpAnyIn_ready (rs := [0, 1]) (by kernel_rfl) (by simp) ?_
  refine AllReadyIn.cons rfl (fun K hK => ?_) ?_
  · go_simp
    refine hK _ _ ?_
    clear hK K
    refine wpAnyIn_ready (rs := [1]) (by kernel_rfl) (by simp) ?_
    refine AllReadyIn.cons rfl (fun K hK => ?_) ?_
    · go_simp
      refine hK _ _ ?_
      clear hK K
      refine wpAnyIn_ready (rs := [2]) (by kernel_rfl) (by simp) ?_
      refine AllReadyIn.cons rfl (fun K hK => ?_) ?_
      · go_simp
        refine hK _ _ ?_
        clear hK K
        refine wpAnyIn_ready (rs := [3]) (by kernel_rfl) (by simp) ?_
        refine AllReadyIn.cons rfl (fun K hK => ?_) ?_
        · go_simp
          refine hK _ _ ?_
          clear hK K
          refine wpAnyIn_ready (rs := [4]) (by kernel_rfl) (by simp) ?_
          refine AllReadyIn.cons rfl (fun K hK => ?_) ?_
          · go_simp
            refine hK _ _ ?_
            clear hK K
            refine wpAnyIn_ready (rs := [5]) (by kernel_rfl) (by simp) ?_
            refine AllReadyIn.cons rfl (fun K hK => ?_) ?_
            · go_simp
              refine hK _ _ ?_
              clear hK K
              refine wpAnyIn_ready (rs := [6]) (by kernel_rfl) (by simp) ?_
              refine AllReadyIn.cons rfl (fun K hK => ?_) ?_
              · go_simp
                refine hK _ _ ?_
                clear hK K
                refine wpAnyIn_ready (rs := [7]) (by kernel_rfl) (by simp) ?_
                refine AllReadyIn.cons rfl (fun K hK => ?_) ?_
                · refine zC3 (v := v) (vb := .slice (some ⟨W.heap.size, 0, none⟩) 1 1) rfl rfl rfl rfl hr ?_
                  refine hK _ _ ?_
                  clear hK K
                  refine wpAnyIn_ready (rs := [8]) (by kernel_rfl) (by simp) ?_
                  refine AllReadyIn.cons rfl (fun K hK => ?_) ?_
                  · go_simp
                    refine hK _ _ ?_
                    clear hK K
                    refine wpAnyIn_done (by kernel_rfl) ?_ _
                    gi_wp2
                    exact fin _
                  exact AllReadyIn.nil
                exact AllReadyIn.nil
              exact AllReadyIn.nil
            exact AllReadyIn.nil
          exact AllReadyIn.nil
        exact AllReadyIn.nil
      exact AllReadyIn.nil
    exact AllReadyIn.nil
  refine AllReadyIn.cons rfl (fun K hK => ?_) ?_
  · go_simp
    refine hK _ _ ?_
    clear hK K
    refine wpAnyIn_ready (rs := [0, 2]) (by kernel_rfl) (by simp) ?_
    refine AllReadyIn.cons rfl (fun K hK => ?_) ?_
    · go_simp
      refine hK _ _ ?_
      clear hK K
      refine wpAnyIn_ready (rs := [2]) (by kernel_rfl) (by simp) ?_
      refine AllReadyIn.cons rfl (fun K hK => ?_) ?_
      · go_simp
        refine hK _ _ ?_
        clear hK K
        refine wpAnyIn_ready (rs := [3]) (by kernel_rfl) (by simp) ?_
        refine AllReadyIn.cons rfl (fun K hK => ?_) ?_
        · go_simp
          refine hK _ _ ?_
          clear hK K
          refine wpAnyIn_ready (rs := [4]) (by kernel_rfl) (by simp) ?_
          refine AllReadyIn.cons rfl (fun K hK => ?_) ?_
          · go_simp
            refine hK _ _ ?_
            clear hK K
            refine wpAnyIn_ready (rs := [5]) (by kernel_rfl) (by simp) ?_
            refine AllReadyIn.cons rfl (fun K hK => ?_) ?_
            · go_simp
              refine hK _ _ ?_
              clear hK K
              refine wpAnyIn_ready (rs := [6]) (by kernel_rfl) (by simp) ?_
              refine AllReadyIn.cons rfl (fun K hK => ?_) ?_
              · go_simp
                refine hK _ _ ?_
                clear hK K
                refine wpAnyIn_ready (rs := [7]) (by kernel_rfl) (by simp) ?_
                refine AllReadyIn.cons rfl (fun K hK => ?_) ?_
                · refine zC3 (v := v) (vb := .slice (some ⟨W.heap.size, 0, none⟩) 1 1) rfl rfl rfl rfl hr ?_
                  refine hK _ _ ?_
                  clear hK K
                  refine wpAnyIn_ready (rs := [8]) (by kernel_rfl) (by simp) ?_
                  refine AllReadyIn.cons rfl (fun K hK => ?_) ?_
                  · go_simp
                    refine hK _ _ ?_
                    clear hK K
                    refine wpAnyIn_done (by kernel_rfl) ?_ _
                    gi_wp2
                    exact fin _
                  exact AllReadyIn.nil
                exact AllReadyIn.nil
              exact AllReadyIn.nil
            exact AllReadyIn.nil
          exact AllReadyIn.nil
        exact AllReadyIn.nil
      exact AllReadyIn.nil
    refine AllReadyIn.cons rfl (fun K hK => ?_) ?_
    · go_simp
      refine hK _ _ ?_
      clear hK K
      refine wpAnyIn_ready (rs := [0, 3]) (by kernel_rfl) (by simp) ?_
      refine AllReadyIn.cons rfl (fun K hK => ?_) ?_
      · go_simp
        refine hK _ _ ?_
        clear hK K
        refine wpAnyIn_ready (rs := [3]) (by kernel_rfl) (by simp) ?_
        refine AllReadyIn.cons rfl (fun K hK => ?_) ?_
        · go_simp
          refine hK _ _ ?_
          clear hK K
          refine wpAnyIn_ready (rs := [4]) (by kernel_rfl) (by simp) ?_
          refine AllReadyIn.cons rfl (fun K hK => ?_) ?_
          · go_simp
            refine hK _ _ ?_
            clear hK K
            refine wpAnyIn_ready (rs := [5]) (by kernel_rfl) (by simp) ?_
            refine AllReadyIn.cons rfl (fun K hK => ?_) ?_
            · go_simp
              refine hK _ _ ?_
              clear hK K
              refine wpAnyIn_ready (rs := [6]) (by kernel_rfl) (by simp) ?_
              refine AllReadyIn.cons rfl (fun K hK => ?_) ?_
              · go_simp
                refine hK _ _ ?_
                clear hK K
                refine wpAnyIn_ready (rs := [7]) (by kernel_rfl) (by simp) ?_
                refine AllReadyIn.cons rfl (fun K hK => ?_) ?_
                · refine zC3 (v := v) (vb := .slice (some ⟨W.heap.size, 0, none⟩) 1 1) rfl rfl rfl rfl hr ?_
                  refine hK _ _ ?_
                  clear hK K
                  refine wpAnyIn_ready (rs := [8]) (by kernel_rfl) (by simp) ?_
                  refine AllReadyIn.cons rfl (fun K hK => ?_) ?_
                  · go_simp
                    refine hK _ _ ?_
                    clear hK K
                    refine wpAnyIn_done (by kernel_rfl) ?_ _
                    gi_wp2
                    exact fin _
                  exact AllReadyIn.nil
                exact AllReadyIn.nil
              exact AllReadyIn.nil
            exact AllReadyIn.nil
          exact AllReadyIn.nil
        exact AllReadyIn.nil
      refine AllReadyIn.cons rfl (fun K hK => ?_) ?_
      · go_simp
        refine hK _ _ ?_
        clear hK K
        refine wpAnyIn_ready (rs := [0, 4]) (by kernel_rfl) (by simp) ?_
        refine AllReadyIn.cons rfl (fun K hK => ?_) ?_
        · go_simp
          refine hK _ _ ?_
          clear hK K
          refine wpAnyIn_ready (rs := [4]) (by kernel_rfl) (by simp) ?_
          refine AllReadyIn.cons rfl (fun K hK => ?_) ?_
          · go_simp
            refine hK _ _ ?_
            clear hK K
            refine wpAnyIn_ready (rs := [5]) (by kernel_rfl) (by simp) ?_
            refine AllReadyIn.cons rfl (fun K hK => ?_) ?_
            · go_simp
              refine hK _ _ ?_
              clear hK K
              refine wpAnyIn_ready (rs := [6]) (by kernel_rfl) (by simp) ?_
              refine AllReadyIn.cons rfl (fun K hK => ?_) ?_
              · go_simp
                refine hK _ _ ?_
                clear hK K
                refine wpAnyIn_ready (rs := [7]) (by kernel_rfl) (by simp) ?_
                refine AllReadyIn.cons rfl (fun K hK => ?_) ?_
                · refine zC3 (v := v) (vb := .slice (some ⟨W.heap.size, 0, none⟩) 1 1) rfl rfl rfl rfl hr ?_
                  refine hK _ _ ?_
                  clear hK K
                  refine wpAnyIn_ready (rs := [8]) (by kernel_rfl) (by simp) ?_
                  refine AllReadyIn.cons rfl (fun K hK => ?_) ?_
                  · go_simp
                    refine hK _ _ ?_
                    clear hK K
                    refine wpAnyIn_done (by kernel_rfl) ?_ _
                    gi_wp2
                    exact fin _
                  exact AllReadyIn.nil
                exact AllReadyIn.nil
              exact AllReadyIn.nil
            exact AllReadyIn.nil
          exact AllReadyIn.nil
        refine AllReadyIn.cons rfl (fun K hK => ?_) ?_
        · go_simp
          refine hK _ _ ?_
          clear hK K
          refine wpAnyIn_ready (rs := [0, 5]) (by kernel_rfl) (by simp) ?_
          refine AllReadyIn.cons rfl (fun K hK => ?_) ?_
          · go_simp
            refine hK _ _ ?_
            clear hK K
            refine wpAnyIn_ready (rs := [5]) (by kernel_rfl) (by simp) ?_
            refine AllReadyIn.cons rfl (fun K hK => ?_) ?_
            · go_simp
              refine hK _ _ ?_
              clear hK K
              refine wpAnyIn_ready (rs := [6]) (by kernel_rfl) (by simp) ?_
              refine AllReadyIn.cons rfl (fun K hK => ?_) ?_
              · go_simp
                refine hK _ _ ?_
                clear hK K
                refine wpAnyIn_ready (rs := [7]) (by kernel_rfl) (by simp) ?_
                refine AllReadyIn.cons rfl (fun K hK => ?_) ?_
                · refine zC3 (v := v) (vb := .slice (some ⟨W.heap.size, 0, none⟩) 1 1) rfl rfl rfl rfl hr ?_
                  refine hK _ _ ?_
                  clear hK K
                  refine wpAnyIn_ready (rs := [8]) (by kernel_rfl) (by simp) ?_
                  refine AllReadyIn.cons rfl (fun K hK => ?_) ?_
                  · go_simp
                    refine hK _ _ ?_
                    clear hK K
                    refine wpAnyIn_done (by kernel_rfl) ?_ _
                    gi_wp2
                    exact fin _
                  exact AllReadyIn.nil
                exact AllReadyIn.nil
              exact AllReadyIn.nil
            exact AllReadyIn.nil
          refine AllReadyIn.cons rfl (fun K hK => ?_) ?_
          · go_simp
            refine hK _ _ ?_
            clear hK K
            refine wpAnyIn_ready (rs := [0, 6]) (by kernel_rfl) (by simp) ?_
            refine AllReadyIn.cons rfl (fun K hK => ?_) ?_
            · go_simp
              refine hK _ _ ?_
              clear hK K
              refine wpAnyIn_ready (rs := [6]) (by kernel_rfl) (by simp) ?_
              refine AllReadyIn.cons rfl (fun K hK => ?_) ?_
              · go_simp
                refine hK _ _ ?_
                clear hK K
                refine wpAnyIn_ready (rs := [7]) (by kernel_rfl) (by simp) ?_
                refine AllReadyIn.cons rfl (fun K hK => ?_) ?_
                · refine zC3 (v := v) (vb := .slice (some ⟨W.heap.size, 0, none⟩) 1 1) rfl rfl rfl rfl hr ?_
                  refine hK _ _ ?_
                  clear hK K
                  refine wpAnyIn_ready (rs := [8]) (by kernel_rfl) (by simp) ?_
                  refine AllReadyIn.cons rfl (fun K hK => ?_) ?_
                  · go_simp
                    refine hK _ _ ?_
                    clear hK K
                    refine wpAnyIn_done (by kernel_rfl) ?_ _
                    gi_wp2
                    exact fin _
                  exact AllReadyIn.nil
                exact AllReadyIn.nil
              exact AllReadyIn.nil
            refine AllReadyIn.cons rfl (fun K hK => ?_) ?_
            · go_simp
              refine hK _ _ ?_
              clear hK K
              refine wpAnyIn_ready (rs := [0]) (by kernel_rfl) (by simp) ?_
              refine AllReadyIn.cons rfl (fun K hK => ?_) ?_
              · go_simp
                refine hK _ _ ?_
                clear hK K
                refine wpAnyIn_ready (rs := [7]) (by kernel_rfl) (by simp) ?_
                refine AllReadyIn.cons rfl (fun K hK => ?_) ?_
                · refine zC3 (v := v) (vb := .slice (some ⟨W.heap.size, 0, none⟩) 1 1) rfl rfl rfl rfl hr ?_
                  refine hK _ _ ?_
                  clear hK K
                  refine wpAnyIn_ready (rs := [8]) (by kernel_rfl) (by simp) ?_
                  refine AllReadyIn.cons rfl (fun K hK => ?_) ?_
                  · go_simp
                    refine hK _ _ ?_
                    clear hK K
                    refine wpAnyIn_done (by kernel_rfl) ?_ _
                    gi_wp2
                    exact fin _
                  exact AllReadyIn.nil
                exact AllReadyIn.nil
              exact AllReadyIn.nil
            exact AllReadyIn.nil
          exact AllReadyIn.nil
        exact AllReadyIn.nil
      exact AllReadyIn.nil
    exact AllReadyIn.nil
  exact AllReadyIn.nil
 case q3 =>
  rintro D W hD ⟨⟨v, hv, hown, _⟩, hB, hB2⟩ hK
  have hc := hv.cell
  gi_wp2
  refine ⟨by simp, .inl ⟨_, _, rfl, run_takeDeferred hK, ?_⟩⟩
  exact ⟨_, results_tmp rfl _ _ _, _, rfl, ownsRow_putObj hown _ hK rfl, hB.trans (belowK_b (w := w) (Nat.le_refl _) W D _ _ (by omega) hK rfl rfl)⟩
 case q4 =>
  rintro D pre W hD h
  exact h.elim
end Go.Proofs.YtpehimfnkmepnaaGreat.K
namespace Go.Proofs.YtpehimfnkmepnaaGreat.K
open Go.RowKit Q Q.D
theorem zMi (l : List ByteArray) : l.map Value.string = zAw (fun j => [.string (l.getD j ⟨#[]⟩)]) l.length := by
 refine List.ext_getElem? (fun y => ?_)
 have hk : ∀ j, j < l.length → ((fun j => [Value.string (l.getD j ⟨#[]⟩)]) j).length = 1 := fun j _ => rfl
 by_cases hy : y < l.length
 · have := zA7 hk y hy 0 (by omega)
   rw [Nat.mul_one, Nat.add_zero] at this
   rw [this, List.getD_eq_getElem?_getD]
   simp [hy]
 · rw [List.getElem?_eq_none (by simp; omega), List.getElem?_eq_none (by rw [zB4 hk]; omega)]
theorem zJh {w : World} {B : Nat} {v : Value} {l : List ByteArray} (h : w.ownsRow B 9 1 v l.length (l.map Value.string)) (hs : ∀ s ∈ l, s.size ≤ 9223372036854775807) : ∃ ao c, v = .slice ao l.length c ∧ LAt 1 zDm w ao c l := by
 rw [zMi] at h
 obtain ⟨ao, c, rfl, l1, l2, hr⟩ := zB6 h (fun _ _ => rfl)
 refine ⟨ao, c, rfl, l1, l2, fun j => [.string (l.getD j ⟨#[]⟩)], zAk.ext hr (zFi _ _), fun i x hx => ⟨?_, hs x (List.mem_of_getElem? hx)⟩⟩
 simp only [List.getD_eq_getElem?_getD, hx]; rfl
theorem zFm.below {n0 : Nat} {W W' : World} {pk mb : Nat} {v : Value} {R : List Mem} (h : KinO n0 W pk mb v R) (st : zFm pk mb v W W') : Below n0 W W' :=
 ⟨st.os, st.tape, st.output, st.size, fun b hb => st.block b (by have := h.hpk; have := h.box.lt; omega) (by have := h.hpk; omega) (by have := h.hmb; omega) (fun e => by have := (h.own.lt b e).1; omega)⟩
theorem zI7 {R : List Mem} {l : List KD} (h : R.map Mem.k = l) (hs : ∀ k ∈ l, KSm k) : ∀ m ∈ R, KSm m.k := fun m hm => hs _ (by rw [← h]; exact List.mem_map_of_mem hm)
theorem zKq (n s : ByteArray) : KSm (zAs n s) := ⟨by simp [zAs], by simp [zAs], by simp [zAs], fun m hm => by simp [zAs] at hm⟩
theorem zP1 (w : World) : Calls Tryz.prog 17 #[] w fun e w' => e = .returned (.bool true) ∧ Below w.heap.size w w' := by
 go_enter Tryz.func17, Tryz.ntmps17
 go_wp2_with fail
 refine (zNr w).mono ?_
 rintro e w1 ⟨pk, mb, v, R, rfl, KO, hR, B1⟩
 have hR' : R.map Mem.k = zBh.reverse := by rw [← hR, List.map_reverse, List.reverse_reverse]
 have hR0 : refZ R (zAs zEt ⟨#[66]⟩) = 22 := by rw [zLm, hR']; exact zQy
 have hR1 : refZ R (zAs zEt ⟨#[84, 104, 114, 101, 97, 100]⟩) = 0 := by rw [zLm, hR']; exact zQ1
 have A1 := D.zA0 (zNi _ w1 pk mb v R KO (zAs zEt ⟨#[66]⟩) _ (zE4 zEt ⟨#[66]⟩ w1 (by decide) (by decide)))
 unfold zRi at A1
 rw [hR0] at A1
 clear hR0 hR
 go_wp2_with fail
 refine A1.out.mono ?_
 rintro e w2 ⟨rfl, b2⟩
 rw [if_neg (by omega)] at b2
 clear A1
 have KO2 := KO.below b2
 have A2 := D.zA0 (zNi _ w2 pk mb v R KO2 (zAs zEt ⟨#[84, 104, 114, 101, 97, 100]⟩) _ (zE4 zEt ⟨#[84, 104, 114, 101, 97, 100]⟩ w2 (by decide) (by decide)))
 unfold zRi at A2
 rw [hR1] at A2
 clear hR1
 go_wp2_with fail
 refine A2.out.mono ?_
 rintro e w3 ⟨rfl, hA⟩
 simp only [if_true] at hA
 obtain ⟨v3, bb, KO3, st3⟩ := hA
 clear A2
 have B3 : Below w.heap.size w w3 := (next B1 b2).trans (zFm.below KO2 st3)
 obtain ⟨ao, c, hv3, V3⟩ := KO3.view
 clear hv3
 have hR3 : (⟨zAs zEt ⟨#[84, 104, 114, 101, 97, 100]⟩, bb⟩ :: R : List Mem).map Mem.k = zAs zEt ⟨#[84, 104, 114, 101, 97, 100]⟩ :: zBh.reverse := by rw [List.map_cons, hR']
 have hsm : ∀ m ∈ (⟨zAs zEt ⟨#[84, 104, 114, 101, 97, 100]⟩, bb⟩ :: R : List Mem), KSm m.k := zI7 hR3 (fun k hk => by
  rcases List.mem_cons.1 hk with rfl | h
  · exact zKq _ _
  · exact zHw k (by simpa using h))
 have hlenR : R.length = 13 := by have := congrArg List.length hR'; rw [List.length_map] at this; exact this
 have M3 := D.zA0 (zJi w3 pk _ mb ao c V3 hsm zEt ⟨#[115, 116, 97, 114, 116]⟩ ⟨#[40, 41, 86]⟩)
 generalize hRR : (⟨zAs zEt ⟨#[84, 104, 114, 101, 97, 100]⟩, bb⟩ :: R : List Mem) = RR at *
 have hlen3 : RR.length ≤ 1000000 := by rw [← hRR]; simp; omega
 clear hlenR hRR
 go_wp2_with fail
 refine M3.out.mono ?_
 rintro e w4 ⟨b4, hM⟩
 have hM' := meth_k hM
 rw [hR3, zPu] at hM'
 obtain ⟨y, row', hy, rfl, hrow⟩ := hM'
 rw [zPf] at hy
 cases hy
 obtain ⟨q1, p1, q2, p2, q3, p3, rfl, -⟩ := hrow
 clear hM M3
 have V4 := V3.below b4
 have B4 := B3.trans (b4.mono B3.size)
 simp only [natM, zFz, List.length_nil]
 go_wp2_with fail
 have b5 := zA9 w4 (.cells #[.string ⟨#[115, 116, 97, 114, 116]⟩, .string ⟨#[40, 41, 86]⟩, .bool false, .bool true, .int .i64 0, .int .i64 0, .slice q1 0 p1, .slice q2 0 p2, .slice q3 0 p3] 39)
 have F5 := Blk.new w4 #[.string ⟨#[115, 116, 97, 114, 116]⟩, .string ⟨#[40, 41, 86]⟩, .bool false, .bool true, .int .i64 0, .int .i64 0, .slice q1 0 p1, .slice q2 0 p2, .slice q3 0 p3] 39
 generalize w4.alloc (.cells #[.string ⟨#[115, 116, 97, 114, 116]⟩, .string ⟨#[40, 41, 86]⟩, .bool false, .bool true, .int .i64 0, .int .i64 0, .slice q1 0 p1, .slice q2 0 p2, .slice q3 0 p3] 39) = W5 at *
 have V5 := V4.below b5
 have L5 := D.zA0 (zOm W5 pk RR mb ao c V5 hlen3 ⟨#[73, 110, 100, 101, 120]⟩)
 refine L5.out.mono ?_
 rintro e w6 ⟨v6, rfl, ho6, b6⟩
 have hl : (lin RR ⟨#[73, 110, 100, 101, 120]⟩).map Mem.k = [zAs ⟨#[73, 110, 100, 101, 120]⟩ zA8, zAs zA8 zBb, zCa] := by rw [zNu, hR3]; exact zQe
 have hl1 : (lin RR ⟨#[73, 110, 100, 101, 120]⟩).length = 3 := by have := congrArg List.length hl; rw [List.length_map] at this; exact this
 have hl2 : zDh (lin RR ⟨#[73, 110, 100, 101, 120]⟩) = [⟨#[73, 110, 100, 101, 120]⟩, zA8, zBb].map Value.string := by
  have : zDh (lin RR ⟨#[73, 110, 100, 101, 120]⟩) = ((lin RR ⟨#[73, 110, 100, 101, 120]⟩).map Mem.k).map (fun k => .string k.nm) := by simp [zDh]
  rw [this, hl]; rfl
 rw [hl1, hl2] at ho6
 have hsz : ∀ s ∈ [(⟨#[73, 110, 100, 101, 120]⟩ : ByteArray), zA8, zBb], s.size ≤ 9223372036854775807 := by decide
 obtain ⟨a6, p6, rfl, T6⟩ := zJh (l := [⟨#[73, 110, 100, 101, 120]⟩, zA8, zBb]) ho6 hsz
 clear ho6 hl hl1 hl2 L5
 have b7 := zA9 w6 (.cells #[.string ⟨#[73, 110, 100, 101, 120]⟩, .string zA8, .string zBb] 9)
 have ho7 := World.ownsRow_lit (e := 9) (size := 1) (base := w6.heap.size) w6 #[.string ⟨#[73, 110, 100, 101, 120]⟩, .string zA8, .string zBb] 3 (Nat.le_refl _) (by unfold maxLen; omega) rfl
 obtain ⟨a7, p7, e7, T7⟩ := zJh (l := [⟨#[73, 110, 100, 101, 120]⟩, zA8, zBb]) ho7 hsz
 cases e7
 have S7 := D.zA0 (zQt a6 p6 (some ⟨w6.heap.size, 0, none⟩) 3 _ _ (T6.below b7 (fun _ _ h => h)) T7)
 unfold zA8 zBb at S7 b7
 have F7 := ((F5.below b6).below b7)
 simp only [List.length_cons, List.length_nil, Nat.zero_add, Nat.reduceAdd] at S7 ⊢
 go_wp2_with fail
 generalize w6.alloc (.cells #[.string ⟨#[73, 110, 100, 101, 120]⟩, .string ⟨#[84, 104, 114, 111, 119, 97, 98, 108, 101]⟩, .string ⟨#[79, 98, 106, 101, 99, 116]⟩] 9) = W7 at *
 refine S7.out.mono ?_
 rintro e w8 ⟨rfl, b8⟩
 have hn := (F7.below b8).cell 3
 simp at hn
 go_wp2
 go_ret
 exact ⟨rfl, B4.trans ((next b5 (next b6 (next b7 b8))).mono B4.size)⟩
end Go.Proofs.YtpehimfnkmepnaaGreat.K
