/- SetTag, Set of the document's own heap: walked. -/
import Derived.Test.YtbdeflpjplhafaaUE
namespace Go.Proofs.Ytbdeflpjplhafaa.J
open Go.RowKit Go.MapKept Go.ChangeMaps
set_option linter.unusedVariables false

variable {n0 : Nat} {w : World} {R : RB} {most : Nat} {l : List Ob} {ss : List (List Bool)}
theorem modN_take (g : Ob → Ob) : ∀ (l : List Ob) (i : Nat) (o : Ob), l[i]? = some o → modN g l (usedN (l.take i)) = l.set i (g o)
  | [], i, o, h => by simp at h
  | x :: l, 0, o, h => by
    obtain rfl : x = o := by simpa using h
    simp [modN, usedN]
  | x :: l, i + 1, o, h => by
    simp only [List.take_succ_cons, usedN, modN, List.set_cons_succ]
    rw [if_neg (by omega), if_neg (by omega), show x.f.length + 3 + usedN (l.take i) - (x.f.length + 3) = usedN (l.take i) by omega, modN_take g l i o (by simpa using h)]
theorem setTagL_nth {i : Nat} {o : Ob} (hi : l[i]? = some o) (x : Int) : setTagL l ((usedN (l.take i) : Int) + 1) x = l.set i (setT x o) := by
  unfold setTagL
  rw [show ((usedN (l.take i) : Int) + 1 - 1).toNat = usedN (l.take i) by omega]
  exact modN_take _ l i o hi
theorem setL_nth {i : Nat} {o : Ob} (hi : l[i]? = some o) (n x : Int) : setL l ((usedN (l.take i) : Int) + 1) n x = l.set i (setF n.toNat x o) := by
  unfold setL
  rw [show ((usedN (l.take i) : Int) + 1 - 1).toNat = usedN (l.take i) by omega]
  exact modN_take _ l i o hi
theorem ocells_tag : ∀ (l : List Ob) (fvs : List Value) (p i : Nat) (o : Ob) (x : Int), fvs.length = l.length → l[i]? = some o → ocells p (l.set i (setT x o)) fvs = (ocells p l fvs).set (i * 4 + 3) (.int .i64 x)
  | [], fvs, p, i, o, x, _, h => by simp at h
  | _ :: _, [], p, i, o, x, h, _ => by simp at h
  | y :: l, v :: fvs, p, 0, o, x, hl, h => by
    obtain rfl : y = o := by simpa using h
    simp [ocells, ocell, setT]
  | y :: l, v :: fvs, p, i + 1, o, x, hl, h => by
    simp only [List.set_cons_succ, ocells]
    rw [ocells_tag l fvs _ i o x (by simpa using hl) (by simpa using h), List.set_append_right _ _ (by simp [ocell]; omega), show (i + 1) * 4 + 3 - (ocell p y v).length = i * 4 + 3 by simp [ocell]; omega]
theorem ocells_same : ∀ (l : List Ob) (fvs : List Value) (p i : Nat) (o o' : Ob), l[i]? = some o → o'.sh = o.sh → o'.tag = o.tag → o'.f.length = o.f.length → ocells p (l.set i o') fvs = ocells p l fvs
  | [], fvs, p, i, o, o', h, _, _, _ => by simp at h
  | _ :: _, [], p, 0, o, o', _, _, _, _ => by simp [ocells]
  | _ :: _, [], p, i + 1, o, o', _, _, _, _ => by simp [ocells]
  | y :: l, v :: fvs, p, 0, o, o', h, h1, h2, h3 => by
    obtain rfl : y = o := by simpa using h
    simp [ocells, ocell, h1, h2, h3]
  | y :: l, v :: fvs, p, i + 1, o, o', h, h1, h2, h3 => by
    simp only [List.set_cons_succ, ocells]
    rw [ocells_same l fvs _ i o o' (by simpa using h) h1 h2 h3]
theorem own_setk {w : World} {B e k n g cap j : Nat} {xs : List Value} (h : w.ownsRow B e k (.slice (some ⟨g, 0, none⟩) n cap) n xs) (v : Value) : (w.setCell ⟨g, j, none⟩ v).ownsRow B e k (.slice (some ⟨g, 0, none⟩) n cap) n (xs.set j v) := by
  rcases h.2 with ⟨h1, h0⟩ | ⟨g', cap', cur, e1, hB, hg, h1, h2, h3, h4⟩
  · cases h1
  · cases e1
    refine ⟨by simp [h.1], .inr ⟨g, cap, cur.setIfInBounds j v, rfl, hB, Blk.set (show Blk w g cur e from hg) j v, h1, h2, by simpa using h3, ?_⟩⟩
    rw [← h4, Array.toList_setIfInBounds, List.take_set]
theorem RV.setTag (h : RV n0 w R most l ss) {i : Nat} {o : Ob} (hi : l[i]? = some o) {g cap : Nat} (el : R.lv = .slice (some ⟨g, 0, none⟩) l.length cap) (x : Int) :
    RV n0 (w.setCell ⟨g, i * 4 + 3, none⟩ (.int .i64 x)) R most (setTagL l ((usedN (l.take i) : Int) + 1) x) ss ∧ RStep R R w (w.setCell ⟨g, i * 4 + 3, none⟩ (.int .i64 x)) := by
  have hg : R.lv.ownBlock = some g := by rw [el]; rfl
  have hk : ∀ b, b ≠ g → (w.setCell ⟨g, i * 4 + 3, none⟩ (.int .i64 x)).heap[b]? = w.heap[b]? := fun b hb => heap_setCell_other w ⟨g, i * 4 + 3, none⟩ b _ hb
  rw [setTagL_nth hi]
  have hlo := h.lo_
  rw [el] at hlo
  have hfl : ∀ (j : Nat) o', (l.set i (setT x o))[j]? = some o' → ∃ o0, l[j]? = some o0 ∧ o'.f = o0.f ∧ o'.sh = o0.sh := fun j o' hj => by
    rw [List.getElem?_set] at hj
    split at hj
    · rename_i e
      subst e
      split at hj
      · cases hj; exact ⟨o, hi, rfl, rfl⟩
      · cases hj
    · exact ⟨o', hj, rfl, rfl⟩
  refine ⟨⟨h.lo, h.box.kept (hk _ (fun e => own_not h.lo_ h.box (by decide) (e ▸ hg))), ?_, by rw [List.length_set]; exact h.fl, fun j v o' hv ho' => ?_, own_kept h.so (fun b e => hk b (fun e' => own_apart h.lo_ h.so (by decide) hg (e' ▸ e))), fun j v r hv hr => own_kept (h.go j v r hv hr) (fun b e => hk b (fun e' => own_apart h.lo_ (h.go j v r hv hr) (by decide) hg (e' ▸ e))), h.ap, ?_, ?_, h.most⟩, rfl, rfl, rfl, by simp, fun b _ hn => hk b (fun e => hn (.inr (.inl (e ▸ hg)))), rfl, fun _ e => .inl e⟩
  · rw [el, List.length_set, ocells_tag l R.fvs 0 i o x h.fl hi]
    exact own_setk hlo _
  · obtain ⟨o0, h0, h1, _⟩ := hfl j o' ho'
    rw [h1]
    exact own_kept (h.fo j v o0 hv h0) (fun b e => hk b (fun e' => own_apart h.lo_ (h.fo j v o0 hv h0) (by decide) hg (e' ▸ e)))
  · have := h.wf.mod (setT x) (setT_len x) (fun _ => rfl) (usedN (l.take i))
    rwa [modN_take _ l i o hi] at this
  · have := usedN_mod (setT x) (setT_len x) l (usedN (l.take i))
    rw [modN_take _ l i o hi] at this
    rw [this]; exact h.few
theorem RV.setF (h : RV n0 w R most l ss) {i k : Nat} {o : Ob} (hi : l[i]? = some o) {fb uc : Nat} (hu : R.fvs[i]? = some (.slice (some ⟨fb, 0, none⟩) o.f.length uc)) (x : Int) :
    RV n0 (w.setCell ⟨fb, k, none⟩ (.int .i64 x)) R most (setL l ((usedN (l.take i) : Int) + 1) (k : Int) x) ss ∧ RStep R R w (w.setCell ⟨fb, k, none⟩ (.int .i64 x)) := by
  have hg : (Value.slice (some ⟨fb, 0, none⟩) o.f.length uc).ownBlock = some fb := rfl
  have hf := h.fo i _ o hu hi
  have hk : ∀ b, b ≠ fb → (w.setCell ⟨fb, k, none⟩ (.int .i64 x)).heap[b]? = w.heap[b]? := fun b hb => heap_setCell_other w ⟨fb, k, none⟩ b _ hb
  rw [setL_nth hi, Int.toNat_natCast]
  refine ⟨⟨h.lo, h.box.kept (hk _ (fun e => own_not hf h.box (by decide) (e ▸ hg))), ?_, by rw [List.length_set]; exact h.fl, fun j v o' hv ho' => ?_, own_kept h.so (fun b e => hk b (fun e' => own_apart hf h.so (by decide) hg (e' ▸ e))), fun j v r hv hr => own_kept (h.go j v r hv hr) (fun b e => hk b (fun e' => own_apart hf (h.go j v r hv hr) (by decide) hg (e' ▸ e))), h.ap, ?_, ?_, h.most⟩, rfl, rfl, rfl, by simp, fun b _ hn => hk b (fun e => hn (.inr (.inr (.inr (.inl ⟨_, List.mem_of_getElem? hu, by rw [e]; rfl⟩))))), rfl, fun _ e => .inl e⟩
  · rw [List.length_set, ocells_same l R.fvs 0 i o (J.setF k x o) hi rfl rfl (setF_len _ _ _)]
    exact own_kept h.lo_ (fun b e => hk b (fun e' => own_apart hf h.lo_ (by decide) hg (e' ▸ e)))
  · rw [List.getElem?_set] at ho'
    split at ho'
    · rename_i e
      subst e
      split at ho'
      · cases ho'
        rw [hu] at hv
        cases hv
        rw [setF_len]
        have := own_set (j := k) hf (.int .i64 x)
        rwa [show (icells o.f).set k (.int .i64 x) = icells (J.setF k x o).f by simp [icells, J.setF, List.map_set]] at this
      · cases ho'
    · rename_i e
      exact own_kept (h.fo j v o' hv ho') (fun b eb => hk b (fun e' => h.ap i j _ v fb e hu hv rfl (e' ▸ eb)))
  · have := h.wf.mod (J.setF k x) (fun o => setF_len _ _ o) (fun _ => rfl) (usedN (l.take i))
    rwa [modN_take _ l i o hi] at this
  · have := usedN_mod (J.setF k x) (fun o => setF_len _ _ o) l (usedN (l.take i))
    rw [modN_take _ l i o hi] at this
    rw [this]; exact h.few
set_option maxRecDepth 8000 in
theorem utag_no (h : RV n0 w R most l ss) (v x : Int) (e : objZ l v = none) : Calls Try.prog 26 #[R.ptr, .int .i64 v, .int .i64 x] w fun e w' => e = .returned (.int .i64 1) ∧ w' = w := by
  have G := hidIt (ufind_none h v e)
  unfold RB.ptr at G ⊢
  clear h e
  go_enter Try.func26, Try.ntmps26
  go_wp2_with (go_at_call 47; refine G.out.mono ?_; rintro e w' ⟨rfl, hww⟩; cases hww)
  go_ret
  exact ⟨rfl, rfl⟩
set_option maxRecDepth 8000 in
theorem utag_yes (h : RV n0 w R most l ss) (v x : Int) (o : Ob) (e : objZ l v = some o) : Calls Try.prog 26 #[R.ptr, .int .i64 v, .int .i64 x] w fun e w' => e = .returned (.int .i64 0) ∧ RV n0 w' R most (setTagL l v x) ss ∧ RStep R R w w' := by
  obtain ⟨i, hi, rfl⟩ := objZ_idx e
  obtain ⟨g, cap, u, el, hu, c0, c1, c2, c3, cf⟩ := h.obj hi
  have G := hidIt (ufind_some h hi el)
  have FIN := hidIt (h.setTag hi el x)
  have f3 := cf (i * 4 + 3)
  unfold RB.ptr at G ⊢
  clear h e hu el hi c0 c1 c2 cf
  generalize (usedN (l.take i) : Int) + 1 = v at *
  go_enter Try.func26, Try.ntmps26
  go_wp2_with (go_at_call 47; refine G.out.mono ?_; rintro e w' ⟨rfl, hww⟩; cases hww)
  go_ret
  exact ⟨rfl, FIN.out⟩
end Go.Proofs.Ytbdeflpjplhafaa.J

