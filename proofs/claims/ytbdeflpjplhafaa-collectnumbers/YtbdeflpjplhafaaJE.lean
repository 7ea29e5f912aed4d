/- SetTag, Set: walked. -/
import Derived.Test.YtbdeflpjplhafaaJD
namespace Go.Proofs.Ytbdeflpjplhafaa.J
open Go.RowKit Go.MapKept Go.ChangeMaps
set_option linter.unusedVariables false

variable {n0 : Nat} {w : World} {H : HB} {most : Nat} {l : List Ob} {ss : List (List Bool)}
theorem own_set {w : World} {B e n g cap j : Nat} {xs : List Value} (h : w.ownsRow B e 1 (.slice (some ⟨g, 0, none⟩) n cap) n xs) (v : Value) : (w.setCell ⟨g, j, none⟩ v).ownsRow B e 1 (.slice (some ⟨g, 0, none⟩) n cap) n (xs.set j v) := by
  rcases h.2 with ⟨h1, h0⟩ | ⟨g', cap', cur, e1, hB, hg, h1, h2, h3, h4⟩
  · cases h1
  · cases e1
    refine ⟨by simp [h.1], .inr ⟨g, cap, cur.setIfInBounds j v, rfl, hB, Blk.set (show Blk w g cur e from hg) j v, h1, h2, by simpa using h3, ?_⟩⟩
    rw [← h4, Array.toList_setIfInBounds, List.take_set]
theorem HeapV.setWord (h : HeapV n0 w H most l ss) {g cap j : Nat} (ew : H.wv = .slice (some ⟨g, 0, none⟩) (usedN l) cap) (x : Int) {l' : List Ob} (h1 : usedN l' = usedN l) (h2 : bsL l' = bsL l) (h3 : wsL l' = (wsL l).set j x) (h4 : Wf ss l') :
    HeapV n0 (w.setCell ⟨g, j, none⟩ (.int .i64 x)) H most l' ss ∧ HStep H H w (w.setCell ⟨g, j, none⟩ (.int .i64 x)) := by
  have hg : H.wv.ownBlock = some g := by rw [ew]; rfl
  have hk : ∀ b, b ≠ g → (w.setCell ⟨g, j, none⟩ (.int .i64 x)).heap[b]? = w.heap[b]? := fun b hb => heap_setCell_other w ⟨g, j, none⟩ b _ hb
  have ho := h.wo
  rw [ew] at ho
  refine ⟨⟨h.lo, h.lom, h.box.kept (hk _ (fun e => own_not h.wo h.box (by decide) (e ▸ hg))), ?_, ?_, own_kept h.so (fun b e => hk b (fun e' => own_apart h.wo h.so (by decide) hg (e' ▸ e))), h.map.kept (hk _ (fun e => own_notM h.wo h.map (e ▸ hg))), h4, by rw [h1]; exact h.few, h.most⟩, ?_⟩
  · rw [h1, h3, ew]
    have := own_set (j := j) ho (.int .i64 x)
    rwa [show icells ((wsL l).set j x) = (icells (wsL l)).set j (.int .i64 x) by simp [icells, List.map_set]]
  · rw [h1, h2]
    exact own_kept h.bo (fun b e => hk b (fun e' => own_apart h.wo h.bo (by decide) hg (e' ▸ e)))
  · exact ⟨rfl, rfl, rfl, by simp, fun b _ hn => hk b (fun e => hn (.inr (.inr (.inl (e ▸ hg))))), rfl, fun _ e => .inl e⟩
theorem Wf.mod (h : Wf ss l) (g : Ob → Ob) (hg : ∀ o, (g o).f.length = o.f.length) (hs : ∀ o, (g o).sh = o.sh) (p : Nat) : Wf ss (modN g l p) := by
  intro q o e
  rw [atN_mod g hg] at e
  split at e
  · cases ho : atN l q with
    | none => rw [ho] at e; cases e
    | some x =>
      rw [ho] at e
      cases e
      rw [hs, hg]
      exact h q x ho
  · exact h q o e
def setTagL (l : List Ob) (v x : Int) : List Ob := modN (setT x) l (v - 1).toNat
def setL (l : List Ob) (v n x : Int) : List Ob := modN (setF n.toNat x) l (v - 1).toNat
theorem objZ_at {v : Int} {o : Ob} (e : objZ l v = some o) : atN l (v - 1).toNat = some o := by
  unfold objZ at e
  split at e
  · exact e
  · cases e
theorem HeapV.setTag (h : HeapV n0 w H most l ss) {v : Int} {o : Ob} (e : objZ l v = some o) (x : Int) {g cap : Nat} (ew : H.wv = .slice (some ⟨g, 0, none⟩) (usedN l) cap) :
    HeapV n0 (w.setCell ⟨g, (v - 1).toNat + 2, none⟩ (.int .i64 x)) H most (setTagL l v x) ss ∧ HStep H H w (w.setCell ⟨g, (v - 1).toNat + 2, none⟩ (.int .i64 x)) :=
  h.setWord ew x (usedN_mod _ (setT_len x) _ _) (bsL_mod _ (setT_len x) _ _) (wsL_mod _ 2 x l _ o (objZ_at e) (by simp [obW]) (obW_setT x o)) (h.wf.mod _ (setT_len x) (fun _ => rfl) _)
theorem HeapV.set (h : HeapV n0 w H most l ss) {v n : Int} (hn : hasZ l v n = true) (x : Int) {g cap j : Nat} (ew : H.wv = .slice (some ⟨g, 0, none⟩) (usedN l) cap) (hj : v + 2 + n = (j : Int)) :
    HeapV n0 (w.setCell ⟨g, j, none⟩ (.int .i64 x)) H most (setL l v n x) ss ∧ HStep H H w (w.setCell ⟨g, j, none⟩ (.int .i64 x)) := by
  obtain ⟨o, e, h0, h1⟩ := hasZ_some hn
  have hv := (objZ_in e).1
  obtain rfl : j = (v - 1).toNat + (n.toNat + 3) := by omega
  exact h.setWord ew x (usedN_mod _ (setF_len _ x) _ _) (bsL_mod _ (setF_len _ x) _ _) (wsL_mod _ (n.toNat + 3) x l _ o (objZ_at e) (by simp [obW]; omega) (obW_setF _ x o)) (h.wf.mod _ (setF_len _ x) (fun _ => rfl) _)
theorem wsetTag_any (g U cap j : Nat) (x y : Int) (w : World) (hj : j + 2 < U) (hU : U ≤ 16384) (hc : w.cell? ⟨g, j + 2, none⟩ = some (.int .i64 y)) (hz : w.frozen? ⟨g, j + 2, none⟩ = false) :
    Calls Try.prog 41 #[.slice (some ⟨g, 0, none⟩) U cap, .int .i64 ((j : Int) + 1), .int .i64 x] w fun e w' => (∃ u, e = .returned u) ∧ w' = w.setCell ⟨g, j + 2, none⟩ (.int .i64 x) := by
  have hj' : (j : Int) + 2 < (U : Int) := by omega
  have ht2 : ((j : Int) + 2).toNat = j + 2 := by omega
  go_enter Try.func41, Try.ntmps41
  go_wp2
  go_end0
  exact ⟨⟨_, rfl⟩, rfl⟩
theorem SetTag_no (h : HeapV n0 w H most l ss) (v x : Int) (e : objZ l v = none) : Calls Try.prog 16 #[H.ptr, .int .i64 v, .int .i64 x] w fun e w' => e = .returned (.int .i64 1) ∧ w' = w := by
  have G := hidIt (is_any h v)
  rw [e] at G
  unfold HB.ptr at G ⊢
  go_enter Try.func16, Try.ntmps16
  go_wp2_with (go_at_call 40; refine G.out.mono ?_; rintro e w' ⟨rfl, hww⟩; cases hww)
  go_ret
  exact ⟨rfl, rfl⟩
theorem SetTag_yes (h : HeapV n0 w H most l ss) (v x : Int) (o : Ob) (e : objZ l v = some o) : Calls Try.prog 16 #[H.ptr, .int .i64 v, .int .i64 x] w fun e w' => e = .returned (.int .i64 0) ∧ HeapV n0 w' H most (setTagL l v x) ss ∧ HStep H H w w' := by
  have G := hidIt (is_any h v)
  rw [e] at G
  have c1 : w.cell? ⟨H.hb, 1, none⟩ = some H.wv := h.box.cell 1
  obtain ⟨g, cap, ew, -, -, h3, h4⟩ := h.word e (k := 2) rfl
  have FIN := hidIt (h.setTag e x ew)
  obtain ⟨q1, q2⟩ := objZ_in e
  have hU : usedN l ≤ 16384 := Nat.le_trans h.few h.most
  obtain ⟨j, rfl⟩ : ∃ j : Nat, v = (j : Int) + 1 := ⟨(v - 1).toNat, by omega⟩
  rw [show ((j : Int) + 1 - 1).toNat = j by omega] at h3 h4 FIN
  have G2 := hidIt (wsetTag_any g (usedN l) cap j x _ w (by omega) hU h3 h4)
  rw [ew] at c1
  unfold HB.ptr at G ⊢
  clear h3 h4 q1 q2
  go_enter Try.func16, Try.ntmps16
  go_wp2_with (first | (go_at_call 40; refine G.out.mono ?_; rintro e w' ⟨rfl, hww⟩; cases hww) | (go_at_call 41; refine G2.out.mono ?_; rintro e w' ⟨⟨u, rfl⟩, rfl⟩))
  go_ret
  exact ⟨rfl, FIN.out⟩
theorem Set_no (h : HeapV n0 w H most l ss) (v n x : Int) (hn : hasZ l v n = false) : Calls Try.prog 29 #[H.ptr, .int .i64 v, .int .i64 n, .int .i64 x] w fun e w' => e = .returned (.int .i64 1) ∧ w' = w := by
  have G := hidIt (has_any h v n)
  rw [hn] at G
  unfold HB.ptr at G ⊢
  go_enter Try.func29, Try.ntmps29
  go_wp2_with (go_at_call 48; refine G.out.mono ?_; rintro e w' ⟨rfl, hww⟩; cases hww)
  go_ret
  exact ⟨rfl, rfl⟩
/-- What may stand in a field. -/
def fitZ (ss : List (List Bool)) (l : List Ob) (v n x : Int) : Bool := !refZ ss l v n || x == 0 || (objZ l x).isSome
set_option maxRecDepth 8000 in
theorem Set_type (h : HeapV n0 w H most l ss) (v n x : Int) (hn : hasZ l v n = true) (hf : fitZ ss l v n x = false) : Calls Try.prog 29 #[H.ptr, .int .i64 v, .int .i64 n, .int .i64 x] w fun e w' => e = .returned (.int .i64 20) ∧ w' = w := by
  have G := hidIt (has_any h v n)
  have G2 := hidIt (IsRef_any h v n)
  have G3 := hidIt (is_any h x)
  unfold fitZ at hf
  simp only [Bool.or_eq_false_iff, Bool.not_eq_false'] at hf
  obtain ⟨⟨f1, f2⟩, f3⟩ := hf
  have f2' : (x != 0) = true := by simpa using f2
  have f2'' : ¬ x = 0 := by simpa using f2
  rw [hn] at G
  rw [f1] at G2
  rw [f3] at G3
  clear f1 f2 f3 hn
  unfold HB.ptr at G G2 G3 ⊢
  go_enter Try.func29, Try.ntmps29
  go_wp2_with (first | (go_at_call 48; refine G.out.mono ?_; rintro e w' ⟨rfl, hww⟩; cases hww) | (go_at_call 49; refine G2.out.mono ?_; rintro e w' ⟨rfl, hww⟩; cases hww) | (go_at_call 40; refine G3.out.mono ?_; rintro e w' ⟨rfl, hww⟩; cases hww))
  go_ret
  exact ⟨rfl, rfl⟩
set_option maxRecDepth 8000 in
theorem Set_yes (h : HeapV n0 w H most l ss) (v n x : Int) (hn : hasZ l v n = true) (hf : fitZ ss l v n x = true) : Calls Try.prog 29 #[H.ptr, .int .i64 v, .int .i64 n, .int .i64 x] w fun e w' => e = .returned (.int .i64 0) ∧ HeapV n0 w' H most (setL l v n x) ss ∧ HStep H H w w' := by
  have G := hidIt (has_any h v n)
  have G2 := hidIt (IsRef_any h v n)
  have G3 := hidIt (is_any h x)
  obtain ⟨g, cap, j, ew, -, hgl, ej, hj, hc, hz, q1, q2, q3, q4⟩ := h.field hn
  have c1 : w.cell? ⟨H.hb, 1, none⟩ = some H.wv := h.box.cell 1
  have FIN : Hid (HeapV n0 (w.setCell ⟨g, j, none⟩ (.int .i64 x)).drew H most (setL l v n x) ss ∧ HStep H H w (w.setCell ⟨g, j, none⟩ (.int .i64 x)).drew) := hidIt (by
    obtain ⟨a, b⟩ := h.set hn x ew ej
    exact ⟨a.kept (fun _ _ => rfl), ⟨b.os, b.tape, b.output, b.size, b.block, b.hb, b.moved⟩⟩)
  have c1' : Hid ((w.setCell ⟨g, j, none⟩ (.int .i64 x)).drew.cell? ⟨H.hb, 1, none⟩ = some H.wv) := hidIt (FIN.out.1.box.cell 1)
  rw [ew] at c1 c1'
  rw [hn] at G
  have hU : usedN l ≤ 16384 := Nat.le_trans h.few h.most
  have hj' : (j : Int) < (usedN l : Int) := by omega
  have GF : Hid (∀ w, Calls Try.prog 50 #[.int .i64 v, .int .i64 n] w fun e w' => e = .returned (.int .i64 (j : Int)) ∧ w' = w) := hidIt (fun w => by rw [← ej]; exact field_any v n w (by omega) (by omega) (by omega) (by omega))
  have hne : H.hb ≠ g := fun e => own_not h.wo h.box (by decide) (by rw [ew]; simp [Value.ownBlock, e])
  unfold HB.ptr at G G2 G3 ⊢
  generalize usedN l = U at *
  clear ej q1 q2 q3 q4
  unfold fitZ at hf
  generalize getZ l v n = y at *
  have hcz := hidIt hz
  have hcc := hidIt hc
  have hc1 := hidIt c1
  cases f1 : refZ ss l v n with
  | false =>
    rw [f1] at G2
    clear hf hn f1
    go_enter Try.func29, Try.ntmps29
    go_wp2_with (first | (go_at_call 48; refine G.out.mono ?_; rintro e w' ⟨rfl, hww⟩; cases hww) | (go_at_call 49; refine G2.out.mono ?_; rintro e w' ⟨rfl, hww⟩; cases hww) | (go_at_call 40; refine G3.out.mono ?_; rintro e w' ⟨rfl, hww⟩; cases hww))
    go_region_held3 (fun W => W.cell? ⟨H.hb, 1, none⟩ = some (.slice (some ⟨g, 0, none⟩) U cap)) (first | exact hc1.out | exact c1'.out)
      (first | (go_at_call 50; refine (GF.out _).mono ?_; rintro e w' ⟨rfl, hww⟩; cases hww))
    go_wp2
    go_ret
    exact ⟨rfl, FIN.out⟩
  | true =>
    rw [f1] at G2 hf
    clear hn f1
    by_cases f2 : x = 0
    · subst f2
      clear hf
      go_enter Try.func29, Try.ntmps29
      go_wp2_with (first | (go_at_call 48; refine G.out.mono ?_; rintro e w' ⟨rfl, hww⟩; cases hww) | (go_at_call 49; refine G2.out.mono ?_; rintro e w' ⟨rfl, hww⟩; cases hww) | (go_at_call 40; refine G3.out.mono ?_; rintro e w' ⟨rfl, hww⟩; cases hww))
      go_region_held3 (fun W => W.cell? ⟨H.hb, 1, none⟩ = some (.slice (some ⟨g, 0, none⟩) U cap)) (first | exact hc1.out | exact c1'.out)
        (first | (go_at_call 50; refine (GF.out _).mono ?_; rintro e w' ⟨rfl, hww⟩; cases hww))
      go_wp2
      go_ret
      exact ⟨rfl, FIN.out⟩
    · have f3 : (objZ l x).isSome = true := by simpa [f2] using hf
      have f2' : (x != 0) = true := by simpa using f2
      rw [f3] at G3
      clear hf f3
      go_enter Try.func29, Try.ntmps29
      go_wp2_with (first | (go_at_call 48; refine G.out.mono ?_; rintro e w' ⟨rfl, hww⟩; cases hww) | (go_at_call 49; refine G2.out.mono ?_; rintro e w' ⟨rfl, hww⟩; cases hww) | (go_at_call 40; refine G3.out.mono ?_; rintro e w' ⟨rfl, hww⟩; cases hww))
      go_region_held3 (fun W => W.cell? ⟨H.hb, 1, none⟩ = some (.slice (some ⟨g, 0, none⟩) U cap)) (first | exact hc1.out | exact c1'.out)
        (first | (go_at_call 50; refine (GF.out _).mono ?_; rintro e w' ⟨rfl, hww⟩; cases hww))
      go_wp2
      go_ret
      exact ⟨rfl, FIN.out⟩
end Go.Proofs.Ytbdeflpjplhafaa.J

