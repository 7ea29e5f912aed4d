import Derived.Deep.RegionHeld3
set_option maxRecDepth 8000
set_option maxHeartbeats 40000000
namespace Go.Proofs.YtpehimfnkmepnaaGreat
section
variable {P : Program} {ops : Array Oper} {Q : Exit → Act → World → Prop} {md : Region.Mode} {S : World → Prop} {j : Nat}
def UpL (P : Program) (md : Region.Mode) (ops : Array Oper) (Q : Exit → Act → World → Prop) (S : World → Prop) (j : Nat) : Nat → Array Bool → Act → World → Prop
 | 0, l, a, w => Region.ready md ops l = [] ∧ Q .normal a w
 | n + 1, l, a, w => (Region.ready md ops l = [] → Q .normal a w) ∧ ∀ i ∈ Region.ready md ops l, wpOp P ops Q i (fun a' w' => ((l.setIfInBounds i true).getD j true = false → S w') ∧ UpL P md ops Q S j n (l.setIfInBounds i true) a' w') a w
theorem UpL.any : ∀ (n : Nat) (l : Array Bool) (a : Act) (w : World), UpL P md ops Q S j n l a w → wpAny P md ops Q n l a w
 | 0, _, _, _, h => h
 | n + 1, _, _, _, h => ⟨h.1, fun i hi => wpOp_mono (fun a' w' h' => UpL.any n _ a' w' h'.2) (h.2 i hi)⟩
theorem UpL.first {i : Nat} {oi : Oper} {v : Value} (hi : ops[i]? = some oi) (hsel : ∀ (j : Nat) (o : Oper) cs b, ops[j]? = some o → o.op ≠ .select cs b) (hQ : ∀ c a w, Q (.panic c) (a.put oi.dst v) w → Q (.panic c) a w)
 (hij : i ≠ j) {T : World → Prop} (hT : (∀ w, T w) ∨ ((∀ w, S w → T w) ∧ ∃ oj, ops[j]? = some oj ∧ ∃ e ∈ oj.after, Region.binds md e = true ∧ e.on = i)) :
 ∀ (n : Nat) (l : Array Bool) (a : Act) (w : World), (∀ k ok, ops[k]? = some ok → k ≠ i → l.getD k true = false → (∀ e ∈ ok.after, Region.binds md e = true → e.on ≠ i) → oi.apart ops ok = true) →
   i ∈ Region.ready md ops l → YieldsIf P ops T oi v a → T w → (l.getD j true = false → S w) → ((∀ w, T w) ∨ l.getD j true = false) → UpL P md ops Q S j n (l.setIfInBounds i true) (a.put oi.dst v) w → UpL P md ops Q S j (n + 1) l a w := by
 intro n
 induction n with
 | zero =>
   intro l a w _ hr hy hTw hS _ H
   refine ⟨fun h => (by rw [h] at hr; cases hr), fun k hk => ?_⟩
   by_cases hki : k = i
   · subst hki; exact hy.wpOp hi hTw ⟨fun h => hS (by rwa [getD_set_ne true hij] at h), H⟩
   · have := ready_mono hk hki
     rw [H.1] at this
     cases this
 | succ n ih =>
   intro l a w hfree hr hy hTw hS hlj H
   refine ⟨fun h => (by rw [h] at hr; cases hr), fun k hk => ?_⟩
   by_cases hki : k = i
   · subst hki; exact hy.wpOp hi hTw ⟨fun h => hS (by rwa [getD_set_ne true hij] at h), H⟩
   · have h1 := H.2 k (ready_mono hk hki)
     obtain ⟨hkun, ok, hok, hall⟩ := mem_ready.1 hk
     have hun : ∀ x : Nat, x = i → ¬ l.getD x false = true := fun x heq h1 => by
      have h0 := (mem_ready.1 hr).1
      rw [heq] at h1
      rcases Nat.lt_or_ge i l.size with h' | h'
      · simp [h'] at h0 h1; rw [h0] at h1; cases h1
      · simp [Array.getElem?_eq_none h'] at h1
     have hnot : ∀ e ∈ ok.after, Region.binds md e = true → e.on ≠ i := fun e he hb heq => hun e.on heq (hall e he hb)
     have h2 := wpOp_putIf hok (hfree k ok hok hki hkun hnot) (fun cs b => hsel i oi cs b hi) (fun cs b => hsel k ok cs b hok) hQ hy h1
     have hfree' : ∀ m om, ops[m]? = some om → m ≠ i → (l.setIfInBounds k true).getD m true = false → (∀ e ∈ om.after, Region.binds md e = true → e.on ≠ i) → oi.apart ops om = true := fun m om hm hmi hum hno => by
      refine hfree m om hm hmi ?_ hno
      by_cases hkm : k = m
      · subst hkm; exact hkun
      · rw [getD_set_ne true hkm] at hum; exact hum
     refine wpOp_mono (fun a' w' h3 => ?_) h2
     have e0 : ((l.setIfInBounds i true).setIfInBounds k true).getD j true = (l.setIfInBounds k true).getD j true := by
      rw [← Array.setIfInBounds_comm _ _ hki, getD_set_ne true hij]
     have hS' : (l.setIfInBounds k true).getD j true = false → S w' := fun h => h3.2.1 (by rw [e0]; exact h)
     have hlj' : (∀ w, T w) ∨ (l.setIfInBounds k true).getD j true = false := by
      rcases hlj with h | h
      · exact .inl h
      · rcases hT with hT | ⟨_, oj, hoj, e, he, hb, heq⟩
        · exact .inl hT
        · by_cases hkj : k = j
          · subst hkj
            rw [hoj] at hok
            cases hok
            exact absurd heq (hnot e he hb)
          · exact .inr (by rw [getD_set_ne true hkj]; exact h)
     have hT' : T w' := by
      rcases hlj' with h | h
      · exact h w'
      · rcases hT with hT | hT
        · exact hT w'
        · exact hT.1 w' (hS' h)
     refine ⟨hS', ih (l.setIfInBounds k true) a' w' hfree' (ready_mono hr (Ne.symm hki)) h3.1 hT' hS' hlj' ?_⟩
     rw [Array.setIfInBounds_comm _ _ hki]
     exact h3.2.2
end
theorem sq1 {α : Type} (l : List α) (i : Nat) (x : α) : l.toArray.setIfInBounds i x = (l.set i x).toArray := List.setIfInBounds_toArray ..
theorem sq2 {α : Type} (x y : α) (l : List α) : (x :: l).set 0 y = y :: l := rfl
theorem sq3 {α : Type} (x y : α) (l : List α) (n : Nat) : (x :: l).set (n + 1) y = x :: l.set n y := rfl
section
variable {P : Program} {l0 : List Oper} {Q : Exit → Act → World → Prop} {md : Region.Mode} {S : World → Prop} {j n : Nat} {ls : Array Bool} {a : Act} {w : World}
def waits (md : Region.Mode) (l0 : List Oper) (j i : Nat) : Bool := match l0[j]? with | some o => o.after.any (fun e => Region.binds md e && e.on == i) | none => false
theorem tL (i : Nat) {oi : Oper} (v : Value) (hi : l0[i]? = some oi) (hw : Region.wanted oi (yielded l0.toArray a.tmps) = true) (hy : ∀ w, S w → (execOp a.eval oi).run P w = .ok (.value v) w)
 (h : UpL P md l0.toArray Q S j n (ls.setIfInBounds i true) (a.put oi.dst v) w) (hS : S w := by assumption) (hQ : ∀ c a w, Q (.panic c) (a.put oi.dst v) w → Q (.panic c) a w := by exact fun _ _ _ h => h)
 (hs : Region.noSelect l0.toArray = true := by kernel_rfl) (hf : Region.free md l0.toArray ls i = true := by kernel_rfl) (hr : (Region.ready md l0.toArray ls).contains i = true := by kernel_rfl)
 (hj : (i != j && (!ls.getD j true && waits md l0 j i)) = true := by kernel_rfl) : UpL P md l0.toArray Q S j (n + 1) ls a w := by
 simp only [Bool.and_eq_true, bne_iff_ne, Bool.not_eq_true'] at hj
 obtain ⟨h1, h2, h3⟩ := hj
 have hi' : l0.toArray[i]? = some oi := by rw [List.getElem?_toArray]; exact hi
 refine UpL.first hi' (Region.noSelect_spec hs) hQ h1 (T := S) (.inr ⟨fun _ h => h, ?_⟩) n ls a w (Region.free_spec hi' hf) (by simpa using hr) (.inl ⟨hw, hy⟩) hS (fun _ => hS) (.inr h2) h
 unfold waits at h3
 split at h3
 · rename_i o ho
   rw [Array.any_eq_true] at h3
   obtain ⟨k, hk, h3⟩ := h3
   simp only [Bool.and_eq_true, beq_iff_eq] at h3
   exact ⟨o, by rw [List.getElem?_toArray]; exact ho, o.after[k], Array.getElem_mem hk, h3.1, h3.2⟩
 · cases h3
theorem tP (i : Nat) {oi : Oper} (v : Value) (hi : l0[i]? = some oi) (hw : Region.wanted oi (yielded l0.toArray a.tmps) = true) (hy : ∀ w, (execOp a.eval oi).run P w = .ok (.value v) w)
 (h : UpL P md l0.toArray Q S j n (ls.setIfInBounds i true) (a.put oi.dst v) w) (hS : (ls.getD j true = false → S w) := by first | exact fun _ => (by assumption) | exact fun h => (by cases h)) (hQ : ∀ c a w, Q (.panic c) (a.put oi.dst v) w → Q (.panic c) a w := by exact fun _ _ _ h => h)
 (hs : Region.noSelect l0.toArray = true := by kernel_rfl) (hf : Region.free md l0.toArray ls i = true := by kernel_rfl) (hr : (Region.ready md l0.toArray ls).contains i = true := by kernel_rfl)
 (hj : (i != j) = true := by kernel_rfl) : UpL P md l0.toArray Q S j (n + 1) ls a w := by
 have hi' : l0.toArray[i]? = some oi := by rw [List.getElem?_toArray]; exact hi
 exact UpL.first hi' (Region.noSelect_spec hs) hQ (by simpa using hj) (T := fun _ => True) (.inl fun _ => trivial) n ls a w (Region.free_spec hi' hf) (by simpa using hr) (.inl ⟨hw, fun w _ => hy w⟩) trivial hS (.inl fun _ => trivial) h
theorem sL (i : Nat) {o : Oper} (ho : l0[i]? = some o) (h : ∀ K : Act → World → Prop, Shut (∀ a w, S w → (S w → UpL P md l0.toArray Q S j n (ls.setIfInBounds i true) a w) → K a w) → if Region.wanted o (yielded l0.toArray a.tmps) = true then Oper.wp P o a w K Q else K (a.put o.dst undef) w)
 (hr : Region.ready md l0.toArray ls = [i] := by kernel_rfl) : UpL P md l0.toArray Q S j (n + 1) ls a w :=
 ⟨fun h0 => by (rw [hr] at h0; cases h0), fun k hk => by
  rw [hr, List.mem_singleton] at hk
  subst hk
  exact wpOp_step (by rw [List.getElem?_toArray]; exact ho) (fun K hK => h K (fun a w hS hW => hK a w ⟨fun _ => hS, hW hS⟩))⟩
theorem jL {o : Oper} (ho : l0[j]? = some o) (h : ∀ K : Act → World → Prop, Shut (∀ a w, UpL P md l0.toArray Q S j n (ls.setIfInBounds j true) a w → K a w) → if Region.wanted o (yielded l0.toArray a.tmps) = true then Oper.wp P o a w K Q else K (a.put o.dst undef) w)
 (hr : Region.ready md l0.toArray ls = [j] := by kernel_rfl) (hz : (ls.setIfInBounds j true).getD j true = true := by kernel_rfl) : UpL P md l0.toArray Q S j (n + 1) ls a w :=
 ⟨fun h0 => by (rw [hr] at h0; cases h0), fun k hk => by
  rw [hr, List.mem_singleton] at hk
  subst hk
  exact wpOp_step (by rw [List.getElem?_toArray]; exact ho) (fun K hK => h K (fun a w hW => hK a w ⟨fun h => by (rw [hz] at h; cases h), hW⟩))⟩
theorem dL (h : Q .normal a w) (hr : Region.ready md l0.toArray ls = [] := by kernel_rfl) : UpL P md l0.toArray Q S j n ls a w := by
 cases n with
 | zero => exact ⟨hr, h⟩
 | succ n => exact ⟨fun _ => h, by rw [hr]; simp⟩
theorem rL {id : Nat} (S : World → Prop) (j : Nat) (hS : S w.drew) (h : S w.drew → UpL P .any l0.toArray Q S j l0.toArray.size (Array.replicate l0.toArray.size false) a w.drew) (hm : P.follows .mixedOrders = true := by kernel_rfl) : (Code.region id l0.toArray true).wp P Q a w :=
 wp_region_any hm (UpL.any _ _ _ _ (h hS))
theorem tH (i : Nat) {oi : Oper} (v : Value) (hi : l0[i]? = some oi) (hw : Region.wanted oi (yielded l0.toArray a.tmps) = true) (hy : ∀ w, S w → (execOp a.eval oi).run P w = .ok (.value v) w)
 (h : wpAnyH P md l0.toArray Q S n (ls.setIfInBounds i true) (a.put oi.dst v) w) (hS : S w := by assumption) (hQ : ∀ c a w, Q (.panic c) (a.put oi.dst v) w → Q (.panic c) a w := by exact fun _ _ _ h => h)
 (hs : Region.noSelect l0.toArray = true := by kernel_rfl) (hf : Region.free md l0.toArray ls i = true := by kernel_rfl) (hr : (Region.ready md l0.toArray ls).contains i = true := by kernel_rfl) : wpAnyH P md l0.toArray Q S (n + 1) ls a w :=
 wpAnyH_take (by rw [List.getElem?_toArray]; exact hi) hs hf hr hQ (.inl ⟨hw, hy⟩) hS h
theorem tS (i : Nat) {oi : Oper} (hi : l0[i]? = some oi) (hw : Region.wanted oi (yielded l0.toArray a.tmps) = false)
 (h : wpAnyH P md l0.toArray Q S n (ls.setIfInBounds i true) (a.put oi.dst undef) w) (hS : S w := by assumption) (hQ : ∀ c a w, Q (.panic c) (a.put oi.dst undef) w → Q (.panic c) a w := by exact fun _ _ _ h => h)
 (hs : Region.noSelect l0.toArray = true := by kernel_rfl) (hf : Region.free md l0.toArray ls i = true := by kernel_rfl) (hr : (Region.ready md l0.toArray ls).contains i = true := by kernel_rfl) : wpAnyH P md l0.toArray Q S (n + 1) ls a w :=
 wpAnyH_take (by rw [List.getElem?_toArray]; exact hi) hs hf hr hQ (.inr ⟨hw, rfl⟩) hS h
theorem cH {i : Nat} {o : Oper} {rs : List Nat} (ho : l0[i]? = some o)
 (h : ∀ K : Act → World → Prop, Shut (∀ a w, S w → (S w → wpAnyH P md l0.toArray Q S n (ls.setIfInBounds i true) a w) → K a w) → if Region.wanted o (yielded l0.toArray a.tmps) = true then Oper.wp P o a w K Q else K (a.put o.dst undef) w)
 (hs : AllReadyH P md l0.toArray Q S n ls a w rs) : AllReadyH P md l0.toArray Q S n ls a w (i :: rs) := AllReadyH.cons (by rw [List.getElem?_toArray]; exact ho) h hs
theorem oH (i : Nat) {o : Oper} (ho : l0[i]? = some o)
 (h : ∀ K : Act → World → Prop, Shut (∀ a w, S w → (S w → wpAnyH P md l0.toArray Q S n (ls.setIfInBounds i true) a w) → K a w) → if Region.wanted o (yielded l0.toArray a.tmps) = true then Oper.wp P o a w K Q else K (a.put o.dst undef) w)
 (hr : Region.ready md l0.toArray ls = [i] := by kernel_rfl) : wpAnyH P md l0.toArray Q S (n + 1) ls a w := wpAnyH_ready hr (by simp) (cH ho h AllReadyH.nil)
theorem eH (h : Q .normal a w) (hr : Region.ready md l0.toArray ls = [] := by kernel_rfl) : wpAnyH P md l0.toArray Q S n ls a w := wpAnyH_done hr h _
end
end Go.Proofs.YtpehimfnkmepnaaGreat
