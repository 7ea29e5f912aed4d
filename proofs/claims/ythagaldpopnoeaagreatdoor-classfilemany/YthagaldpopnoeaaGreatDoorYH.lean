import Derived.Test.YthagaldpopnoeaaGreatDoorYG
import Derived.Lib.SlBytesConst

/- A class, written; Encode: walked. -/
namespace Go.Proofs.YthagaldpopnoeaaGreatDoor
open Go.RowKit D

def KD.Small (k : KD) : Prop := k.nm.size ≤ 17179869184 ∧ k.sup.size ≤ 17179869184 ∧ (∀ f ∈ k.fs, f.nm.size ≤ 17179869184 ∧ f.ds.size ≤ 17179869184) ∧ ∀ m ∈ k.ms, m.Small
theorem cview_of {w0 W : World} {ao : Option Addr} {c : Nat} {l : List CD} (h : LAt 5 ConstR w0 ao c l) (hb : Below w0.heap.size w0 W) : CView W (.slice ao l.length c) l := by
  obtain ⟨h1, h2, rows, h3, h4⟩ := h.below hb (fun _ _ h => h)
  refine ⟨ao, c, rfl, h1, h2, fun x hx => ?_, ?_⟩
  · obtain ⟨i, hi⟩ := List.getElem?_of_mem hx
    exact (h4 i x hi).2
  · by_cases hn : 0 < l.length
    · obtain ⟨b, off, e, _, hc⟩ := h3 hn
      refine .inr ⟨b, off, e, fun i x hx => ?_⟩
      have hi := (List.getElem?_eq_some_iff.1 hx).1
      have hr := (h4 i x hx).1
      have := hc i hi
      rw [hr] at this
      exact ⟨this 0 _ rfl, this 1 _ rfl, this 2 _ rfl, this 3 _ rfl, this 4 _ rfl⟩
    · exact .inl (List.length_eq_zero_iff.1 (by omega))
theorem wr_pool (w0 : World) (pw : Nat) (l : List CD) (ao : Option Addr) (c : Nat) (hL : LAt 5 ConstR w0 ao c l) (L : List Int) (w : World) (h : WR w0 pw w L) (hlen : L.length ≤ 137438953472) :
    Calls Tryz.prog 89 #[ptr pw, .slice ao l.length c] w fun e w' => e = .returned (.int .i64 (wcode l)) ∧ WR w0 pw w' (L ++ wput l) ∧ WS pw w w' := by
  obtain ⟨v, hI⟩ := h.1
  refine (write_any _ pw v _ L l w hI h.bel.size h.2.2.2.2 hlen h.tabs (cview_of hL h.bel) ?_).mono ?_
  · intro hne k e
    obtain ⟨_, _, rows, h3, _⟩ := hL
    obtain ⟨b, off, e', hlt, _⟩ := h3 (by cases l with | nil => exact absurd rfl hne | cons a b => simp)
    subst e'
    have e : b = k := by simpa [Value.ownBlock] using e
    subst e
    have hp := h.2.1
    refine ⟨by omega, fun e => ?_⟩
    have := (hI.own.lt _ e.symm).1
    omega
  · rintro e w' ⟨rfl, v', hI', st⟩
    exact ⟨rfl, h.step hI hI' st, WS.of_step hI hI' st⟩
set_option maxRecDepth 8000 in
set_option maxHeartbeats 4000000 in
theorem wr_class (w0 : World) (pw : Nat) (k : KD) (v : Value) (hv : ClassV w0 v k) (hs : k.Small) (hc : wcode k.pool = 0) (W : World) (hW : WR w0 pw W []) (hlen : (classO k).length ≤ 137438953472) :
    Calls Tryz.prog 42 #[wv pw, v] W fun e w' => e = .returned (.tuple #[]) ∧ WR w0 pw w' (classO k) ∧ WS pw W w' := by
  obtain ⟨o1, c1, o2, c2, o3, c3, rfl, _, _, k1, k2, k3⟩ := hv
  obtain ⟨z1, z2, z3, z4⟩ := hs
  unfold classO at *
  have g1 := fun W vb (h : WR w0 pw W []) (hv : View W vb [202, 254, 186, 190, 0, 1]) => D.hidIt (wr_bytes w0 pw [] [202, 254, 186, 190, 0, 1] vb W h hv (by simp))
  have g2 := fun W (h : WR w0 pw W ([] ++ [202, 254, 186, 190, 0, 1])) => D.hidIt (wr_pool w0 pw k.pool o1 c1 k1 _ W h (by simp))
  rw [show wput k.pool = poolZ k.pool by unfold wput; rw [if_pos hc], hc] at g2
  have g3 := fun W (h : WR w0 pw W ([] ++ [202, 254, 186, 190, 0, 1] ++ poolZ k.pool)) => D.hidIt (wr_text w0 pw _ k.nm W h (by simp only [List.length_append, List.nil_append] at hlen ⊢; omega) z1)
  have g4 := fun W (h : WR w0 pw W ([] ++ [202, 254, 186, 190, 0, 1] ++ poolZ k.pool ++ wtextZ k.nm)) => D.hidIt (wr_text w0 pw _ k.sup W h (by simp only [List.length_append, List.nil_append] at hlen ⊢; omega) z2)
  have g5 := fun W (h : WR w0 pw W ([] ++ [202, 254, 186, 190, 0, 1] ++ poolZ k.pool ++ wtextZ k.nm ++ wtextZ k.sup)) => D.hidIt (wr_listF w0 pw fieldO k.fs o2 c2 k2 (fun x hx => one_field w0 pw x (z3 x hx)) _ W h (by have := hlen; unfold fieldsO at this; simp only [List.length_append, List.nil_append] at this ⊢; omega))
  have g6 := fun W (h : WR w0 pw W ([] ++ [202, 254, 186, 190, 0, 1] ++ poolZ k.pool ++ wtextZ k.nm ++ wtextZ k.sup ++ fieldsO k.fs)) => D.hidIt (wr_listM w0 pw methO k.ms o3 c3 k3 (fun x hx => one_meth w0 pw x (z4 x hx)) _ W h (by have := hlen; unfold methsO at this; simp only [List.length_append, List.nil_append] at this ⊢; omega))
  change ∀ W, _ → Hid (Calls _ _ _ _ fun e w' => _ ∧ WR _ _ _ (_ ++ fieldsO k.fs) ∧ _) at g5
  change ∀ W, _ → Hid (Calls _ _ _ _ fun e w' => _ ∧ WR _ _ _ (_ ++ methsO k.ms) ∧ _) at g6
  clear hlen z1 z2 z3 z4 k1 k2 k3 hc
  generalize wtextZ k.nm = X1 at *
  generalize wtextZ k.sup = X2 at *
  generalize fieldsO k.fs = X3 at *
  generalize methsO k.ms = X4 at *
  generalize poolZ k.pool = X5 at *
  generalize k.pool.length = n1 at *
  generalize k.fs.length = n2 at *
  generalize k.ms.length = n3 at *
  obtain ⟨nm, sup, pool, fs, ms⟩ := k
  simp only at *
  have hA := hW.below (balloc W (.cells #[.pointer (some ⟨pw, 0, none⟩)] 92))
  have hB := hA.below (balloc _ (.cells #[.string nm, .string sup, .slice o1 n1 c1, .slice o2 n2 c2, .slice o3 n3 c3] 33))
  have bx1 := (Keeps.new hW (.cells #[.pointer (some ⟨pw, 0, none⟩)] 92)).step (WS.of_below hA.lt (balloc _ (.cells #[.string nm, .string sup, .slice o1 n1 c1, .slice o2 n2 c2, .slice o3 n3 c3] 33)))
  have bx2 := Keeps.new hA (.cells #[.string nm, .string sup, .slice o1 n1 c1, .slice o2 n2 c2, .slice o3 n3 c3] 33)
  rw [show (W.alloc (.cells #[.pointer (some ⟨pw, 0, none⟩)] 92)).heap.size = W.heap.size + 1 by simp] at bx2
  have S0 := D.hidIt ((WS.of_below hW.lt (balloc W (.cells #[.pointer (some ⟨pw, 0, none⟩)] 92))).trans (WS.of_below hA.lt (balloc _ (.cells #[.string nm, .string sup, .slice o1 n1 c1, .slice o2 n2 c2, .slice o3 n3 c3] 33))))
  have HB := D.hidIt hB
  have K1 := D.hidIt bx1
  have K2 := D.hidIt bx2
  clear hA hB hW bx1 bx2
  unfold wv ptr at *
  have kc : Sem.run Tryz.prog (convert 22 22 (.slice (some ⟨W.heap.size + 1 + 1, 0, none⟩) 6 6)) (((W.alloc (.cells #[.pointer (some ⟨pw, 0, none⟩)] 92)).alloc (.cells #[.string nm, .string sup, .slice o1 n1 c1, .slice o2 n2 c2, .slice o3 n3 c3] 33)).alloc (.cells #[.int .u8 202, .int .u8 254, .int .u8 186, .int .u8 190, .int .u8 0, .int .u8 1] 5)) = .ok (.slice (some ⟨W.heap.size + 1 + 1, 0, none⟩) 6 6) (((W.alloc (.cells #[.pointer (some ⟨pw, 0, none⟩)] 92)).alloc (.cells #[.string nm, .string sup, .slice o1 n1 c1, .slice o2 n2 c2, .slice o3 n3 c3] 33)).alloc (.cells #[.int .u8 202, .int .u8 254, .int .u8 186, .int .u8 190, .int .u8 0, .int .u8 1] 5 (6, 7))) := by
    have := Lib.run_convert_bytes_const (P := Tryz.prog) ((W.alloc (.cells #[.pointer (some ⟨pw, 0, none⟩)] 92)).alloc (.cells #[.string nm, .string sup, .slice o1 n1 c1, .slice o2 n2 c2, .slice o3 n3 c3] 33)) 22 5 #[.int .u8 202, .int .u8 254, .int .u8 186, .int .u8 190, .int .u8 0, .int .u8 1] 6 6 Tryz.underlying22 Tryz.underlying5
    simpa using this
  have HV : Hid (View (((W.alloc (.cells #[.pointer (some ⟨pw, 0, none⟩)] 92)).alloc (.cells #[.string nm, .string sup, .slice o1 n1 c1, .slice o2 n2 c2, .slice o3 n3 c3] 33)).alloc (.cells #[.int .u8 202, .int .u8 254, .int .u8 186, .int .u8 190, .int .u8 0, .int .u8 1] 5 (6, 7))) (.slice (some ⟨W.heap.size + 1 + 1, 0, none⟩) 6 6) [202, 254, 186, 190, 0, 1]) := by
    refine ⟨_, _, rfl, by decide, by unfold maxLen; omega, by intro x hx; simp at hx; omega, .inr ⟨_, _, rfl, ?_⟩⟩
    have hh : (((W.alloc (.cells #[.pointer (some ⟨pw, 0, none⟩)] 92)).alloc (.cells #[.string nm, .string sup, .slice o1 n1 c1, .slice o2 n2 c2, .slice o3 n3 c3] 33)).alloc (.cells #[.int .u8 202, .int .u8 254, .int .u8 186, .int .u8 190, .int .u8 0, .int .u8 1] 5 (6, 7))).heap[W.heap.size + 1 + 1]? = some (.cells #[.int .u8 202, .int .u8 254, .int .u8 186, .int .u8 190, .int .u8 0, .int .u8 1] 5 (6, 7)) := by
      have := heap_alloc_new ((W.alloc (.cells #[.pointer (some ⟨pw, 0, none⟩)] 92)).alloc (.cells #[.string nm, .string sup, .slice o1 n1 c1, .slice o2 n2 c2, .slice o3 n3 c3] 33)) (.cells #[.int .u8 202, .int .u8 254, .int .u8 186, .int .u8 190, .int .u8 0, .int .u8 1] 5 (6, 7))
      simpa using this
    intro j x hx
    rw [cell_of_row _ _ _ _ 5 (6, 7) hh]
    rcases j with _ | _ | _ | _ | _ | _ | j <;> simp at hx <;> subst hx <;> rfl
  have B3 := D.hidIt (balloc ((W.alloc (.cells #[.pointer (some ⟨pw, 0, none⟩)] 92)).alloc (.cells #[.string nm, .string sup, .slice o1 n1 c1, .slice o2 n2 c2, .slice o3 n3 c3] 33)) (.cells #[.int .u8 202, .int .u8 254, .int .u8 186, .int .u8 190, .int .u8 0, .int .u8 1] 5 (6, 7)))
  go_enter Tryz.func42, Tryz.ntmps42
  go_wp2_with fail
  refine (g1 _ _ (HB.out.below B3.out) HV.out).out.mono ?_
  replace S0 := D.hidIt (S0.out.trans (WS.of_below HB.out.lt B3.out))
  replace K1 := D.hidIt (K1.out.step (WS.of_below HB.out.lt B3.out))
  replace K2 := D.hidIt (K2.out.step (WS.of_below HB.out.lt B3.out))
  clear HV B3 kc
  rintro e w1 ⟨rfl, h1, s1⟩
  have H1 := D.hidIt h1
  have S1 := D.hidIt s1
  clear h1 s1 g1
  have k1 := K1.out.step (S1.out)
  have k2 := K2.out.step (S1.out)
  have a1 := cell_row k1.1 0 rfl
  have b2 := cell_row k2.1 2 rfl
  clear k1 k2
  go_wp2_with fail
  refine (g2 _ H1.out).out.mono ?_
  rintro e w2 ⟨rfl, h2, s2⟩
  have H2 := D.hidIt h2
  have S2 := D.hidIt s2
  clear a1 b2
  clear h2 s2 g2
  have k1 := K1.out.step ((S1.out).trans S2.out)
  have k2 := K2.out.step ((S1.out).trans S2.out)
  have a1 := cell_row k1.1 0 rfl
  have b0 := cell_row k2.1 0 rfl
  clear k1 k2
  go_wp2_with fail
  refine (g3 _ H2.out).out.mono ?_
  rintro e w3 ⟨rfl, h3, s3⟩
  have H3 := D.hidIt h3
  have S3 := D.hidIt s3
  clear a1 b0
  clear h3 s3 g3
  have k1 := K1.out.step (((S1.out).trans S2.out).trans S3.out)
  have k2 := K2.out.step (((S1.out).trans S2.out).trans S3.out)
  have a1 := cell_row k1.1 0 rfl
  have b1 := cell_row k2.1 1 rfl
  clear k1 k2
  go_wp2_with fail
  refine (g4 _ H3.out).out.mono ?_
  rintro e w4 ⟨rfl, h4, s4⟩
  have H4 := D.hidIt h4
  have S4 := D.hidIt s4
  clear a1 b1
  clear h4 s4 g4
  have k1 := K1.out.step ((((S1.out).trans S2.out).trans S3.out).trans S4.out)
  have k2 := K2.out.step ((((S1.out).trans S2.out).trans S3.out).trans S4.out)
  have a1 := cell_row k1.1 0 rfl
  have b3 := cell_row k2.1 3 rfl
  clear k1 k2
  go_wp2_with fail
  refine (g5 _ H4.out).out.mono ?_
  rintro e w5 ⟨rfl, h5, s5⟩
  have H5 := D.hidIt h5
  have S5 := D.hidIt s5
  clear a1 b3
  clear h5 s5 g5
  have k1 := K1.out.step (((((S1.out).trans S2.out).trans S3.out).trans S4.out).trans S5.out)
  have k2 := K2.out.step (((((S1.out).trans S2.out).trans S3.out).trans S4.out).trans S5.out)
  have a1 := cell_row k1.1 0 rfl
  have b4 := cell_row k2.1 4 rfl
  clear k1 k2
  go_wp2_with fail
  refine (g6 _ H5.out).out.mono ?_
  rintro e w6 ⟨rfl, h6, s6⟩
  have H6 := D.hidIt h6
  have S6 := D.hidIt s6
  clear h6 s6 g6
  go_wp2
  go_end0
  exact ⟨rfl, H6.out, S0.out.trans (((((S1.out.trans S2.out).trans S3.out).trans S4.out).trans S5.out).trans S6.out)⟩
end Go.Proofs.YthagaldpopnoeaaGreatDoor

/- What Right lets by can be written; Encode: walked. -/
namespace Go.Proofs.YthagaldpopnoeaaGreatDoor
open Go.RowKit D

theorem fields_each : ∀ (l a : List FD), fieldsZ a l = 0 → ∀ x ∈ l, nameB (bsB x.nm) = true ∧ fieldB (bsB x.ds) = true
  | [], _, _, _, hx => by simp at hx
  | f :: l, a, h, x, hx => by
    unfold fieldsZ at h
    by_cases hz : fieldZ f a = 0
    · rw [if_pos hz] at h
      rcases List.mem_cons.1 hx with rfl | hx
      · unfold fieldZ at hz
        by_cases hb : (nameB (bsB x.nm) && fieldB (bsB x.ds)) = false
        · rw [if_pos hb] at hz; omega
        · simpa using hb
      · exact fields_each l _ h x hx
    · rw [if_neg hz] at h; exact absurd h hz
/-- What Right asks of a method, all of it. -/
structure MOk (m : MD) : Prop where
  nm : nameB (bsB m.nm) = true
  ds : methodB m.ds = true
  stk : inB m.stk 16 = true
  loc : inB m.loc 16 = true
  code : m.code.length ≤ 1024
  hl : m.hs.length ≤ 64
  rl : m.rs.length ≤ 64
  hs : ∀ h ∈ m.hs, handB h = true
  pl : ∀ f ∈ m.rs, placeB f = true
  sz : ∀ f ∈ m.rs, sizeB f = true
  ty : ∀ f ∈ m.rs, slotsB f = true
theorem meth_ok {m : MD} {a : List MD} (h : methZ m a = 0) : MOk m := by
  unfold methZ at h
  by_cases h1 : (nameB (bsB m.nm) && methodB m.ds) = false
  · rw [if_pos h1] at h; omega
  rw [if_neg h1] at h
  by_cases h2 : a.any (sameM m) = true
  · rw [if_pos h2] at h; omega
  rw [if_neg h2] at h
  by_cases h3 : (inB m.stk 16 && (inB m.loc 16 && decide (m.code.length ≤ 1024))) = false
  · rw [if_pos h3] at h; omega
  rw [if_neg h3] at h
  by_cases h4 : (m.nat && bodyB m) = true
  · rw [if_pos h4] at h; omega
  rw [if_neg h4] at h
  by_cases h5 : (decide (m.hs.length ≤ 64) && decide (m.rs.length ≤ 64)) = false
  · rw [if_pos h5] at h; omega
  rw [if_neg h5] at h
  unfold marksZ at h
  by_cases h6 : (m.hs.all handB && m.rs.all placeB) = false
  · rw [if_pos h6] at h; omega
  rw [if_neg h6] at h
  by_cases h7 : m.rs.all sizeB = false
  · rw [if_pos h7] at h; omega
  rw [if_neg h7] at h
  by_cases h8 : m.rs.all slotsB = false
  · rw [if_pos h8] at h; omega
  simp only [Bool.not_eq_false, Bool.and_eq_true, decide_eq_true_eq, List.all_eq_true] at h1 h3 h5 h6 h7 h8
  exact ⟨h1.1, h1.2, h3.1, h3.2.1, h3.2.2, h5.1, h5.2, h6.1, h6.2, h7, h8⟩
theorem meths_each : ∀ (l a : List MD), methsZ a l = 0 → ∀ x ∈ l, MOk x
  | [], _, _, _, hx => by simp at hx
  | f :: l, a, h, x, hx => by
    unfold methsZ at h
    by_cases hz : methZ f a = 0
    · rw [if_pos hz] at h
      rcases List.mem_cons.1 hx with rfl | hx
      · exact meth_ok hz
      · exact meths_each l _ h x hx
    · rw [if_neg hz] at h; exact absurd h hz
/-- What Right asks of a class. -/
structure KOk (k : KD) : Prop where
  nm : nameB (bsB k.nm) = true
  sup : emptyB k.sup = true ∨ nameB (bsB k.sup) = true
  pl : k.pool.length ≤ 256
  fl : k.fs.length ≤ 16
  ml : k.ms.length ≤ 16
  pool : k.pool.all rightB = true
  fs : ∀ x ∈ k.fs, nameB (bsB x.nm) = true ∧ fieldB (bsB x.ds) = true
  ms : ∀ x ∈ k.ms, MOk x
theorem class_ok {k : KD} (h : rightZ k = 0) : KOk k := by
  unfold rightZ at h
  by_cases h1 : (nameB (bsB k.nm) && (emptyB k.sup || nameB (bsB k.sup))) = false
  · rw [if_pos h1] at h; omega
  rw [if_neg h1] at h
  by_cases h2 : (decide (k.pool.length ≤ 256) && (decide (k.fs.length ≤ 16) && decide (k.ms.length ≤ 16))) = false
  · rw [if_pos h2] at h; omega
  rw [if_neg h2] at h
  by_cases h3 : k.pool.all rightB = false
  · rw [if_pos h3] at h; omega
  rw [if_neg h3] at h
  by_cases h4 : fieldsZ [] k.fs = 0
  · rw [if_pos h4] at h
    simp only [Bool.not_eq_false, Bool.and_eq_true, Bool.or_eq_true, decide_eq_true_eq] at h1 h2 h3
    exact ⟨h1.1, h1.2, h2.1, h2.2.1, h2.2.2, h3, fields_each _ _ h4, meths_each _ _ h⟩
  · rw [if_neg h4] at h; exact absurd h h4
theorem slot_size {s : ByteArray} (h : slotB s = true) : s.size ≤ 67 := by
  unfold slotB at h
  simp only [Bool.or_eq_true, beq_iff_eq] at h
  have hl : s.size = s.toList.length := by rw [Lib.toList_data, ← D.size_len]
  rcases h with h | h | h
  · rw [hl, h]; decide
  · rw [hl, h]; decide
  · exact field_size h
theorem method_size {s : ByteArray} (h : methodB s = true) : s.size ≤ 256 := by
  unfold methodB at h
  simp only [Bool.and_eq_true, decide_eq_true_eq] at h
  exact h.2
theorem MOk.small {m : MD} (h : MOk m) : m.Small := by
  refine ⟨by have := name_size h.nm; omega, by have := method_size h.ds; omega, fun x hx => ?_, fun x hx => ⟨fun s hs => ?_, fun s hs => ?_⟩⟩
  · have := h.hs x hx
    unfold handB at this
    simp only [Bool.and_eq_true] at this
    have := name_size this.2.2.2
    omega
  · have := h.ty x hx
    unfold slotsB at this
    simp only [Bool.and_eq_true, List.all_eq_true] at this
    have := slot_size (this.1 s hs)
    omega
  · have := h.ty x hx
    unfold slotsB at this
    simp only [Bool.and_eq_true, List.all_eq_true] at this
    have := slot_size (this.2 s hs)
    omega
theorem KOk.small {k : KD} (h : KOk k) : k.Small := by
  refine ⟨by have := name_size h.nm; omega, ?_, fun x hx => ?_, fun x hx => (h.ms x hx).small⟩
  · rcases h.sup with h | h
    · have := empty_size h; omega
    · have := name_size h; omega
  · have := h.fs x hx
    exact ⟨by have := name_size this.1; omega, by have := field_size this.2; omega⟩
theorem flat_len {α : Type} (f : α → List Int) (n : Nat) : ∀ (l : List α), (∀ x ∈ l, (f x).length ≤ n) → (l.flatMap f).length ≤ l.length * n
  | [], _ => by simp
  | x :: l, h => by
    rw [List.flatMap_cons, List.length_append, List.length_cons, Nat.add_mul]
    have h1 := h x (by simp)
    have h2 := flat_len f n l (fun y hy => h y (by simp [hy]))
    omega
theorem flat_bytes {α : Type} (f : α → List Int) (l : List α) (h : ∀ x ∈ l, AllBytes (f x)) : AllBytes (l.flatMap f) := by
  intro y hy
  obtain ⟨x, hx, hy⟩ := List.mem_flatMap.1 hy
  exact h x hx y hy
theorem texts_len (l : List ByteArray) (h : l.length ≤ 16) : (textsO l).length ≤ 4129 := by
  unfold textsO
  have := flat_len wtextZ 258 l (fun x _ => wtextZ_len x)
  rw [List.length_append, be_len]; omega
theorem frame_len {f : RD} (h : sizeB f = true) : (frameO f).length ≤ 8260 := by
  unfold sizeB at h
  simp only [Bool.and_eq_true, decide_eq_true_eq] at h
  have h1 := texts_len f.loc h.1
  have h2 := texts_len f.stk h.2
  unfold frameO
  rw [List.length_append, List.length_append, be_len]; omega
theorem hand_len (h : HD) : (handO h).length ≤ 264 := by
  unfold handO
  have := wtextZ_len h.ty
  simp only [List.length_append, be_len]; omega
theorem meth_len {m : MD} (h : MOk m) : (methO m).length ≤ 600000 := by
  have h1 := wtextZ_len m.nm
  have h2 := wtextZ_len m.ds
  have h3 := flat_len handO 264 m.hs (fun x _ => hand_len x)
  have h4 := flat_len frameO 8260 m.rs (fun x hx => frame_len (h.sz x hx))
  have h5 := h.code; have h6 := h.hl; have h7 := h.rl
  have h8 : m.hs.length * 264 ≤ 64 * 264 := Nat.mul_le_mul_right _ h6
  have h9 : m.rs.length * 8260 ≤ 64 * 8260 := Nat.mul_le_mul_right _ h7
  unfold methO handsO framesO
  simp only [List.length_append, be_len]; omega
theorem class_len {k : KD} (h : KOk k) : (classO k).length ≤ 100000000 := by
  have h1 := wtextZ_len k.nm
  have h2 := wtextZ_len k.sup
  have h3 := flat_len fieldO 517 k.fs (fun x _ => by unfold fieldO; have := wtextZ_len x.nm; have := wtextZ_len x.ds; simp only [List.length_append, be_len]; omega)
  have h4 := flat_len methO 600000 k.ms (fun x hx => meth_len (h.ms x hx))
  have h5 := ents_len k.pool
  have h6 := h.pl; have h7 := h.fl; have h8 := h.ml
  unfold classO fieldsO methsO poolZ
  simp only [List.length_append, be_len, List.length_cons, List.length_nil]; omega
/-- The code of methods is bytes. -/
def KD.Bytes (k : KD) : Prop := ∀ m ∈ k.ms, AllBytes m.code
theorem texts_bytes (l : List ByteArray) : AllBytes (textsO l) := AllBytes.append (be_bytes _ _) (flat_bytes _ _ fun x _ => wtextZ_bytes x)
theorem frame_bytes (f : RD) : AllBytes (frameO f) := AllBytes.append (AllBytes.append (be_bytes _ _) (texts_bytes _)) (texts_bytes _)
theorem hand_bytes (h : HD) : AllBytes (handO h) := AllBytes.append (AllBytes.append (AllBytes.append (be_bytes _ _) (be_bytes _ _)) (be_bytes _ _)) (wtextZ_bytes _)
theorem meth_bytes (m : MD) (h : AllBytes m.code) : AllBytes (methO m) := by
  unfold methO handsO framesO
  repeat' apply AllBytes.append
  all_goals first
    | exact wtextZ_bytes _
    | exact be_bytes _ _
    | exact h
    | exact flat_bytes _ _ fun x _ => hand_bytes x
    | exact flat_bytes _ _ fun x _ => frame_bytes x
theorem class_bytes (k : KD) (h : k.Bytes) : AllBytes (classO k) := by
  unfold classO fieldsO methsO poolZ
  repeat' apply AllBytes.append
  all_goals first
    | exact wtextZ_bytes _
    | exact be_bytes _ _
    | exact ents_bytes _
    | exact flat_bytes _ _ fun x hx => meth_bytes x (h x hx)
    | exact flat_bytes _ _ fun x _ => AllBytes.append (AllBytes.append (wtextZ_bytes _) (wtextZ_bytes _)) (be_bytes _ _)
    | (intro x hx; simp at hx; omega)
theorem ClassV.bytes {w : World} {v : Value} {k : KD} (h : ClassV w v k) : k.Bytes := by
  obtain ⟨_, _, _, _, _, _, _, _, _, _, _, h3⟩ := h
  obtain ⟨_, _, rows, _, h4⟩ := h3
  intro m hm
  obtain ⟨i, hi⟩ := List.getElem?_of_mem hm
  obtain ⟨_, _, _, _, _, _, _, _, _, hv, _, _⟩ := h4 i m hi
  obtain ⟨_, _, _, _, _, hb, _⟩ := hv
  exact hb
theorem KOk.pool0 {k : KD} (h : KOk k) : wcode k.pool = 0 := by
  unfold wcode
  rw [if_neg (by have := h.pl; omega), if_pos h.pool]

/-- How Encode answers, by what Right says and what there is to write. -/
def EncA (Z : Int) (O : List Int) (B : Nat) (e : Ending) (w' : World) : Prop :=
  (Z ≠ 0 ∧ e = .returned (.tuple #[.slice none 0 0, .int .i64 Z])) ∨
  (Z = 0 ∧ 32768 < O.length ∧ e = .returned (.tuple #[.slice none 0 0, .int .i64 3])) ∨
  (Z = 0 ∧ O.length ≤ 32768 ∧ ∃ v, e = .returned (.tuple #[v, .int .i64 0]) ∧ w'.ownsRow B 5 1 v O.length (bcells O))
theorem wr_new (w0 w : World) (hb : Below w0.heap.size w0 w) (hT : Tabs w0) (h2 : 2 ≤ w0.heap.size) : WR w0 w.heap.size (w.alloc (.cells #[.slice none 0 0] 137)) [] :=
  ⟨⟨_, newW_is w _⟩, hb.size, hb.trans ((balloc w _).mono hb.size), hT, h2⟩
end Go.Proofs.YthagaldpopnoeaaGreatDoor

/- Encode: walked. -/
namespace Go.Proofs.YthagaldpopnoeaaGreatDoor
open Go.RowKit D

theorem own_mono {w : World} {B B' : Nat} {v : Value} {n : Nat} {xs : List Value} (h : w.ownsRow B' 5 1 v n xs) (hB : B ≤ B') : w.ownsRow B 5 1 v n xs := by
  rcases h with ⟨h1, h2⟩
  exact ⟨h1, by
    rcases h2 with h2 | ⟨g, cap, cur, e, hg, r⟩
    · exact .inl h2
    · exact .inr ⟨g, cap, cur, e, Nat.le_trans hB hg, r⟩⟩
set_option maxRecDepth 8000 in
set_option maxHeartbeats 4000000 in
theorem encode_class (k : KD) (v : Value) (w : World) (hv : ClassV w v k) (hT : Tabs w) (h2 : 2 ≤ w.heap.size) : Calls Tryz.prog 14 #[v] w fun e w' => Below w.heap.size w w' ∧ EncA (rightZ k) (classO k) w.heap.size e w' := by
  obtain ⟨vo1, vc1, vo2, vc2, vo3, vc3, hve, _⟩ := id hv
  have hR := fun o => D.hidIt (right_class k v (w.alloc o) (hv.below (balloc _ _)))
  have hNW := fun W => D.hidIt (newW_any W)
  have hCL : rightZ k = 0 → ∀ (W : World) (pw : Nat), WR w pw W [] → Hid (Calls Tryz.prog 42 #[wv pw, v] W fun e w' => e = .returned (.tuple #[]) ∧ WR w pw w' (classO k) ∧ WS pw W w') := fun h0 W pw hW =>
    wr_class w pw k v hv (class_ok h0).small (class_ok h0).pool0 W hW (by have := class_len (class_ok h0); omega)
  have hDN : rightZ k = 0 → ∀ (W : World) (pw : Nat), WR w pw W (classO k) → Hid (Calls Tryz.prog 43 #[ptr pw] W fun e w' => Below W.heap.size W w' ∧ ∃ v', e = .returned v' ∧ w'.ownsRow W.heap.size 5 1 v' (classO k).length (bcells (classO k))) := fun h0 W pw hW => by
    obtain ⟨u, hI⟩ := hW.1
    exact done_any _ pw u _ W hI (class_bytes k hv.bytes) (by have := class_len (class_ok h0); omega)
  have HCL := D.hidIt hCL
  have HDN := D.hidIt hDN
  clear hCL hDN hv
  have HT := D.hidIt hT
  clear hT
  generalize rightZ k = Z at *
  generalize classO k = O at *
  subst hve
  generalize k.pool.length = n1 at *
  generalize k.fs.length = n2 at *
  generalize k.ms.length = n3 at *
  generalize k.nm = nm at *
  generalize k.sup = sup at *
  have B0 := balloc w (.cells #[.string nm, .string sup, .slice vo1 n1 vc1, .slice vo2 n2 vc2, .slice vo3 n3 vc3] 33)
  have C0 := heap_alloc_new w (.cells #[.string nm, .string sup, .slice vo1 n1 vc1, .slice vo2 n2 vc2, .slice vo3 n3 vc3] 33)
  have cells : ∀ W : World, W.heap[w.heap.size]? = some (.cells #[.string nm, .string sup, .slice vo1 n1 vc1, .slice vo2 n2 vc2, .slice vo3 n3 vc3] 33 (0, 0)) → (W.cell? ⟨w.heap.size, 0, none⟩ = some (.string nm) ∧ W.cell? ⟨w.heap.size, 1, none⟩ = some (.string sup) ∧ W.cell? ⟨w.heap.size, 2, none⟩ = some (.slice vo1 n1 vc1) ∧ W.cell? ⟨w.heap.size, 3, none⟩ = some (.slice vo2 n2 vc2) ∧ W.cell? ⟨w.heap.size, 4, none⟩ = some (.slice vo3 n3 vc3)) := fun W h => ⟨cell_row h 0 rfl, cell_row h 1 rfl, cell_row h 2 rfl, cell_row h 3 rfl, cell_row h 4 rfl⟩
  have KELLS := D.hidIt cells
  have HC0 := D.hidIt C0
  clear cells C0
  go_enter Tryz.func14, Tryz.ntmps14
  go_wp2_with fail
  refine (hR _).out.mono ?_
  rintro e w1 ⟨rfl, b1⟩
  cases hz : Z != 0
  rotate_left
  · have hz' : Z ≠ 0 := by simpa using hz
    have HZ := D.hidIt hz'
    clear hz'
    go_wp2
    go_ret2
    exact ⟨next B0 b1, .inl ⟨HZ.out, rfl⟩⟩
  have hz' : Z = 0 := by simpa using hz
  have HZ := D.hidIt hz'
  subst hz'
  have gCL := HCL.out rfl
  have gDN := HDN.out rfl
  clear HCL HDN hR
  go_wp2_with fail
  refine (hNW _).out.mono ?_
  rintro e w2 ⟨rfl, hw2⟩
  subst hw2
  have b2 := next b1 (balloc w1 (.cells #[.slice none 0 0] 137))
  have HW2 := D.hidIt (wr_new w w1 (next B0 b1) HT.out h2)
  have hlt2 := HW2.out.lt
  have b3 := next b2 (balloc _ (.cells #[.pointer (some ⟨w1.heap.size, 0, none⟩)] 92))
  have HW3 := D.hidIt (HW2.out.below (balloc _ (.cells #[.pointer (some ⟨w1.heap.size, 0, none⟩)] 92)))
  have bx := Keeps.new HW2.out (.cells #[.pointer (some ⟨w1.heap.size, 0, none⟩)] 92)
  rw [show (w1.alloc (.cells #[.slice none 0 0] 137)).heap.size = w1.heap.size + 1 by simp] at bx
  have K1 := D.hidIt bx
  obtain ⟨j0, j1, j2, j3, j4⟩ := KELLS.out _ ((b1.block _ (by simp)).trans HC0.out)
  have i0 := cell_later (balloc w1 (.cells #[.slice none 0 0] 137)) j0
  have i1 := cell_later (balloc w1 (.cells #[.slice none 0 0] 137)) j1
  have i2 := cell_later (balloc w1 (.cells #[.slice none 0 0] 137)) j2
  have i3 := cell_later (balloc w1 (.cells #[.slice none 0 0] 137)) j3
  have i4 := cell_later (balloc w1 (.cells #[.slice none 0 0] 137)) j4
  replace i0 := cell_later (balloc _ (.cells #[.pointer (some ⟨w1.heap.size, 0, none⟩)] 92)) i0
  replace i1 := cell_later (balloc _ (.cells #[.pointer (some ⟨w1.heap.size, 0, none⟩)] 92)) i1
  replace i2 := cell_later (balloc _ (.cells #[.pointer (some ⟨w1.heap.size, 0, none⟩)] 92)) i2
  replace i3 := cell_later (balloc _ (.cells #[.pointer (some ⟨w1.heap.size, 0, none⟩)] 92)) i3
  replace i4 := cell_later (balloc _ (.cells #[.pointer (some ⟨w1.heap.size, 0, none⟩)] 92)) i4
  have HB3 := D.hidIt (next B0 b3)
  clear bx j0 j1 j2 j3 j4 b1 b2 b3 hlt2 hNW
  have gC := gCL _ _ HW3.out
  unfold wv at gC
  clear gCL
  go_wp2_with fail
  refine gC.out.mono ?_
  rintro e w4 ⟨rfl, h4, s4⟩
  have H4 := D.hidIt h4
  have S4 := D.hidIt s4
  clear h4 s4 gC i0 i1 i2 i3 i4
  have k1 := K1.out.step S4.out
  have a1 := cell_row k1.1 0 rfl
  clear k1
  have gD := gDN _ _ H4.out
  unfold ptr at gD
  clear gDN
  go_wp2_with fail
  refine gD.out.mono ?_
  rintro e w5 ⟨b5, v5, rfl, o5⟩
  obtain ⟨ao5, cp5, rfl⟩ := own_slice o5
  have hle := H4.out.bel.size
  have O5 : Hid (w5.ownsRow w.heap.size 5 1 (.slice ao5 O.length cp5) O.length (bcells O)) := own_mono o5 hle
  have HB5 := D.hidIt (H4.out.bel.trans (b5.mono hle))
  clear o5 b5 a1 gD
  by_cases hq : 32768 < O.length
  · have hq' : (32768 : Int) < (O.length : Int) := by omega
    have HQ := D.hidIt hq
    clear hq
    generalize hnO : O.length = nO at *
    have HN := D.hidIt hnO
    clear hnO
    go_wp2
    go_ret2
    exact ⟨HB5.out, .inr (.inl ⟨rfl, by rw [HN.out]; exact HQ.out, rfl⟩)⟩
  · have hq' : ¬ (32768 : Int) < (O.length : Int) := by omega
    have HQ := D.hidIt (Nat.le_of_not_lt hq)
    clear hq
    generalize hnO : O.length = nO at *
    have HN := D.hidIt hnO
    clear hnO
    go_wp2
    go_ret2
    exact ⟨HB5.out, .inr (.inr ⟨rfl, by rw [HN.out]; exact HQ.out, _, rfl, by rw [HN.out]; exact O5.out⟩)⟩
end Go.Proofs.YthagaldpopnoeaaGreatDoor
