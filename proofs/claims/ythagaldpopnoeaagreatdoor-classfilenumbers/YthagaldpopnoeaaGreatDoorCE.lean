/- A class, written; Encode: walked. -/
import Derived.Test.YthagaldpopnoeaaGreatDoorCZ
import Derived.Lib.SlBytesConst
namespace Go.Proofs.YthagaldpopnoeaaGreatDoor
open Go.RowKit D

def KD.Small (k : KD) : Prop := k.nm.size ≤ 17179869184 ∧ k.sup.size ≤ 17179869184 ∧ (∀ f ∈ k.fs, f.nm.size ≤ 17179869184 ∧ f.ds.size ≤ 17179869184) ∧ ∀ m ∈ k.ms, m.Small
theorem cview_of {w0 W : World} {ao : Option Addr} {c : Nat} {l : List CD} (h : LAt 5 ConstR w0 ao c l) (hb : Below w0.heap.size w0 W) : CView W (.slice ao l.length c) l := by
  obtain ⟨h1, h2, rows, h3, h4⟩ := h.below hb (fun _ _ h => h)
  refine ⟨ao, c, rfl, h1, h2, fun x hx => ?_, ?_⟩
  · obtain ⟨i, hi⟩ := List.getElem?_of_mem hx
    exact (h4 i x hi).2
  · by_cases hn : 0 < l.length
    · obtain ⟨b, off, e, _, hc⟩ := h3 hn
      refine .inr ⟨b, off, e, fun i x hx => ?_⟩
      have hi := (List.getElem?_eq_some_iff.1 hx).1
      have hr := (h4 i x hx).1
      have := hc i hi
      rw [hr] at this
      exact ⟨this 0 _ rfl, this 1 _ rfl, this 2 _ rfl, this 3 _ rfl, this 4 _ rfl⟩
    · exact .inl (List.length_eq_zero_iff.1 (by omega))
theorem wr_pool (w0 : World) (pw : Nat) (l : List CD) (ao : Option Addr) (c : Nat) (hL : LAt 5 ConstR w0 ao c l) (L : List Int) (w : World) (h : WR w0 pw w L) (hlen : L.length ≤ 137438953472) :
    Calls Tryz.prog 89 #[ptr pw, .slice ao l.length c] w fun e w' => e = .returned (.int .i64 (wcode l)) ∧ WR w0 pw w' (L ++ wput l) ∧ WS pw w w' := by
  obtain ⟨v, hI⟩ := h.1
  refine (write_any _ pw v _ L l w hI h.bel.size h.2.2.2.2 hlen h.tabs (cview_of hL h.bel) ?_).mono ?_
  · intro hne k e
    obtain ⟨_, _, rows, h3, _⟩ := hL
    obtain ⟨b, off, e', hlt, _⟩ := h3 (by cases l with | nil => exact absurd rfl hne | cons a b => simp)
    subst e'
    have e : b = k := by simpa [Value.ownBlock] using e
    subst e
    have hp := h.2.1
    refine ⟨by omega, fun e => ?_⟩
    have := (hI.own.lt _ e.symm).1
    omega
  · rintro e w' ⟨rfl, v', hI', st⟩
    exact ⟨rfl, h.step hI hI' st, WS.of_step hI hI' st⟩
set_option maxRecDepth 8000 in
set_option maxHeartbeats 4000000 in
theorem wr_class (w0 : World) (pw : Nat) (k : KD) (v : Value) (hv : ClassV w0 v k) (hs : k.Small) (hc : wcode k.pool = 0) (W : World) (hW : WR w0 pw W []) (hlen : (classO k).length ≤ 137438953472) :
    Calls Tryz.prog 42 #[wv pw, v] W fun e w' => e = .returned (.tuple #[]) ∧ WR w0 pw w' (classO k) ∧ WS pw W w' := by
  obtain ⟨o1, c1, o2, c2, o3, c3, rfl, _, _, k1, k2, k3⟩ := hv
  obtain ⟨z1, z2, z3, z4⟩ := hs
  unfold classO at *
  have g1 := fun W vb (h : WR w0 pw W []) (hv : View W vb [202, 254, 186, 190, 0, 1]) => D.hidIt (wr_bytes w0 pw [] [202, 254, 186, 190, 0, 1] vb W h hv (by simp))
  have g2 := fun W (h : WR w0 pw W ([] ++ [202, 254, 186, 190, 0, 1])) => D.hidIt (wr_pool w0 pw k.pool o1 c1 k1 _ W h (by simp))
  rw [show wput k.pool = poolZ k.pool by unfold wput; rw [if_pos hc], hc] at g2
  have g3 := fun W (h : WR w0 pw W ([] ++ [202, 254, 186, 190, 0, 1] ++ poolZ k.pool)) => D.hidIt (wr_text w0 pw _ k.nm W h (by simp only [List.length_append, List.nil_append] at hlen ⊢; omega) z1)
  have g4 := fun W (h : WR w0 pw W ([] ++ [202, 254, 186, 190, 0, 1] ++ poolZ k.pool ++ wtextZ k.nm)) => D.hidIt (wr_text w0 pw _ k.sup W h (by simp only [List.length_append, List.nil_append] at hlen ⊢; omega) z2)
  have g5 := fun W (h : WR w0 pw W ([] ++ [202, 254, 186, 190, 0, 1] ++ poolZ k.pool ++ wtextZ k.nm ++ wtextZ k.sup)) => D.hidIt (wr_listF w0 pw fieldO k.fs o2 c2 k2 (fun x hx => one_field w0 pw x (z3 x hx)) _ W h (by have := hlen; unfold fieldsO at this; simp only [List.length_append, List.nil_append] at this ⊢; omega))
  have g6 := fun W (h : WR w0 pw W ([] ++ [202, 254, 186, 190, 0, 1] ++ poolZ k.pool ++ wtextZ k.nm ++ wtextZ k.sup ++ fieldsO k.fs)) => D.hidIt (wr_listM w0 pw methO k.ms o3 c3 k3 (fun x hx => one_meth w0 pw x (z4 x hx)) _ W h (by have := hlen; unfold methsO at this; simp only [List.length_append, List.nil_append] at this ⊢; omega))
  change ∀ W, _ → Hid (Calls _ _ _ _ fun e w' => _ ∧ WR _ _ _ (_ ++ fieldsO k.fs) ∧ _) at g5
  change ∀ W, _ → Hid (Calls _ _ _ _ fun e w' => _ ∧ WR _ _ _ (_ ++ methsO k.ms) ∧ _) at g6
  clear hlen z1 z2 z3 z4 k1 k2 k3 hc
  generalize wtextZ k.nm = X1 at *
  generalize wtextZ k.sup = X2 at *
  generalize fieldsO k.fs = X3 at *
  generalize methsO k.ms = X4 at *
  generalize poolZ k.pool = X5 at *
  generalize k.pool.length = n1 at *
  generalize k.fs.length = n2 at *
  generalize k.ms.length = n3 at *
  obtain ⟨nm, sup, pool, fs, ms⟩ := k
  simp only at *
  have hA := hW.below (balloc W (.cells #[.pointer (some ⟨pw, 0, none⟩)] 92))
  have hB := hA.below (balloc _ (.cells #[.string nm, .string sup, .slice o1 n1 c1, .slice o2 n2 c2, .slice o3 n3 c3] 33))
  have bx1 := (Keeps.new hW (.cells #[.pointer (some ⟨pw, 0, none⟩)] 92)).step (WS.of_below hA.lt (balloc _ (.cells #[.string nm, .string sup, .slice o1 n1 c1, .slice o2 n2 c2, .slice o3 n3 c3] 33)))
  have bx2 := Keeps.new hA (.cells #[.string nm, .string sup, .slice o1 n1 c1, .slice o2 n2 c2, .slice o3 n3 c3] 33)
  rw [show (W.alloc (.cells #[.pointer (some ⟨pw, 0, none⟩)] 92)).heap.size = W.heap.size + 1 by simp] at bx2
  have S0 := D.hidIt ((WS.of_below hW.lt (balloc W (.cells #[.pointer (some ⟨pw, 0, none⟩)] 92))).trans (WS.of_below hA.lt (balloc _ (.cells #[.string nm, .string sup, .slice o1 n1 c1, .slice o2 n2 c2, .slice o3 n3 c3] 33))))
  have HB := D.hidIt hB
  have K1 := D.hidIt bx1
  have K2 := D.hidIt bx2
  clear hA hB hW bx1 bx2
  unfold wv ptr at *
  have kc : Sem.run Tryz.prog (convert 22 22 (.slice (some ⟨W.heap.size + 1 + 1, 0, none⟩) 6 6)) (((W.alloc (.cells #[.pointer (some ⟨pw, 0, none⟩)] 92)).alloc (.cells #[.string nm, .string sup, .slice o1 n1 c1, .slice o2 n2 c2, .slice o3 n3 c3] 33)).alloc (.cells #[.int .u8 202, .int .u8 254, .int .u8 186, .int .u8 190, .int .u8 0, .int .u8 1] 5)) = .ok (.slice (some ⟨W.heap.size + 1 + 1, 0, none⟩) 6 6) (((W.alloc (.cells #[.pointer (some ⟨pw, 0, none⟩)] 92)).alloc (.cells #[.string nm, .string sup, .slice o1 n1 c1, .slice o2 n2 c2, .slice o3 n3 c3] 33)).alloc (.cells #[.int .u8 202, .int .u8 254, .int .u8 186, .int .u8 190, .int .u8 0, .int .u8 1] 5 (6, 7))) := by
    have := Lib.run_convert_bytes_const (P := Tryz.prog) ((W.alloc (.cells #[.pointer (some ⟨pw, 0, none⟩)] 92)).alloc (.cells #[.string nm, .string sup, .slice o1 n1 c1, .slice o2 n2 c2, .slice o3 n3 c3] 33)) 22 5 #[.int .u8 202, .int .u8 254, .int .u8 186, .int .u8 190, .int .u8 0, .int .u8 1] 6 6 Tryz.underlying22 Tryz.underlying5
    simpa using this
  have HV : Hid (View (((W.alloc (.cells #[.pointer (some ⟨pw, 0, none⟩)] 92)).alloc (.cells #[.string nm, .string sup, .slice o1 n1 c1, .slice o2 n2 c2, .slice o3 n3 c3] 33)).alloc (.cells #[.int .u8 202, .int .u8 254, .int .u8 186, .int .u8 190, .int .u8 0, .int .u8 1] 5 (6, 7))) (.slice (some ⟨W.heap.size + 1 + 1, 0, none⟩) 6 6) [202, 254, 186, 190, 0, 1]) := by
    refine ⟨_, _, rfl, by decide, by unfold maxLen; omega, by intro x hx; simp at hx; omega, .inr ⟨_, _, rfl, ?_⟩⟩
    have hh : (((W.alloc (.cells #[.pointer (some ⟨pw, 0, none⟩)] 92)).alloc (.cells #[.string nm, .string sup, .slice o1 n1 c1, .slice o2 n2 c2, .slice o3 n3 c3] 33)).alloc (.cells #[.int .u8 202, .int .u8 254, .int .u8 186, .int .u8 190, .int .u8 0, .int .u8 1] 5 (6, 7))).heap[W.heap.size + 1 + 1]? = some (.cells #[.int .u8 202, .int .u8 254, .int .u8 186, .int .u8 190, .int .u8 0, .int .u8 1] 5 (6, 7)) := by
      have := heap_alloc_new ((W.alloc (.cells #[.pointer (some ⟨pw, 0, none⟩)] 92)).alloc (.cells #[.string nm, .string sup, .slice o1 n1 c1, .slice o2 n2 c2, .slice o3 n3 c3] 33)) (.cells #[.int .u8 202, .int .u8 254, .int .u8 186, .int .u8 190, .int .u8 0, .int .u8 1] 5 (6, 7))
      simpa using this
    intro j x hx
    rw [cell_of_row _ _ _ _ 5 (6, 7) hh]
    rcases j with _ | _ | _ | _ | _ | _ | j <;> simp at hx <;> subst hx <;> rfl
  have B3 := D.hidIt (balloc ((W.alloc (.cells #[.pointer (some ⟨pw, 0, none⟩)] 92)).alloc (.cells #[.string nm, .string sup, .slice o1 n1 c1, .slice o2 n2 c2, .slice o3 n3 c3] 33)) (.cells #[.int .u8 202, .int .u8 254, .int .u8 186, .int .u8 190, .int .u8 0, .int .u8 1] 5 (6, 7)))
  go_enter Tryz.func42, Tryz.ntmps42
  go_wp2_with fail
  refine (g1 _ _ (HB.out.below B3.out) HV.out).out.mono ?_
  replace S0 := D.hidIt (S0.out.trans (WS.of_below HB.out.lt B3.out))
  replace K1 := D.hidIt (K1.out.step (WS.of_below HB.out.lt B3.out))
  replace K2 := D.hidIt (K2.out.step (WS.of_below HB.out.lt B3.out))
  clear HV B3 kc
  rintro e w1 ⟨rfl, h1, s1⟩
  have H1 := D.hidIt h1
  have S1 := D.hidIt s1
  clear h1 s1 g1
  have k1 := K1.out.step (S1.out)
  have k2 := K2.out.step (S1.out)
  have a1 := cell_row k1.1 0 rfl
  have b2 := cell_row k2.1 2 rfl
  clear k1 k2
  go_wp2_with fail
  refine (g2 _ H1.out).out.mono ?_
  rintro e w2 ⟨rfl, h2, s2⟩
  have H2 := D.hidIt h2
  have S2 := D.hidIt s2
  clear a1 b2
  clear h2 s2 g2
  have k1 := K1.out.step ((S1.out).trans S2.out)
  have k2 := K2.out.step ((S1.out).trans S2.out)
  have a1 := cell_row k1.1 0 rfl
  have b0 := cell_row k2.1 0 rfl
  clear k1 k2
  go_wp2_with fail
  refine (g3 _ H2.out).out.mono ?_
  rintro e w3 ⟨rfl, h3, s3⟩
  have H3 := D.hidIt h3
  have S3 := D.hidIt s3
  clear a1 b0
  clear h3 s3 g3
  have k1 := K1.out.step (((S1.out).trans S2.out).trans S3.out)
  have k2 := K2.out.step (((S1.out).trans S2.out).trans S3.out)
  have a1 := cell_row k1.1 0 rfl
  have b1 := cell_row k2.1 1 rfl
  clear k1 k2
  go_wp2_with fail
  refine (g4 _ H3.out).out.mono ?_
  rintro e w4 ⟨rfl, h4, s4⟩
  have H4 := D.hidIt h4
  have S4 := D.hidIt s4
  clear a1 b1
  clear h4 s4 g4
  have k1 := K1.out.step ((((S1.out).trans S2.out).trans S3.out).trans S4.out)
  have k2 := K2.out.step ((((S1.out).trans S2.out).trans S3.out).trans S4.out)
  have a1 := cell_row k1.1 0 rfl
  have b3 := cell_row k2.1 3 rfl
  clear k1 k2
  go_wp2_with fail
  refine (g5 _ H4.out).out.mono ?_
  rintro e w5 ⟨rfl, h5, s5⟩
  have H5 := D.hidIt h5
  have S5 := D.hidIt s5
  clear a1 b3
  clear h5 s5 g5
  have k1 := K1.out.step (((((S1.out).trans S2.out).trans S3.out).trans S4.out).trans S5.out)
  have k2 := K2.out.step (((((S1.out).trans S2.out).trans S3.out).trans S4.out).trans S5.out)
  have a1 := cell_row k1.1 0 rfl
  have b4 := cell_row k2.1 4 rfl
  clear k1 k2
  go_wp2_with fail
  refine (g6 _ H5.out).out.mono ?_
  rintro e w6 ⟨rfl, h6, s6⟩
  have H6 := D.hidIt h6
  have S6 := D.hidIt s6
  clear h6 s6 g6
  go_wp2
  go_end0
  exact ⟨rfl, H6.out, S0.out.trans (((((S1.out.trans S2.out).trans S3.out).trans S4.out).trans S5.out).trans S6.out)⟩
end Go.Proofs.YthagaldpopnoeaaGreatDoor
