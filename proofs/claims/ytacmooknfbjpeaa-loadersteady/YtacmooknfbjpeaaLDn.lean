/- join, Agree: walked. -/
import Derived.Test.YtacmooknfbjpeaaLCn
import Derived.Deep.OwnRows
namespace Go.Proofs.Ytacmooknfbjpeaa.J
open Go.RowKit Go.MapKept Go.ChangeMaps
set_option linter.unusedVariables false
variable {n0 : Nat} {w : World} {H : LB} {S : Ls}

def updP : List (ByteArray × List Nat) → ByteArray → (List Nat → List Nat) → List (ByteArray × List Nat)
  | [], _, _ => []
  | p :: l, s, f => if s == p.1 then (p.1, f p.2) :: l else p :: updP l s f
theorem upd_at (s : ByteArray) : ∀ (l : List (ByteArray × List Nat)) (R : List Nat), alook l s = some R → ∃ (i : Nat) (nm : ByteArray), l[i]? = some (nm, R) ∧ (∀ pr q, slook (parC pr q l) s = some (.slice (some ⟨pr (q + i), 0, none⟩) 16 16)) ∧ ∀ f, updP l s f = l.set i (nm, f R)
  | [], R, h => by simp [alook] at h
  | p :: l, R, h => by
    unfold alook at h
    split at h
    · rename_i hs
      cases h
      exact ⟨0, p.1, rfl, fun pr q => by unfold parC slook; rw [if_pos hs]; rfl, fun f => by unfold updP; rw [if_pos hs]; rfl⟩
    · rename_i hs
      obtain ⟨i, nm, h1, h2, h3⟩ := upd_at s l R h
      refine ⟨i + 1, nm, by simpa using h1, fun pr q => ?_, fun f => ?_⟩
      · unfold parC slook
        rw [if_neg hs, h2 pr (q + 1), show q + 1 + i = q + (i + 1) by omega]
      · unfold updP
        rw [if_neg hs, h3 f]
        rfl
theorem ba_refl (s : ByteArray) : (s == s) = true := by
  cases s
  exact beq_self_eq_true (α := Array UInt8) _
theorem alook_snoc {α : Type} (s : ByteArray) (x : α) : ∀ (l : List (ByteArray × α)), alook l s = none → alook (l ++ [(s, x)]) s = some x
  | [], _ => by
    show (if s == s then some x else none) = some x
    rw [if_pos (ba_refl s)]
  | p :: l, h => by
    unfold alook at h
    split at h
    · cases h
    · rename_i hs
      show (if s == p.1 then some p.2 else alook (l ++ [(s, x)]) s) = some x
      rw [if_neg hs]
      exact alook_snoc s x l h
/-- The first k numbers are filled in. -/
def fillN (k : Nat) : List Nat := (List.range 16).map fun i => if i < k then i else 0
theorem fillN_at (k : Nat) {i : Nat} (hi : i < 16) : ∃ x, (fillN k)[i]? = some x := ⟨_, List.getElem?_eq_getElem (by simp [fillN]; exact hi)⟩
theorem fillN_all : fillN 16 = List.range 16 := rfl
theorem fillN_set {k : Nat} (hk : k < 16) : (fillN k).set k k = fillN (k + 1) := by
  have : ∀ k : Fin 16, (fillN k.1).set k.1 k.1 = fillN (k.1 + 1) := by decide
  exact this ⟨k, hk⟩
theorem slook_snoc (s : ByteArray) (v : Value) : ∀ (l : List (ByteArray × Value)), slook l s = none → slook (l ++ [(s, v)]) s = some v
  | [], _ => by
    show (if s == s then some v else none) = some v
    rw [if_pos (ba_refl s)]
  | p :: l, h => by
    unfold slook at h
    split at h
    · cases h
    · rename_i hs
      show (if s == p.1 then some p.2 else slook (l ++ [(s, v)]) s) = some v
      rw [if_neg hs]
      exact slook_snoc s v l h
def Ls.with (S : Ls) (nm : ByteArray) : Ls := match alook S.ps nm with
  | some _ => S
  | none => ⟨S.each, S.ps ++ [(nm, List.range 16)]⟩
def Ls.join (S : Ls) (a b : Nat) (nm : ByteArray) : Ls := ⟨S.each, updP (S.with nm).ps nm fun R => joinR R a b⟩
theorem parC_snoc (pr : Nat → Nat) (x : ByteArray × List Nat) : ∀ (l : List (ByteArray × List Nat)) (q : Nat), parC pr q (l ++ [x]) = parC pr q l ++ [(x.1, .slice (some ⟨pr (q + l.length), 0, none⟩) 16 16)]
  | [], q => rfl
  | p :: l, q => by
    simp only [List.cons_append, parC, parC_snoc pr x l, List.length_cons]
    rw [show q + 1 + l.length = q + (l.length + 1) by omega]
theorem parC_pr {pr pr' : Nat → Nat} : ∀ (l : List (ByteArray × List Nat)) (q : Nat), (∀ k, q ≤ k → k < q + l.length → pr' k = pr k) → parC pr' q l = parC pr q l
  | [], q, h => rfl
  | p :: l, q, h => by
    simp only [List.length_cons] at h
    simp only [parC]
    rw [h q (Nat.le_refl _) (by omega), parC_pr l (q + 1) fun k h1 h2 => h k (by omega) (by omega)]
def LB.more (H : LB) (b : Nat) : LB := { H with np := H.np + 1, pr := fun k => if k = H.np then b else H.pr k }
/-- A new list of parents. -/
theorem LoV.newP {W : World} (h : LoV n0 w H S) (nm : ByteArray) (hb : Below w.heap.size w W) {g : Nat} (hg : w.heap.size ≤ g) (hB : Blk W g (ncells (List.range 16)).toArray 3) {o : Obj} (hm : SMap (setBlock W (H.mb 0) o) (H.mb 0) (parC H.pr 0 S.ps ++ [(nm, .slice (some ⟨g, 0, none⟩) 16 16)])) :
    LoV n0 (setBlock W (H.mb 0) o) (H.more g) ⟨S.each, S.ps ++ [(nm, List.range 16)]⟩ ∧ LStep H (H.more g) w (setBlock W (H.mb 0) o) := by
  have hV := h.below hb
  have h0 : (0 : Nat) < 2 * S.each.length + 1 := by omega
  have hm0 := (hV.maps 0 h0).2
  have hnp := h.np
  have ho : ∀ b, b ≠ H.mb 0 → (setBlock W (H.mb 0) o).heap[b]? = W.heap[b]? := fun b hb => setBlock_other W _ b o hb
  have hnb : ∀ {b : Nat} {row : Array Value} {t : TypeId}, Blk W b row t → b ≠ H.mb 0 := fun {b row t} c e => by
    obtain ⟨es, cl, hm, _⟩ := hm0
    unfold Blk at c
    rw [e, hm] at c
    cases c
  have pc : parC (H.more g).pr 0 (S.ps ++ [(nm, List.range 16)]) = parC H.pr 0 S.ps ++ [(nm, .slice (some ⟨g, 0, none⟩) 16 16)] := by
    rw [parC_snoc, parC_pr (pr := H.pr) S.ps 0 fun k _ h2 => by simp only [LB.more]; rw [if_neg (by omega)]]
    simp only [LB.more, Nat.zero_add]
    rw [if_pos hnp.symm]
  have hpr : ∀ i, i < S.ps.length → (H.more g).pr i = H.pr i := fun i hi => by simp only [LB.more]; rw [if_neg (by omega)]
  have hpl : ∀ i, i < S.ps.length → H.pr i < w.heap.size := fun i hi => by
    obtain ⟨_, L, _, c⟩ := h.prs i _ (List.getElem?_eq_getElem hi)
    exact c.lt
  refine ⟨⟨h.lo, hV.box.kept (ho _ (hnb hV.box)), ?_, h.nm, by simp [LB.more, hnp], ?_, h.inj, ?_, ?_, h.few, h.par⟩, ?_⟩
  · exact own_kept hV.eo fun b e => ho b fun e2 => own_notM hV.eo hm0 (e2 ▸ e)
  · intro k hk
    refine ⟨(h.maps k hk).1, ?_⟩
    by_cases e : k = 0
    · subst e
      unfold contM
      rw [if_pos rfl]
      simp only
      rw [pc]
      exact hm
    · have : contM (H.more g).pr ⟨S.each, S.ps ++ [(nm, List.range 16)]⟩ k = contM H.pr S k := by
        unfold contM
        rw [if_neg e, if_neg e]
      rw [this]
      exact (hV.maps k hk).2.kept (ho _ fun e2 => e (h.inj _ _ hk h0 e2))
  · intro i x e
    simp only at e
    rw [List.getElem?_append] at e
    split at e
    · rename_i hi
      obtain ⟨a, L, u, c⟩ := hV.prs i x e
      rw [hpr i hi]
      exact ⟨a, L, u, c.kept (ho _ (hnb c))⟩
    · rename_i hi
      cases hj : i - S.ps.length with
      | zero =>
        rw [hj] at e
        cases e
        have : (H.more g).pr i = g := by simp only [LB.more]; rw [if_pos (by omega)]
        rw [this]
        exact ⟨by have := (h.lt (.inl rfl)); omega, _, UF.start, hB.kept (ho _ (hnb hB))⟩
      | succ j => rw [hj] at e; simp at e
  · intro i j hi hj e
    simp only [List.length_append, List.length_cons, List.length_nil] at hi hj
    by_cases i1 : i < S.ps.length
    · have := hpl i i1
      rw [hpr i i1] at e
      by_cases j1 : j < S.ps.length
      · rw [hpr j j1] at e
        exact h.prj _ _ i1 j1 e
      · simp only [LB.more] at e
        rw [if_pos (by omega)] at e
        omega
    · by_cases j1 : j < S.ps.length
      · have := hpl j j1
        rw [hpr j j1] at e
        simp only [LB.more] at e
        rw [if_pos (by omega)] at e
        omega
      · omega
  · refine ⟨hb.os, hb.tape, hb.output, by simp [setBlock]; exact hb.size, fun b h1 h2 => (ho b fun e => h2 (.inr (.inr (.inl ⟨0, by rw [h.nm]; exact h0, e.symm⟩)))).trans (hb.block b h1), rfl, fun b e => ?_⟩
    rcases e with e | e | e | ⟨k, hk, e⟩
    · exact .inl (.inl e)
    · exact .inl (.inr (.inl e))
    · exact .inl (.inr (.inr (.inl e)))
    · by_cases hk2 : k < H.np
      · rw [hpr k (by omega)] at e
        exact .inl (.inr (.inr (.inr ⟨k, hk2, e⟩)))
      · refine .inr ?_
        have : k < H.np + 1 := hk
        simp only [LB.more] at e
        rw [if_pos (by omega)] at e
        omega
/-- The end of join: both roots are known. -/
theorem LoV.joined {i : Nat} {nm : ByteArray} {R L : List Nat} {a b : Nat} (h : LoV n0 w H S) (hi : S.ps[i]? = some (nm, R)) (u : UF L R) (hb : Blk w (H.pr i) (ncells L).toArray 3) (ha : a < 16) (hb2 : b < 16) :
    LoV n0 (w.setCell ⟨H.pr i, rtN R a, none⟩ (.int .i64 (rtN R b : Int))) H ⟨S.each, S.ps.set i (nm, joinR R a b)⟩ ∧ LStep H H w (w.setCell ⟨H.pr i, rtN R a, none⟩ (.int .i64 (rtN R b : Int))) := by
  have o := (OnlyB.refl (H.pr i) w).set (rtN R a) (.int .i64 (rtN R b : Int))
  have hb3 := hb.set (rtN R a) (.int .i64 (rtN R b : Int))
  rw [ncells_set] at hb3
  exact ⟨h.setP (S' := ⟨S.each, S.ps.set i (nm, joinR R a b)⟩) hi (u.join ha hb2) hb3 o.block rfl rfl, h.stepP hi o.size o.os o.tape o.output o.block⟩
theorem pv_of {R : List Nat} {i : Nat} {nm : ByteArray} (h : ∀ pr q, slook (parC pr q S.ps) nm = some (.slice (some ⟨pr (q + i), 0, none⟩) 16 16)) : pvL H S nm = .slice (some ⟨H.pr i, 0, none⟩) 16 16 := by
  unfold pvL
  rw [h, Nat.zero_add]
  rfl
set_option maxRecDepth 8000 in
set_option maxHeartbeats 4000000 in
theorem join_any (h : LoV n0 w H S) {a b : Nat} (ha : a < 16) (hb : b < 16) (nm : ByteArray) : Calls Try.prog 26 #[H.ptr, .int .i64 (a : Int), .int .i64 (b : Int), .string nm] w fun e w' => (∃ u, e = .returned u) ∧ AddQ n0 w H (S.join a b nm) w' := by
  have c1 := h.c1
  have hlk : (Instr.lookup 53 (.map (some (H.mb 0))) (.string nm) false).run Try.prog w = .ok (pvL H S nm) w := h.pmap.look Try.underlying53 Try.underlying9 (Try.zeroValue80 w) nm
  have HV := hidIt h
  cases hl : alook S.ps nm with
  | some R =>
    obtain ⟨i, nm', h1, h2, h3⟩ := upd_at nm S.ps R hl
    have epv := pv_of (H := H) (R := R) h2
    have GR : Hid (∀ (W : World) (L : List Nat) (k : Nat), k < 16 → UF L R → Blk W (H.pr i) (ncells L).toArray 3 → Calls Try.prog 38 #[.slice (some ⟨H.pr i, 0, none⟩) 16 16, .int .i64 (k : Int)] W fun e w' => e = .returned (.int .i64 (rtN R k : Int)) ∧ ∃ L', UF L' R ∧ Blk w' (H.pr i) (ncells L').toArray 3 ∧ OnlyB (H.pr i) W w') := hidIt fun W L k hk u hB => root_any u hB hk
    obtain ⟨_, L, u, hB⟩ := h.prs i _ h1
    have U := hidIt u
    have HB := hidIt hB
    have hra := u.inR a
    simp only at hra
    have FIN : Hid (∀ (W : World) (L' : List Nat), OnlyB (H.pr i) w W → UF L' R → Blk W (H.pr i) (ncells L').toArray 3 → AddQ n0 w H (S.join a b nm) (W.setCell ⟨H.pr i, rtN R a, none⟩ (.int .i64 (rtN R b : Int)))) := hidIt fun W L' o u' hB' => by
      have hv := h.setP (S' := S) h1 u' hB' o.block (set_self h1) rfl
      obtain ⟨x, y⟩ := hv.joined h1 u' hB' ha hb
      refine ⟨H, ?_, (h.stepP h1 o.size o.os o.tape o.output o.block).trans y⟩
      unfold Ls.join Ls.with
      rw [hl]
      simp only []
      rw [h3]
      exact x
    rw [epv] at hlk
    have hq := eql_nilN w (some ⟨H.pr i, 0, none⟩) 16 16
    clear h hl h1 h2 h3 epv u hB
    unfold LB.ptr
    have hra' : (rtN R a : Int) < 16 := by omega
    generalize H.pr i = g at *
    go_enter Try.func26, Try.ntmps26
    go_wp2_with (first
      | (go_at_call 38; refine (GR.out _ L a ha U.out HB.out).mono ?_; rintro e w1 ⟨rfl, L1, u1, b1, o1⟩; have U1 := hidIt u1; have B1 := hidIt b1; have O1 := hidIt o1; clear HB U u1 b1 o1)
      | (go_at_call 38; refine (GR.out _ L1 b hb U1.out B1.out).mono ?_; rintro e w2 ⟨rfl, L2, u2, b2, o2⟩; have F := hidIt (FIN.out w2 L2 (O1.out.trans o2) u2 b2); obtain ⟨j2, hj2, _⟩ := u2.at hra; have hc2 := ncell b2 hj2; have hz2 := b2.frozen (rtN R a); clear u2 b2 o2 U1 B1 O1 hj2))
    go_end0
    exact ⟨⟨_, rfl⟩, F.out⟩
  | none =>
    have hpv : pvL H S nm = .slice none 0 0 := by
      unfold pvL
      rw [(parC_look H.pr nm S.ps 0).1 hl]
      rfl
    have hln : slook (parC H.pr 0 S.ps) nm = none := (parC_look H.pr nm S.ps 0).1 hl
    have hal := alook_snoc nm (List.range 16) S.ps hl
    obtain ⟨i, nm', h1, h2, h3⟩ := upd_at nm _ _ hal
    rw [hpv] at hlk
    have hq := eql_nilN w none 0 0
    obtain ⟨i0, hi0, hz0, hz1, hz2⟩ := info_parts Try.infoN
    obtain ⟨Z, hZ⟩ : ∃ Z : Array Value, Z = (ncells (fillN 0)).toArray := ⟨_, rfl⟩
    have m1 : (Instr.makeSlice 80 (.int .i64 16) (.int .i64 16)).run Try.prog w = .ok (.slice (some ⟨w.heap.size, 0, none⟩) 16 16) (w.alloc (.cells Z 3)) := by
      have := run_make_row (P := Try.prog) 80 3 i0 (.int .i64 0) Try.underlying80 hi0 hz0 hz1 rfl .i64 .i64 16 (by rw [hz2]; omega) (by omega) w
      rw [hZ, show (ncells (fillN 0)).toArray = madeCells #[.int .i64 0] 16 by
        apply Array.toList_inj.1
        rw [toList_madeCells_one]
        rfl]
      exact this
    have hin : i = S.ps.length := by
      have e1 := h2 (fun k => k) 0
      rw [parC_snoc, slook_snoc nm _ _ ((parC_look (fun k => k) nm S.ps 0).1 hl)] at e1
      simp at e1
      exact e1.symm
    have hB00 : Hid (Blk (w.alloc (.cells Z 3)) w.heap.size (ncells (fillN 0)).toArray 3) := hidIt (by rw [hZ]; exact Blk.new w _ _)
    clear hZ
    clear hpv
    unfold LB.ptr
    go_enter Try.func26, Try.ntmps26
    go_wp2_with fail
    clear m1 hq hlk
    have hB0 := hB00
    have hW0 := hidIt (balloc w (.cells Z 3))
    clear hB00
    generalize w.alloc (.cells Z 3) = w0 at *
    go_loopw [21] (fun jv wr => ∃ k : Nat, k ≤ 16 ∧ jv = .int .i64 (k : Int) ∧ Blk wr w.heap.size (ncells (fillN k)).toArray 3 ∧ Below w.heap.size w wr) (fun jv _ => 16 - (intOf jv).toNat)
    case atStart => exact ⟨0, by omega, rfl, hB0.out, hW0.out⟩
    case round =>
      clear hB0 hW0
      obtain ⟨k, hk, rfl, hB, hb2⟩ := hrel
      by_cases hlt : k < 16
      · have hlt' : (k : Int) < 16 := by omega
        have hB2 := hB.set k (.int .i64 (k : Int))
        rw [ncells_set, fillN_set hlt] at hB2
        have HB := hidIt hB2
        have HW := hidIt (hb2.setCell (p := ⟨w.heap.size, k, none⟩) (Nat.le_refl _) (.int .i64 (k : Int)))
        obtain ⟨x, hx⟩ := fillN_at k hlt
        have c2 := ncell hB hx
        have z2 := hB.frozen k
        clear hB hb2 hB2
        go_wp2_with fail
        exact ⟨⟨k + 1, by omega, by go_num, HB.out, HW.out⟩, by simp [intOf]; omega⟩
      · have hlt' : ¬ (k : Int) < 16 := by omega
        obtain rfl : k = 16 := by omega
        rw [fillN_all] at hB
        have hv := h.below hb2
        have c3 := hv.c1
        obtain ⟨es, clk, hput, IM⟩ := hv.pmap.put Try.underlying53 Try.underlying9 nm (.slice (some ⟨w.heap.size, 0, none⟩) 16 16) hln
        obtain ⟨hv2, hs2⟩ := h.newP nm hb2 (Nat.le_refl _) hB IM
        have hpi : (H.more w.heap.size).pr i = w.heap.size := by simp only [LB.more]; rw [if_pos (by rw [hin, h.np])]
        obtain ⟨_, L, u, hBL⟩ := hv2.prs i _ h1
        rw [hpi] at hBL
        have GR : Hid (∀ (W : World) (L : List Nat) (k : Nat), k < 16 → UF L (List.range 16) → Blk W w.heap.size (ncells L).toArray 3 → Calls Try.prog 38 #[.slice (some ⟨w.heap.size, 0, none⟩) 16 16, .int .i64 (k : Int)] W fun e w' => e = .returned (.int .i64 (rtN (List.range 16) k : Int)) ∧ ∃ L', UF L' (List.range 16) ∧ Blk w' w.heap.size (ncells L').toArray 3 ∧ OnlyB w.heap.size W w') := hidIt fun W L k hk u hB => root_any u hB hk
        have U := hidIt u
        have HB := hidIt hBL
        have hra := u.inR a
        simp only at hra
        have FIN : Hid (∀ (W : World) (L' : List Nat), OnlyB w.heap.size (setBlock wr (H.mb 0) (.map es clk)) W → UF L' (List.range 16) → Blk W w.heap.size (ncells L').toArray 3 → AddQ n0 w H (S.join a b nm) (W.setCell ⟨w.heap.size, rtN (List.range 16) a, none⟩ (.int .i64 (rtN (List.range 16) b : Int)))) := hidIt fun W L' o u' hB' => by
          have hv3 := hv2.setP (S' := ⟨S.each, S.ps ++ [(nm, List.range 16)]⟩) h1 u' (by rw [hpi]; exact hB') (by rw [hpi]; exact o.block) (set_self h1) rfl
          have hs3 := hv2.stepP h1 o.size o.os o.tape o.output (by rw [hpi]; exact o.block)
          obtain ⟨x, y⟩ := hv3.joined h1 u' (by rw [hpi]; exact hB') ha hb
          rw [hpi] at x y
          refine ⟨H.more w.heap.size, ?_, (hs2.trans hs3).trans y⟩
          unfold Ls.join Ls.with
          rw [hl]
          simp only []
          rw [h3]
          exact x
        clear h hv hv2 hs2 hl hln hal h1 h2 h3 hin u hBL hpi IM hB hb2 hi0 hz0 hz1 hz2 HV c1
        have hra' : (rtN (List.range 16) a : Int) < 16 := by omega
        generalize List.range 16 = R16 at *
        generalize hWm : setBlock wr (H.mb 0) (.map es clk) = Wm at *
        go_wp2_with (first
          | (go_at_call 38; refine (GR.out _ L a ha U.out HB.out).mono ?_; rintro e w1 ⟨rfl, L1, u1, b1, o1⟩; have U1 := hidIt u1; have B1 := hidIt b1; have O1 := hidIt o1; clear HB U u1 b1 o1)
          | (go_at_call 38; refine (GR.out _ L1 b hb U1.out B1.out).mono ?_; rintro e w2 ⟨rfl, L2, u2, b2, o2⟩; have F := hidIt (FIN.out w2 L2 (O1.out.trans o2) u2 b2); obtain ⟨j2, hj2, _⟩ := u2.at hra; have hc2 := ncell b2 hj2; have hz2 := b2.frozen (rtN R16 a); clear u2 b2 o2 U1 B1 O1 hj2))
        go_end0
        exact ⟨⟨_, rfl⟩, F.out⟩
def Ls.clash (S : Ls) (i j : Nat) (nm : ByteArray) : Bool := match S.told i nm, S.told j nm with
  | some x, some y => decide (x ≠ y)
  | _, _ => false
def Ls.agree (S : Ls) (a b : Int) (nm : ByteArray) : Ls × Int :=
  if S.hasB a && S.hasB b then (if S.clash a.toNat b.toNat nm then (S, 25) else (S.join a.toNat b.toNat nm, 0)) else (S, 1)
theorem AddQ.trans {w' w'' : World} {H' : LB} {S' : Ls} (s : LStep H H' w w') (h : AddQ n0 w' H' S' w'') : AddQ n0 w H S' w'' := by
  obtain ⟨H2, a, b⟩ := h
  exact ⟨H2, a, s.trans b⟩
set_option maxRecDepth 8000 in
set_option maxHeartbeats 4000000 in
theorem Agree_any (h : LoV n0 w H S) (a b : Int) (nm : ByteArray) : Calls Try.prog 10 #[H.ptr, .int .i64 a, .int .i64 b, .string nm] w fun e w' => e = .returned (.int .i64 (S.agree a b nm).2) ∧ AddQ n0 w H (S.agree a b nm).1 w' := by
  have G := hidIt (fun n => lhas_any h n)
  have HV := hidIt h
  have hf := h.few
  unfold Ls.agree
  cases ha : S.hasB a with
  | false =>
    simp only [Bool.false_and, Bool.false_eq_true, if_false]
    have ha' := ha
    clear h
    unfold LB.ptr at *
    go_enter Try.func10, Try.ntmps10
    go_wp2_with (go_at_call 24; refine (G.out _).mono ?_; rintro e w' ⟨rfl, hww⟩; cases hww)
    go_ret
    exact ⟨rfl, AddQ.same HV.out⟩
  | true =>
    cases hb : S.hasB b with
    | false =>
      simp only [Bool.and_false, Bool.false_eq_true, if_false]
      clear h
      unfold LB.ptr at *
      go_enter Try.func10, Try.ntmps10
      go_wp2_with (go_at_call 24; refine (G.out _).mono ?_; rintro e w' ⟨rfl, hww⟩; cases hww)
      go_ret
      exact ⟨rfl, AddQ.same HV.out⟩
    | true =>
      simp only [Bool.and_true, if_true]
      obtain ⟨i, x, rfl, hi, hx⟩ := has_lt ha
      obtain ⟨j, y, rfl, hj, hy⟩ := has_lt hb
      simp only [Int.toNat_natCast]
      have GT1 : Hid (∀ (W : World), LoV n0 W H S → Calls Try.prog 25 #[H.ptr, .int .i64 (i : Int), .string nm] W fun e w' => e = .returned (.tuple #[.int .i64 ((S.told i nm).getD 0), .bool (S.told i nm).isSome]) ∧ LoV n0 w' H S ∧ LStep H H W w') := hidIt fun W hW => told_any hW hi nm
      have GT2 : Hid (∀ (W : World), LoV n0 W H S → Calls Try.prog 25 #[H.ptr, .int .i64 (j : Int), .string nm] W fun e w' => e = .returned (.tuple #[.int .i64 ((S.told j nm).getD 0), .bool (S.told j nm).isSome]) ∧ LoV n0 w' H S ∧ LStep H H W w') := hidIt fun W hW => told_any hW hj nm
      have GJ : Hid (∀ (W : World), LoV n0 W H S → Calls Try.prog 26 #[H.ptr, .int .i64 (i : Int), .int .i64 (j : Int), .string nm] W fun e w' => (∃ u, e = .returned u) ∧ AddQ n0 W H (S.join i j nm) w') := hidIt fun W hW => join_any hW (by omega) (by omega) nm
      have FIN1 : Hid (∀ w' w'' : World, LStep H H w w' → AddQ n0 w' H (S.join i j nm) w'' → AddQ n0 w H (S.join i j nm) w'') := hidIt fun w' w'' s q => AddQ.trans s q
      have FIN2 : Hid (∀ w', LoV n0 w' H S → LStep H H w w' → AddQ n0 w H S w') := hidIt fun w' a b => ⟨H, a, b⟩
      have hcl : S.clash i j nm = ((S.told i nm).isSome && (S.told j nm).isSome && !decide ((S.told i nm).getD 0 = (S.told j nm).getD 0)) := by
        unfold Ls.clash
        cases S.told i nm <;> cases S.told j nm <;> simp
      rw [hcl]
      clear h hcl hx hy hi hj
      unfold LB.ptr at *
      generalize (S.told i nm).isSome = p at *
      generalize (S.told j nm).isSome = q at *
      generalize (S.told i nm).getD 0 = x1 at *
      generalize (S.told j nm).getD 0 = x2 at *
      generalize S.join i j nm = SJ at *
      by_cases he : x1 = x2
      · have hne : (x1 != x2) = false := by simp [he]
        rw [decide_eq_true he]
        cases p <;> cases q <;> simp only [Bool.and_false, Bool.false_and, Bool.not_true, Bool.false_eq_true, if_false] <;>
          (go_enter Try.func10, Try.ntmps10
           go_wp2_with (first
             | (go_at_call 24; refine (G.out _).mono ?_; rintro e w' ⟨rfl, hww⟩; cases hww)
             | (go_at_call 25; refine (GT1.out _ HV.out).mono ?_; rintro e w1 ⟨rfl, hv1, hs1⟩; have HV1 := hidIt hv1; have HS1 := hidIt hs1; clear hv1 hs1 HV)
             | (go_at_call 25; refine (GT2.out _ HV1.out).mono ?_; rintro e w2 ⟨rfl, hv2, hs2⟩; have HV2 := hidIt hv2; have HS2 := hidIt (HS1.out.trans hs2); clear hv2 hs2 HV1)
             | (go_at_call 26; refine (GJ.out _ HV2.out).mono ?_; rintro e w3 ⟨⟨u, rfl⟩, hq⟩; have HQ := hidIt (FIN1.out _ _ HS2.out hq); clear hq))
           go_ret
           exact ⟨rfl, HQ.out⟩)
      · have hne : (x1 != x2) = true := by simp [he]
        rw [decide_eq_false he]
        cases p <;> cases q <;> simp only [Bool.and_false, Bool.not_false, Bool.and_true, Bool.false_eq_true, if_false, if_true] <;>
          (go_enter Try.func10, Try.ntmps10
           go_wp2_with (first
             | (go_at_call 24; refine (G.out _).mono ?_; rintro e w' ⟨rfl, hww⟩; cases hww)
             | (go_at_call 25; refine (GT1.out _ HV.out).mono ?_; rintro e w1 ⟨rfl, hv1, hs1⟩; have HV1 := hidIt hv1; have HS1 := hidIt hs1; clear hv1 hs1 HV)
             | (go_at_call 25; refine (GT2.out _ HV1.out).mono ?_; rintro e w2 ⟨rfl, hv2, hs2⟩; have HV2 := hidIt hv2; have HS2 := hidIt (HS1.out.trans hs2); clear hv2 hs2 HV1)
             | (go_at_call 26; refine (GJ.out _ HV2.out).mono ?_; rintro e w3 ⟨⟨u, rfl⟩, hq⟩; have HQ := hidIt (FIN1.out _ _ HS2.out hq); clear hq))
           go_ret
           first | exact ⟨rfl, HQ.out⟩ | exact ⟨rfl, FIN2.out _ HV2.out HS2.out⟩)
end Go.Proofs.Ytacmooknfbjpeaa.J

