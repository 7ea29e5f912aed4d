/- sameField and alike of package collect: walked. -/
import Derived.Test.YtbdeflpjplhafaaXB
namespace Go.Proofs.Ytbdeflpjplhafaa.J
open Go.RowKit Go.MapKept Go.ChangeMaps
set_option linter.unusedVariables false

variable {n1 n2 : Nat} {w W : World} {H1 H2 : HB} {t1 t2 : Nat} {l1 l2 : List Ob} {s1 s2 : List (List Bool)} {ra rb : List Int} {pb m1 m2 k : Nat} {M left : List (Int × Int)} {x y : Int}
/-- A comparison that began at w; blocks F are not its own. -/
def LkS (w : World) (pb m1 m2 : Nat) (ha hb : Nat) (F : Nat → Prop) (M left : List (Int × Int)) (W : World) : Prop := ∃ lv, PV w.heap.size W pb m1 m2 ha hb M lv left ∧ Below w.heap.size w W ∧ left.length ≤ M.length ∧ ∀ b, F b → b < W.heap.size ∧ b ≠ pb ∧ b ≠ m1 ∧ b ≠ m2 ∧ lv.ownBlock ≠ some b
variable {F : Nat → Prop} {cur : Int × Int}
theorem LkS.below {ha hb : Nat} {W' : World} (h : LkS w pb m1 m2 ha hb F M left W) (hb' : Below W.heap.size W W') : LkS w pb m1 m2 ha hb F M left W' ∧ ∀ b, F b → W'.heap[b]? = W.heap[b]? := by
  obtain ⟨lv, a, b, c, d⟩ := h
  exact ⟨⟨lv, a.below hb', b.trans (hb'.mono b.size), c, fun k hk => ⟨Nat.lt_of_lt_of_le (d k hk).1 hb'.size, (d k hk).2⟩⟩, fun k hk => hb'.block k (d k hk).1⟩
theorem LkS.weak {ha hb : Nat} {F' : Nat → Prop} (h : LkS w pb m1 m2 ha hb F M left W) (hf : ∀ b, F' b → F b) : LkS w pb m1 m2 ha hb F' M left W := by
  obtain ⟨lv, a, b, c, d⟩ := h
  exact ⟨lv, a, b, c, fun k hk => d k (hf k hk)⟩
theorem LkS.bare {ha hb : Nat} (h : LkS w pb m1 m2 ha hb F M left W) : LkS w pb m1 m2 ha hb (fun _ => False) M left W := h.weak (fun _ h => h.elim)
/-- A new block is nobody's. -/
theorem LkS.fresh {ha hb : Nat} {W' : World} (h : LkS w pb m1 m2 ha hb F M left W) (hb' : Below W.heap.size W W') {b : Nat} (h1 : W.heap.size ≤ b) (h2 : b < W'.heap.size) : LkS w pb m1 m2 ha hb (fun c => c = b) M left W' := by
  obtain ⟨lv, a, c, d, e⟩ := h
  refine ⟨lv, a.below hb', c.trans (hb'.mono c.size), d, fun k hk => ?_⟩
  subst hk
  have := a.box.lt
  have := a.i1.lt
  have := a.i2.lt
  exact ⟨h2, by omega, by omega, by omega, fun eb => by have := (a.own.lt _ eb).2; omega⟩
theorem LkS.put {ha hb : Nat} (h : LkS w pb m1 m2 ha hb F M left W) (hm : M.length ≤ 100000) (x y : Int) : Calls Try.prog 37 #[.pointer (some ⟨pb, 0, none⟩), .int .i64 x, .int .i64 y] W fun e w' => e = .returned (.bool (putB M x y)) ∧ LkS w pb m1 m2 ha hb F (M ++ putN M x y) (left ++ putN M x y) w' ∧ ∀ b, F b → w'.heap[b]? = W.heap[b]? := by
  obtain ⟨lv, a, b, c, d⟩ := h
  exact (pput_any a x y (by omega)).mono fun e w' ⟨e1, lv', e2, e3, e4⟩ => ⟨e1, ⟨lv', e2, b.trans e3, by rw [List.length_append, List.length_append]; omega, fun k hk => by
    obtain ⟨d1, d2, d3, d4, d5⟩ := d k hk
    obtain ⟨f1, f2⟩ := e4 k d1 d2 d3 d4 d5
    refine ⟨?_, d2, d3, d4, f2⟩
    have h1 : W.heap[k]? = some W.heap[k] := Array.getElem?_eq_getElem d1
    rw [h1] at f1
    exact (Array.getElem?_eq_some_iff.1 f1).1⟩, fun k hk => (e4 k (d k hk).1 (d k hk).2.1 (d k hk).2.2.1 (d k hk).2.2.2.1 (d k hk).2.2.2.2).1⟩
/-- What sameField answers, and what it adds. -/
def fB (s1 : List (List Bool)) (l1 : List Ob) (s2 : List (List Bool)) (l2 : List Ob) (M : List (Int × Int)) (x y n : Int) : Bool := if refZ s1 l1 x n != refZ s2 l2 y n then false else if refZ s1 l1 x n then putB M (getZ l1 x n) (getZ l2 y n) else getZ l1 x n == getZ l2 y n
def fN (s1 : List (List Bool)) (l1 : List Ob) (s2 : List (List Bool)) (l2 : List Ob) (M : List (Int × Int)) (x y n : Int) : List (Int × Int) := if refZ s1 l1 x n != refZ s2 l2 y n then [] else if refZ s1 l1 x n then putN M (getZ l1 x n) (getZ l2 y n) else []
set_option maxRecDepth 8000 in
set_option maxHeartbeats 4000000 in
theorem same_field (h1 : HeapV n1 w H1 t1 l1 s1) (h2 : HeapV n2 w H2 t2 l2 s2) (hs : LkS w pb m1 m2 H1.hb H2.hb F M left W) (hm : M.length ≤ 100000) (n : Nat) (hx : hasZ l1 x (n : Int) = true) (hy : hasZ l2 y (n : Int) = true) :
    Calls Try.prog 63 #[.pointer (some ⟨pb, 0, none⟩), .agg #[.int .i64 x, .int .i64 y], .int .i64 (n : Int)] W fun e w' => e = .returned (.bool (fB s1 l1 s2 l2 M x y (n : Int))) ∧ LkS w pb m1 m2 H1.hb H2.hb F (M ++ fN s1 l1 s2 l2 M x y (n : Int)) (left ++ fN s1 l1 s2 l2 M x y (n : Int)) w' ∧ ∀ b, F b → w'.heap[b]? = W.heap[b]? := by
  have hbx := balloc W (.cells #[.int .i64 x, .int .i64 y] 82)
  have X0 := Blk.new W #[.int .i64 x, .int .i64 y] 82
  obtain ⟨V1, V2⟩ := hs.below hbx
  have V1' := V1
  obtain ⟨lv, pv, hwV, hll⟩ := V1
  have S1 : Hid (∀ X, Below (W.alloc (.cells #[.int .i64 x, .int .i64 y] 82)).heap.size (W.alloc (.cells #[.int .i64 x, .int .i64 y] 82)) X → LkS w pb m1 m2 H1.hb H2.hb F M left X ∧ ∀ b, F b → X.heap[b]? = W.heap[b]?) := hidIt (fun X hX => ⟨(V1'.below hX).1, fun b hb => ((V1'.below hX).2 b hb).trans (V2 b hb)⟩)
  have a0 := pv.c0
  have a1 := pv.c1
  have GI1 : Hid (∀ X, Below (W.alloc (.cells #[.int .i64 x, .int .i64 y] 82)).heap.size (W.alloc (.cells #[.int .i64 x, .int .i64 y] 82)) X → Calls Try.prog 49 #[.pointer (some ⟨H1.hb, 0, none⟩), .int .i64 x, .int .i64 (n : Int)] X fun e w' => e = .returned (.bool (refZ s1 l1 x (n : Int))) ∧ w' = X) := hidIt (fun X hX => IsRef_any (h1.below (hwV.trans (hX.mono hwV.size))) x (n : Int))
  have GI2 : Hid (∀ X, Below (W.alloc (.cells #[.int .i64 x, .int .i64 y] 82)).heap.size (W.alloc (.cells #[.int .i64 x, .int .i64 y] 82)) X → Calls Try.prog 49 #[.pointer (some ⟨H2.hb, 0, none⟩), .int .i64 y, .int .i64 (n : Int)] X fun e w' => e = .returned (.bool (refZ s2 l2 y (n : Int))) ∧ w' = X) := hidIt (fun X hX => IsRef_any (h2.below (hwV.trans (hX.mono hwV.size))) y (n : Int))
  have GG1 : Hid (∀ X, Below (W.alloc (.cells #[.int .i64 x, .int .i64 y] 82)).heap.size (W.alloc (.cells #[.int .i64 x, .int .i64 y] 82)) X → Calls Try.prog 67 #[.pointer (some ⟨H1.hb, 0, none⟩), .int .i64 x, .int .i64 (n : Int)] X fun e w' => e = .returned (.tuple #[.int .i64 (getZ l1 x (n : Int)), .int .i64 0]) ∧ Below X.heap.size X w') := hidIt (fun X hX => get_yes (h1.below (hwV.trans (hX.mono hwV.size))) x (n : Int) hx)
  have GG2 : Hid (∀ X, Below (W.alloc (.cells #[.int .i64 x, .int .i64 y] 82)).heap.size (W.alloc (.cells #[.int .i64 x, .int .i64 y] 82)) X → Calls Try.prog 67 #[.pointer (some ⟨H2.hb, 0, none⟩), .int .i64 y, .int .i64 (n : Int)] X fun e w' => e = .returned (.tuple #[.int .i64 (getZ l2 y (n : Int)), .int .i64 0]) ∧ Below X.heap.size X w') := hidIt (fun X hX => get_yes (h2.below (hwV.trans (hX.mono hwV.size))) y (n : Int) hy)
  have b0 : (W.alloc (.cells #[.int .i64 x, .int .i64 y] 82)).cell? ⟨W.heap.size, 0, none⟩ = some (.int .i64 x) := X0.cell 0
  have b1 : (W.alloc (.cells #[.int .i64 x, .int .i64 y] 82)).cell? ⟨W.heap.size, 1, none⟩ = some (.int .i64 y) := X0.cell 1
  unfold fB fN
  clear h1 h2 hs pv hbx X0 hll hx hy hwV V1' V2
  generalize getZ l1 x (n : Int) = g1 at *
  generalize getZ l2 y (n : Int) = g2 at *
  generalize refZ s1 l1 x (n : Int) = r1 at *
  generalize refZ s2 l2 y (n : Int) = r2 at *
  go_enter Try.func63, Try.ntmps63
  go_wp2_with fail
  generalize W.alloc (.cells #[.int .i64 x, .int .i64 y] 82) = V at *
  have BD : Hid (∀ q, Below V.heap.size V (V.drewN q)) := hidIt (fun q => below_drewQ V q)
  go_quiet ((go_at_call 49; exact Calls.quiet_of_same (GI1.out _ (BD.out _))))
  have B2 := hidIt (BD.out nq)
  have c0 : (V.drewN nq).cell? ⟨pb, 0, none⟩ = some (.pointer (some ⟨H1.hb, 0, none⟩)) := a0
  have c1 : (V.drewN nq).cell? ⟨pb, 1, none⟩ = some (.pointer (some ⟨H2.hb, 0, none⟩)) := a1
  have d0 : (V.drewN nq).cell? ⟨W.heap.size, 0, none⟩ = some (.int .i64 x) := b0
  have d1 : (V.drewN nq).cell? ⟨W.heap.size, 1, none⟩ = some (.int .i64 y) := b1
  clear BD
  generalize V.drewN nq = V2 at *
  have BD : Hid (∀ q, Below V.heap.size V (V2.drewN q)) := hidIt (fun q => below_drewN B2.out q)
  go_wp2_with fail
  go_quiet ((go_at_call 49; exact Calls.quiet_of_same (GI2.out _ (BD.out _))))
  have B3 := hidIt (BD.out nq)
  have e0 : (V2.drewN nq).cell? ⟨pb, 0, none⟩ = some (.pointer (some ⟨H1.hb, 0, none⟩)) := c0
  have e1 : (V2.drewN nq).cell? ⟨pb, 1, none⟩ = some (.pointer (some ⟨H2.hb, 0, none⟩)) := c1
  have f0 : (V2.drewN nq).cell? ⟨W.heap.size, 0, none⟩ = some (.int .i64 x) := d0
  have f1 : (V2.drewN nq).cell? ⟨W.heap.size, 1, none⟩ = some (.int .i64 y) := d1
  clear BD a0 a1 b0 b1 c0 c1 d0 d1 GI1 GI2 B2
  generalize V2.drewN nq = V3 at *
  clear V2
  have CS : Hid (∀ X, Below V3.heap.size V3 X → X.cell? ⟨pb, 0, none⟩ = some (.pointer (some ⟨H1.hb, 0, none⟩)) ∧ X.cell? ⟨pb, 1, none⟩ = some (.pointer (some ⟨H2.hb, 0, none⟩)) ∧ X.cell? ⟨W.heap.size, 0, none⟩ = some (.int .i64 x) ∧ X.cell? ⟨W.heap.size, 1, none⟩ = some (.int .i64 y)) := hidIt (fun X hX => ⟨cell_later hX e0, cell_later hX e1, cell_later hX f0, cell_later hX f1⟩)
  have G1 : Hid (∀ X, Below V3.heap.size V3 X → Calls Try.prog 67 #[.pointer (some ⟨H1.hb, 0, none⟩), .int .i64 x, .int .i64 (n : Int)] X fun e w' => e = .returned (.tuple #[.int .i64 g1, .int .i64 0]) ∧ Below V3.heap.size V3 w') := hidIt (fun X hX => (GG1.out X (B3.out.trans (hX.mono B3.out.size))).mono fun e w' ⟨a, b⟩ => ⟨a, hX.trans (b.mono hX.size)⟩)
  have G2 : Hid (∀ X, Below V3.heap.size V3 X → Calls Try.prog 67 #[.pointer (some ⟨H2.hb, 0, none⟩), .int .i64 y, .int .i64 (n : Int)] X fun e w' => e = .returned (.tuple #[.int .i64 g2, .int .i64 0]) ∧ Below X.heap.size X w') := hidIt (fun X hX => GG2.out X (B3.out.trans (hX.mono B3.out.size)))
  have ST : Hid (∀ X, Below V3.heap.size V3 X → LkS w pb m1 m2 H1.hb H2.hb F M left X ∧ ∀ b, F b → X.heap[b]? = W.heap[b]?) := hidIt (fun X hX => S1.out X (B3.out.trans (hX.mono B3.out.size)))
  have S0 := hidIt (CS.out V3 (Below.refl _ _))
  have ST0 := hidIt (ST.out V3 (Below.refl _ _))
  clear e0 e1 f0 f1 GG1 GG2 S1 B3
  cases r1 <;> cases r2
  case false.true =>
    go_wp2_with fail
    go_ret
    exact ⟨by simp, by simpa using ST0.out⟩
  case true.false =>
    go_wp2_with fail
    go_ret
    exact ⟨by simp, by simpa using ST0.out⟩
  all_goals
    have SB : Hid (∀ q, Below V3.heap.size V3 (V3.drewN q)) := hidIt (fun q => below_drewQ V3 q)
    obtain ⟨cs0, cs1, cs2, cs3⟩ := S0.out
    clear S0 ST0
    go_wp2_with fail
    go_region_held3 (fun X => X.cell? ⟨pb, 0, none⟩ = some (.pointer (some ⟨H1.hb, 0, none⟩)) ∧ X.cell? ⟨pb, 1, none⟩ = some (.pointer (some ⟨H2.hb, 0, none⟩)) ∧ X.cell? ⟨W.heap.size, 0, none⟩ = some (.int .i64 x) ∧ X.cell? ⟨W.heap.size, 1, none⟩ = some (.int .i64 y)) (first | exact ⟨cs0, cs1, cs2, cs3⟩ | exact CS.out _ (SB.out _) | exact CS.out _ (by assumption))
      (first | (go_at_call 67; refine (G1.out _ (by first | exact SB.out _ | assumption)).mono ?_; rintro e w6 ⟨rfl, hb6⟩))
    have hb6' := hidIt hb6
    have CS6 : Hid (∀ X, Below w6.heap.size w6 X → X.cell? ⟨pb, 0, none⟩ = some (.pointer (some ⟨H1.hb, 0, none⟩)) ∧ X.cell? ⟨pb, 1, none⟩ = some (.pointer (some ⟨H2.hb, 0, none⟩)) ∧ X.cell? ⟨W.heap.size, 0, none⟩ = some (.int .i64 x) ∧ X.cell? ⟨W.heap.size, 1, none⟩ = some (.int .i64 y)) := hidIt (fun X hX => CS.out X (hb6'.out.trans (hX.mono hb6'.out.size)))
    have G6 : Hid (∀ X, Below w6.heap.size w6 X → Calls Try.prog 67 #[.pointer (some ⟨H2.hb, 0, none⟩), .int .i64 y, .int .i64 (n : Int)] X fun e w' => e = .returned (.tuple #[.int .i64 g2, .int .i64 0]) ∧ Below w6.heap.size w6 w') := hidIt (fun X hX => (G2.out X (hb6'.out.trans (hX.mono hb6'.out.size))).mono fun e w' ⟨a, b⟩ => ⟨a, hX.trans (b.mono hX.size)⟩)
    have ST6 : Hid (∀ X, Below w6.heap.size w6 X → LkS w pb m1 m2 H1.hb H2.hb F M left X ∧ ∀ b, F b → X.heap[b]? = W.heap[b]?) := hidIt (fun X hX => ST.out X (hb6'.out.trans (hX.mono hb6'.out.size)))
    clear hb6 hb6' G1 G2 ST CS SB cs0 cs1 cs2 cs3
    have SB : Hid (∀ q, Below w6.heap.size w6 (w6.drewN q)) := hidIt (fun q => below_drewQ w6 q)
    obtain ⟨cs0, cs1, cs2, cs3⟩ := CS6.out w6 (Below.refl _ _)
    go_wp2_with fail
    go_region_held3 (fun X => X.cell? ⟨pb, 0, none⟩ = some (.pointer (some ⟨H1.hb, 0, none⟩)) ∧ X.cell? ⟨pb, 1, none⟩ = some (.pointer (some ⟨H2.hb, 0, none⟩)) ∧ X.cell? ⟨W.heap.size, 0, none⟩ = some (.int .i64 x) ∧ X.cell? ⟨W.heap.size, 1, none⟩ = some (.int .i64 y)) (first | exact ⟨cs0, cs1, cs2, cs3⟩ | exact CS6.out _ (SB.out _) | exact CS6.out _ (by assumption))
      (first | (go_at_call 67; refine (G6.out _ (by first | exact SB.out _ | assumption)).mono ?_; rintro e w7 ⟨rfl, hb7⟩))
    have ST7 := hidIt (ST6.out w7 hb7)
    have GP := hidIt (ST7.out.1.put hm g1 g2)
    clear hb7 G6 ST6 CS6 SB cs0 cs1 cs2 cs3
    go_wp2_with (go_at_call 37; refine GP.out.mono ?_; rintro e w8 ⟨rfl, hq, hf⟩; have HQ := hidIt (And.intro hq (fun b hb => (hf b hb).trans (ST7.out.2 b hb))); clear hq hf)
    go_ret
    first
      | exact ⟨by simp, by simpa using HQ.out⟩
      | exact ⟨by simp, by simpa using ST7.out⟩
theorem ref_in {ss : List (List Bool)} {l : List Ob} (hr : RefsOk ss l) {x : Int} {n : Nat} (hx : hasZ l x (n : Int) = true) (h : refZ ss l x (n : Int) = true) : getZ l x (n : Int) = 0 ∨ (objZ l (getZ l x (n : Int))).isSome = true := by
  obtain ⟨o, ho, _, hn⟩ := hasZ_some hx
  have hn' : n < o.f.length := by omega
  rw [refZ_rb ho hn'] at h
  have e : getZ l x (n : Int) = o.f[n] := by unfold getZ; rw [ho]; simp [hn']
  rw [e]
  exact hr _ o (objZ_at ho) n _ (List.getElem?_eq_getElem hn') h
theorem Pz.field_ok (h : Pz s1 l1 s2 l2 ra rb k cur M left) (r1 : RefsOk s1 l1) (r2 : RefsOk s2 l2) {n : Nat} (hx : hasZ l1 x (n : Int) = true) (hy : hasZ l2 y (n : Int) = true) (hm : (x, y) ∈ M) (hl : (n : Int) < lenZ l1 x) (hb : fB s1 l1 s2 l2 M x y (n : Int) = true) :
    Pz s1 l1 s2 l2 ra rb k cur (M ++ fN s1 l1 s2 l2 M x y (n : Int)) (left ++ fN s1 l1 s2 l2 M x y (n : Int)) ∧ fldOK s1 l1 s2 l2 (InM (M ++ fN s1 l1 s2 l2 M x y (n : Int))) x y n := by
  unfold fB at hb
  unfold fN
  by_cases e : (refZ s1 l1 x (n : Int) != refZ s2 l2 y (n : Int)) = true
  · rw [if_pos e] at hb; cases hb
  · rw [if_neg e] at hb ⊢
    have e' : refZ s1 l1 x (n : Int) = refZ s2 l2 y (n : Int) := by simpa using e
    by_cases e2 : refZ s1 l1 x (n : Int) = true
    · rw [if_pos e2] at hb ⊢
      obtain ⟨a, b⟩ := h.put_ok (ref_in r1 hx e2) (ref_in r2 hy (e' ▸ e2)) (fun {R} hR => by
        have := ((hR.al (h.fo hR _ hm)).2.2.2 n hl).2
        rwa [if_pos e2] at this) hb
      exact ⟨b, e', by rw [if_pos e2]; exact a⟩
    · rw [if_neg e2] at hb ⊢
      rw [List.append_nil, List.append_nil]
      exact ⟨h, e', by rw [if_neg e2]; simpa using hb⟩
theorem Pz.field_no (h : Pz s1 l1 s2 l2 ra rb k cur M left) {n : Nat} (hm : (x, y) ∈ M) (hl : (n : Int) < lenZ l1 x) (hb : fB s1 l1 s2 l2 M x y (n : Int) = false) {R : Int → Int → Prop} (hR : VR s1 l1 s2 l2 ra rb R) : False := by
  obtain ⟨f1, f2⟩ := (hR.al (h.fo hR _ hm)).2.2.2 n hl
  unfold fB at hb
  rw [if_neg (by simp [f1])] at hb
  by_cases e2 : refZ s1 l1 x (n : Int) = true
  · rw [if_pos e2] at hb f2
    exact h.put_no hb hR f2
  · rw [if_neg e2] at hb f2
    simp [f2] at hb
/-- What alike answers. -/
def AlkQ (s1 : List (List Bool)) (l1 : List Ob) (s2 : List (List Bool)) (l2 : List Ob) (ra rb : List Int) (k : Nat) (w : World) (pb m1 m2 ha hb : Nat) (M left : List (Int × Int)) (e : Ending) (w' : World) : Prop :=
  ∃ b N, e = .returned (.bool b) ∧ LkS w pb m1 m2 ha hb (fun _ => False) (M ++ N) (left ++ N) w' ∧ (b = true → Pz s1 l1 s2 l2 ra rb k (0, 0) (M ++ N) (left ++ N)) ∧ (b = false → ∀ R, ¬ VR s1 l1 s2 l2 ra rb R)
theorem AlkQ.no {ha hb : Nat} {N : List (Int × Int)} {w' : World} (h : LkS w pb m1 m2 ha hb F (M ++ N) (left ++ N) w') (hv : ∀ R, ¬ VR s1 l1 s2 l2 ra rb R) : AlkQ s1 l1 s2 l2 ra rb k w pb m1 m2 ha hb M left (.returned (.bool false)) w' := ⟨false, N, rfl, h.bare, fun h => (by cases h), fun _ => hv⟩
theorem AlkQ.yes {ha hb : Nat} {N : List (Int × Int)} {w' : World} (h : LkS w pb m1 m2 ha hb F (M ++ N) (left ++ N) w') (hv : Pz s1 l1 s2 l2 ra rb k (0, 0) (M ++ N) (left ++ N)) : AlkQ s1 l1 s2 l2 ra rb k w pb m1 m2 ha hb M left (.returned (.bool true)) w' := ⟨true, N, rfl, h.bare, fun _ => hv, fun h => (by cases h)⟩
set_option maxRecDepth 8000 in
set_option maxHeartbeats 40000000 in
theorem alike_any (h1 : HeapV n1 w H1 t1 l1 s1) (h2 : HeapV n2 w H2 t2 l2 s2) (r1 : RefsOk s1 l1) (r2 : RefsOk s2 l2) (hs : LkS w pb m1 m2 H1.hb H2.hb F M left W) (hz : Pz s1 l1 s2 l2 ra rb k (x, y) M left) (hm : (x, y) ∈ M) (hox : (objZ l1 x).isSome = true) (hoy : (objZ l2 y).isSome = true) :
    Calls Try.prog 38 #[.pointer (some ⟨pb, 0, none⟩), .agg #[.int .i64 x, .int .i64 y]] W fun e w' => AlkQ s1 l1 s2 l2 ra rb k w pb m1 m2 H1.hb H2.hb M left e w' := by
  have hu1 : usedN l1 ≤ 16384 := Nat.le_trans h1.few h1.most
  have hg1 := usedN_ge l1
  have hbx := balloc W (.cells #[.int .i64 x, .int .i64 y] 82)
  have X0 := Blk.new W #[.int .i64 x, .int .i64 y] 82
  have V1 := hs.fresh hbx (Nat.le_refl _) (by simp)
  have V1' := V1
  obtain ⟨lv, pv, hwV, hll, -⟩ := V1
  have a0 := pv.c0
  have a1 := pv.c1
  have GS1 : Hid (∀ X, Below (W.alloc (.cells #[.int .i64 x, .int .i64 y] 82)).heap.size (W.alloc (.cells #[.int .i64 x, .int .i64 y] 82)) X → Calls Try.prog 61 #[.pointer (some ⟨H1.hb, 0, none⟩), .int .i64 x] X fun e w' => e = .returned (.int .i64 (shpZ l1 x)) ∧ w' = X) := hidIt (fun X hX => ShapeOf_any (h1.below (hwV.trans (hX.mono hwV.size))) x)
  have GS2 : Hid (∀ X, Below (W.alloc (.cells #[.int .i64 x, .int .i64 y] 82)).heap.size (W.alloc (.cells #[.int .i64 x, .int .i64 y] 82)) X → Calls Try.prog 61 #[.pointer (some ⟨H2.hb, 0, none⟩), .int .i64 y] X fun e w' => e = .returned (.int .i64 (shpZ l2 y)) ∧ w' = X) := hidIt (fun X hX => ShapeOf_any (h2.below (hwV.trans (hX.mono hwV.size))) y)
  have GL1 : Hid (∀ X, Below (W.alloc (.cells #[.int .i64 x, .int .i64 y] 82)).heap.size (W.alloc (.cells #[.int .i64 x, .int .i64 y] 82)) X → Calls Try.prog 35 #[.pointer (some ⟨H1.hb, 0, none⟩), .int .i64 x] X fun e w' => e = .returned (.int .i64 (lenZ l1 x)) ∧ w' = X) := hidIt (fun X hX => Len_any (h1.below (hwV.trans (hX.mono hwV.size))) x)
  have GL2 : Hid (∀ X, Below (W.alloc (.cells #[.int .i64 x, .int .i64 y] 82)).heap.size (W.alloc (.cells #[.int .i64 x, .int .i64 y] 82)) X → Calls Try.prog 35 #[.pointer (some ⟨H2.hb, 0, none⟩), .int .i64 y] X fun e w' => e = .returned (.int .i64 (lenZ l2 y)) ∧ w' = X) := hidIt (fun X hX => Len_any (h2.below (hwV.trans (hX.mono hwV.size))) y)
  have GT1 : Hid (∀ X, Below (W.alloc (.cells #[.int .i64 x, .int .i64 y] 82)).heap.size (W.alloc (.cells #[.int .i64 x, .int .i64 y] 82)) X → Calls Try.prog 17 #[.pointer (some ⟨H1.hb, 0, none⟩), .int .i64 x] X fun e w' => e = .returned (.int .i64 (tagZ l1 x)) ∧ w' = X) := hidIt (fun X hX => Tag_any (h1.below (hwV.trans (hX.mono hwV.size))) x)
  have GT2 : Hid (∀ X, Below (W.alloc (.cells #[.int .i64 x, .int .i64 y] 82)).heap.size (W.alloc (.cells #[.int .i64 x, .int .i64 y] 82)) X → Calls Try.prog 17 #[.pointer (some ⟨H2.hb, 0, none⟩), .int .i64 y] X fun e w' => e = .returned (.int .i64 (tagZ l2 y)) ∧ w' = X) := hidIt (fun X hX => Tag_any (h2.below (hwV.trans (hX.mono hwV.size))) y)
  have GF : Hid (∀ X M' left', LkS w pb m1 m2 H1.hb H2.hb (fun c => c = W.heap.size) M' left' X → Pz s1 l1 s2 l2 ra rb k (x, y) M' left' → ∀ n : Nat, hasZ l1 x (n : Int) = true → hasZ l2 y (n : Int) = true → Calls Try.prog 63 #[.pointer (some ⟨pb, 0, none⟩), .agg #[.int .i64 x, .int .i64 y], .int .i64 (n : Int)] X fun e w' => e = .returned (.bool (fB s1 l1 s2 l2 M' x y (n : Int))) ∧ LkS w pb m1 m2 H1.hb H2.hb (fun c => c = W.heap.size) (M' ++ fN s1 l1 s2 l2 M' x y (n : Int)) (left' ++ fN s1 l1 s2 l2 M' x y (n : Int)) w' ∧ w'.heap[W.heap.size]? = X.heap[W.heap.size]?) := hidIt (fun X M' left' a b n c d => (same_field h1 h2 a (by have := b.few; omega) n c d).mono fun e w' ⟨e1, e2, e3⟩ => ⟨e1, e2, e3 _ rfl⟩)
  have b0 : (W.alloc (.cells #[.int .i64 x, .int .i64 y] 82)).cell? ⟨W.heap.size, 0, none⟩ = some (.int .i64 x) := X0.cell 0
  have b1 : (W.alloc (.cells #[.int .i64 x, .int .i64 y] 82)).cell? ⟨W.heap.size, 1, none⟩ = some (.int .i64 y) := X0.cell 1
  have NO : Hid (¬ (shpZ l1 x = shpZ l2 y ∧ lenZ l1 x = lenZ l2 y ∧ tagZ l1 x = tagZ l2 y) → ∀ R, ¬ VR s1 l1 s2 l2 ra rb R) := hidIt (fun h R hR => by
    obtain ⟨q1, q2, q3, _⟩ := hR.al (hz.fo hR _ hm)
    exact h ⟨q1, q2, q3⟩)
  have V2 := hidIt V1'
  have X1 := hidIt X0
  have HZ := hidIt hz
  have HM := hidIt hm
  obtain ⟨ox, hox'⟩ := Option.isSome_iff_exists.1 hox
  obtain ⟨oy, hoy'⟩ := Option.isSome_iff_exists.1 hoy
  have HAS : Hid (∀ n : Nat, (n : Int) < lenZ l1 x → lenZ l1 x = lenZ l2 y → hasZ l1 x (n : Int) = true ∧ hasZ l2 y (n : Int) = true) := hidIt (fun n hn he => ⟨by unfold hasZ; simp; omega, by unfold hasZ; simp; omega⟩)
  have hL0 : 0 ≤ lenZ l1 x ∧ lenZ l1 x ≤ 16384 := by
    unfold lenZ
    rw [hox']
    have := objZ_in hox'
    simp only
    omega
  have R1 := hidIt r1
  have R2 := hidIt r2
  clear h1 h2 hs pv hbx X0 hll hwV V1' hz hm hox hoy hox' hoy' r1 r2 ox oy
  obtain ⟨L, hL⟩ : ∃ L : Nat, lenZ l1 x = (L : Int) := ⟨(lenZ l1 x).toNat, by omega⟩
  rw [hL] at GL1 hL0 NO HAS
  generalize hsh1 : shpZ l1 x = sh1 at *
  generalize hsh2 : shpZ l2 y = sh2 at *
  generalize hln2 : lenZ l2 y = ln2 at *
  generalize htg1 : tagZ l1 x = tg1 at *
  generalize htg2 : tagZ l2 y = tg2 at *
  go_enter Try.func38, Try.ntmps38
  go_wp2_with fail
  generalize W.alloc (.cells #[.int .i64 x, .int .i64 y] 82) = V at *
  have BD : Hid (∀ q, Below V.heap.size V (V.drewN q)) := hidIt (fun q => below_drewQ V q)
  have SW : Hid (∀ q, LkS w pb m1 m2 H1.hb H2.hb (fun _ => False) (M ++ []) (left ++ []) (V.drewN q)) := hidIt (fun q => by
    rw [List.append_nil, List.append_nil]
    exact (V2.out.below (BD.out q)).1.bare)
  by_cases q1 : sh1 = sh2
  · subst q1
    by_cases q2 : (L : Int) = ln2
    · subst q2
      by_cases q3 : tg1 = tg2
      · subst q3
        go_quiet ((first
          | (go_at_call 61; first | with_reducible exact Calls.quiet_of_same (GS1.out _ (BD.out _)) | with_reducible exact Calls.quiet_of_same (GS2.out _ (BD.out _)))
          | (go_at_call 35; first | with_reducible exact Calls.quiet_of_same (GL1.out _ (BD.out _)) | with_reducible exact Calls.quiet_of_same (GL2.out _ (BD.out _)))
          | (go_at_call 17; first | with_reducible exact Calls.quiet_of_same (GT1.out _ (BD.out _)) | with_reducible exact Calls.quiet_of_same (GT2.out _ (BD.out _)))))
        have B2 := hidIt (BD.out nq)
        have SF : Hid (LkS w pb m1 m2 H1.hb H2.hb (fun c => c = W.heap.size) (M ++ []) (left ++ []) (V.drewN nq)) := hidIt (by
          rw [List.append_nil, List.append_nil]
          exact (V2.out.below (BD.out nq)).1)
        have c0 : (V.drewN nq).cell? ⟨pb, 0, none⟩ = some (.pointer (some ⟨H1.hb, 0, none⟩)) := a0
        have d0 : (V.drewN nq).cell? ⟨W.heap.size, 0, none⟩ = some (.int .i64 x) := b0
        have X2 : Hid (Blk (V.drewN nq) W.heap.size #[.int .i64 x, .int .i64 y] 82) := hidIt (X1.out.kept (B2.out.block _ X1.out.lt))
        clear BD SW a0 a1 b0 b1 GS1 GS2 GL2 GT1 GT2 NO V2
        generalize V.drewN nq = V3 at *
        have BD : Hid (∀ q, Below V.heap.size V (V3.drewN q)) := hidIt (fun q => below_drewN B2.out q)
        have B3 : Hid (∀ q, Below V3.heap.size V3 (V3.drewN q)) := hidIt (fun q => below_drewQ V3 q)
        go_wp2_with fail
        go_quiet ((go_at_call 35; with_reducible exact Calls.quiet_of_same (GL1.out _ (BD.out _))))
        have SF3 : Hid (LkS w pb m1 m2 H1.hb H2.hb (fun c => c = W.heap.size) (M ++ []) (left ++ []) (V3.drewN nq)) := hidIt (SF.out.below (B3.out nq)).1
        have X3 : Hid (Blk (V3.drewN nq) W.heap.size #[.int .i64 x, .int .i64 y] 82) := hidIt (X2.out.kept ((B3.out nq).block _ X2.out.lt))
        clear BD B3 B2 c0 d0 GL1 SF X2 X1
        generalize V3.drewN nq = V4 at *
        clear V3 V
        go_wp2_with fail
        go_loopw [62] (fun jv wr => ∃ (n : Nat) (N : List (Int × Int)), n ≤ L ∧ jv = .int .i64 (n : Int) ∧ LkS w pb m1 m2 H1.hb H2.hb (fun c => c = W.heap.size) (M ++ N) (left ++ N) wr ∧ Blk wr W.heap.size #[.int .i64 x, .int .i64 y] 82 ∧ Pz s1 l1 s2 l2 ra rb k (x, y) (M ++ N) (left ++ N) ∧ ∀ i : Nat, i < n → fldOK s1 l1 s2 l2 (InM (M ++ N)) x y i) (fun jv _ => L - (intOf jv).toNat)
        case atStart => exact ⟨0, [], Nat.zero_le _, rfl, SF3.out, X3.out, by rw [List.append_nil, List.append_nil]; exact HZ.out, fun i hi => absurd hi (by omega)⟩
        case round =>
          clear SF3 X3
          obtain ⟨n, N, hn, rfl, hs, hx, hz, hf⟩ := hrel
          have b0 : wr.cell? ⟨W.heap.size, 0, none⟩ = some (.int .i64 x) := hx.cell 0
          have b1 : wr.cell? ⟨W.heap.size, 1, none⟩ = some (.int .i64 y) := hx.cell 1
          have HN : Hid ((x, y) ∈ M ++ N) := hidIt (List.mem_append_left _ HM.out)
          by_cases hnl : n < L
          · have hnl' : (n : Int) < (L : Int) := by omega
            obtain ⟨ha1, ha2⟩ := HAS.out n hnl' trivial
            have GF2 := hidIt (GF.out wr _ _ hs hz n ha1 ha2)
            have HX := hidIt hx
            have HF := hidIt hf
            have HZ2 := hidIt hz
            have HS := hidIt hs
            cases hb : fB s1 l1 s2 l2 (M ++ N) x y (n : Int) with
            | true =>
              rw [hb] at GF2
              have NX : Hid (∀ w', LkS w pb m1 m2 H1.hb H2.hb (fun c => c = W.heap.size) ((M ++ N) ++ fN s1 l1 s2 l2 (M ++ N) x y (n : Int)) ((left ++ N) ++ fN s1 l1 s2 l2 (M ++ N) x y (n : Int)) w' → w'.heap[W.heap.size]? = wr.heap[W.heap.size]? → ∃ N', LkS w pb m1 m2 H1.hb H2.hb (fun c => c = W.heap.size) (M ++ N') (left ++ N') w' ∧ Blk w' W.heap.size #[.int .i64 x, .int .i64 y] 82 ∧ Pz s1 l1 s2 l2 ra rb k (x, y) (M ++ N') (left ++ N') ∧ ∀ i : Nat, i < n + 1 → fldOK s1 l1 s2 l2 (InM (M ++ N')) x y i) := hidIt (fun w' h1 h2 => by
                obtain ⟨p1, p2⟩ := HZ2.out.field_ok R1.out R2.out ha1 ha2 HN.out (by rw [hL]; exact hnl') hb
                rw [List.append_assoc, List.append_assoc] at h1 p1
                rw [List.append_assoc] at p2
                refine ⟨_, h1, HX.out.kept h2, p1, fun i hi => ?_⟩
                by_cases e : i = n
                · subst e; exact p2
                · refine (HF.out i (by omega)).mono fun a b hab => ?_
                  unfold InM at hab ⊢
                  rw [← List.append_assoc]
                  exact List.mem_append_left _ hab)
              clear GF HX HF HZ2 HS hs hx hz hf hb ha1 ha2
              go_wp2_with (go_at_call 63; refine GF2.out.mono ?_; rintro e w9 ⟨rfl, hq1, hq2⟩; have HQ := hidIt (NX.out w9 hq1 hq2); clear hq1 hq2)
              obtain ⟨N', g1, g2, g3, g4⟩ := HQ.out
              exact ⟨⟨n + 1, N', by omega, by go_num, g1, g2, g3, g4⟩, by simp [intOf]; omega⟩
            | false =>
              rw [hb] at GF2
              have NV : Hid (∀ R, ¬ VR s1 l1 s2 l2 ra rb R) := hidIt (fun R hR => HZ2.out.field_no HN.out (by rw [hL]; exact hnl') hb hR)
              clear GF HX HF HZ2 HS hs hx hz hf hb ha1 ha2
              go_wp2_with (go_at_call 63; refine GF2.out.mono ?_; rintro e w9 ⟨rfl, hq1, hq2⟩; have HQ := hidIt hq1; clear hq1 hq2)
              go_ret
              have HQ2 := HQ.out
              rw [List.append_assoc, List.append_assoc] at HQ2
              exact AlkQ.no HQ2 NV.out
          · have hnl' : ¬ (n : Int) < (L : Int) := by omega
            obtain rfl : n = L := by omega
            have FIN : Hid (LkS w pb m1 m2 H1.hb H2.hb (fun _ => False) (M ++ N) (left ++ N) wr ∧ Pz s1 l1 s2 l2 ra rb k (0, 0) (M ++ N) (left ++ N)) := hidIt ⟨hs.bare, hz.done ⟨hsh1.trans hsh2.symm, hL.trans hln2.symm, htg1.trans htg2.symm, fun i hi => hf i (by rw [hL] at hi; omega)⟩⟩
            clear GF hs hx hz hf
            go_wp2_with fail
            go_ret
            exact AlkQ.yes FIN.out.1 FIN.out.2
      · clear HAS R1 R2 HZ HM X1
        go_quiet ((first
          | (go_at_call 61; first | with_reducible exact Calls.quiet_of_same (GS1.out _ (BD.out _)) | with_reducible exact Calls.quiet_of_same (GS2.out _ (BD.out _)))
          | (go_at_call 35; first | with_reducible exact Calls.quiet_of_same (GL1.out _ (BD.out _)) | with_reducible exact Calls.quiet_of_same (GL2.out _ (BD.out _)))
          | (go_at_call 17; first | with_reducible exact Calls.quiet_of_same (GT1.out _ (BD.out _)) | with_reducible exact Calls.quiet_of_same (GT2.out _ (BD.out _)))))
        have SF := hidIt (SW.out nq)
        clear GS1 GS2 GL1 GL2 GT1 GT2 GF
        go_wp2_with fail
        go_ret
        exact AlkQ.no SF.out (NO.out (fun h => q3 h.2.2))
    · clear HAS R1 R2 HZ HM X1
      go_quiet ((first
        | (go_at_call 61; first | with_reducible exact Calls.quiet_of_same (GS1.out _ (BD.out _)) | with_reducible exact Calls.quiet_of_same (GS2.out _ (BD.out _)))
        | (go_at_call 35; first | with_reducible exact Calls.quiet_of_same (GL1.out _ (BD.out _)) | with_reducible exact Calls.quiet_of_same (GL2.out _ (BD.out _)))
        | (go_at_call 17; first | with_reducible exact Calls.quiet_of_same (GT1.out _ (BD.out _)) | with_reducible exact Calls.quiet_of_same (GT2.out _ (BD.out _)))))
      have SF := hidIt (SW.out nq)
      clear GS1 GS2 GL1 GL2 GT1 GT2 GF
      go_wp2_with fail
      go_ret
      exact AlkQ.no SF.out (NO.out (fun h => q2 h.2.1))
  · have NO2 := hidIt (NO.out (fun h => q1 h.1))
    have q1' : (sh1 != sh2) = true := by simp [q1]
    clear HAS R1 R2 HZ HM X1 NO q1 GF GL1 GL2 GT1 GT2
    go_quiet ((first
      | (go_at_call 61; first | with_reducible exact Calls.quiet_of_same (GS1.out _ (BD.out _)) | with_reducible exact Calls.quiet_of_same (GS2.out _ (BD.out _)))))
    have SF := hidIt (SW.out nq)
    clear GS1 GS2
    go_wp2_with fail
    go_ret
    exact AlkQ.no SF.out NO2.out
end Go.Proofs.Ytbdeflpjplhafaa.J
