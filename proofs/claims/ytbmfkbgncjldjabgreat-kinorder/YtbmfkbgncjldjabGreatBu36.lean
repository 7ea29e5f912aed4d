/- Texts KOa KOb. -/
import Derived.Test.YtbmfkbgncjldjabGreatBu26
import Derived.Test.YtbmfkbgncjldjabGreatBu34
import Derived.Test.YtbmfkbgncjldjabGreatBu35
namespace Go.Proofs.YtbmfkbgncjldjabGreat.K
open Go.RowKit Q Q.D

theorem info33x : (Tryz.prog.info? 33).map (fun i => (i.zero, i.size, i.bytes)) = some (some (.agg #[.string ⟨#[]⟩, .string ⟨#[]⟩, .slice none 0 0, .slice none 0 0, .slice none 0 0]), 5, 104) := by kernel_rfl
theorem wpList_kappend {w : World} {ops : Array Oper} {rest : List Oper} {o : Oper} {a : Act} {Q : Exit → Act → World → Prop} (hgd : o.guard = none) (s x : Operand)
    (ho : o.op = .call { callee := .builtin .append, args := #[s, x], argTypes := #[22, 22] })
    (B : Nat) (v : Value) (n : Nat) (xs ys : List Value) (b m : Nat) (hs : a.eval s = v) (hx : a.eval x = .slice (some ⟨b, 0, none⟩) m m) (hown : w.ownsRow B 33 5 v n xs) (hg : w.heap[b]? = some (.cells ys.toArray 33 (0, 0)))
    (hy : ys.length = m * 5) (hone : ∀ u ∈ ys, u.oneCell' = true) (hm0 : 0 < m) (hm : m ≤ 10) (hlen : n ≤ 1000000) (hB : B ≤ w.heap.size)
    (h : ∀ v' w', w'.ownsRow B 33 5 v' (n + m) (xs ++ ys) → w.grownBy w' v.ownBlock → wpList Tryz.prog ops Q rest (a.put o.dst v') w') :
    wpList Tryz.prog ops Q (o :: rest) a w := by
  obtain ⟨i0, hi, hz0, hz1, hz2⟩ := info_parts info33x
  refine wpList_plain hgd fun K hK => ?_
  obtain ⟨v', w', hr, h2, h3, _, h4⟩ := run_append_own_at (P := Tryz.prog) w B 22 o.type 33 i0 _ 5 104 Tryz.underlying22 hi hz0 hz1 hz2 rfl (by decide) v n xs hown ⟨b, 0, none⟩ m m ys hy
    (fun j u hj => by
      have e : (⟨b, 0, none⟩ : Addr).add j = ⟨b, j, none⟩ := by unfold Addr.add; split <;> simp_all
      rw [e]
      exact M.cell_row hg j (by simpa using hj)) hone (by unfold maxLen; omega) (by omega) (by omega)
  unfold Oper.wp execOp
  simp only [ho, resolve, invoke, builtin, Sem.run_bind, Sem.run_pure, Result.andThen_ok, List.map_toArray, List.map_cons, List.map_nil, hs, hx, hr]
  exact hK _ _ (h v' w' h2 h3)
def ClsR (w : World) (r : List Value) (k : KD) : Prop := ClassV w (.agg r.toArray) k
def Maked (w : World) (r : Array Value) : Prop := ∃ b nm sup fs pool ms, M.CLies w b r nm sup fs pool ms ∧ nm.size ≤ 1000 ∧ sup.size ≤ 1000 ∧ (∀ f ∈ fs, f.1.size ≤ 1000 ∧ f.2.1.size ≤ 1000) ∧ fs.length ≤ 1000
def old (n0 : Nat) (b : Nat) : Bool := decide (b < n0)
def Asked (n0 : Nat) (w : World) (r : Array Value) : Prop := r.size = 5 ∧ (∀ u ∈ r.toList, u.oneCell' = true) ∧ ((∃ k, ClassV (seen (old n0) w) (.agg r) k) ∨ Maked w r)
def MoreQ (n0 : Nat) (w : World) (e : Ending) (w' : World) : Prop := ∃ (w1 : World) (v : Value) (rows : List (Array Value)), e = .returned v ∧ Below w.heap.size w w1 ∧ Below w1.heap.size w1 w' ∧ w'.ownsRow w1.heap.size 33 5 v rows.length (rows.flatMap Array.toList) ∧ rows.length ≤ 28 ∧ ∀ r ∈ rows, Asked n0 w1 r
theorem classV_cells {w : World} {r : Array Value} {k : KD} (h : ClassV w (.agg r) k) : r.size = 5 ∧ ∀ u ∈ r.toList, u.oneCell' = true := by
  obtain ⟨o1, c1, o2, c2, o3, c3, e, _⟩ := h
  cases e
  refine ⟨rfl, fun u hu => ?_⟩
  simp at hu
  rcases hu with rfl | rfl | rfl | rfl | rfl <;> rfl
theorem clies_cells {w : World} {b : Nat} {r : Array Value} {nm sup : ByteArray} {fs : List (ByteArray × ByteArray × Bool)} {pool : List M.CD} {ms : List (M.BK × M.SG)} (h : M.CLies w b r nm sup fs pool ms) : r.size = 5 ∧ ∀ u ∈ r.toList, u.oneCell' = true := by
  obtain ⟨vp, vf, vm, rfl, ⟨h1, _⟩, h2, rows, _, h4, _⟩ := h
  obtain ⟨_, _, rfl⟩ := M.own_slice h1
  obtain ⟨_, _, rfl⟩ := M.own_slice h4
  have hf : ∃ a n c, vf = .slice a n c := by
    rcases h2 with ⟨_, rfl⟩ | ⟨g, rfl, _⟩
    · exact ⟨_, _, _, rfl⟩
    · exact ⟨_, _, _, rfl⟩
  obtain ⟨_, _, _, rfl⟩ := hf
  refine ⟨rfl, fun u hu => ?_⟩
  simp at hu
  rcases hu with rfl | rfl | rfl | rfl | rfl <;> rfl
theorem old_ext {n0 : Nat} {w w' : World} (h : Below n0 w w') : Ext (seen (old n0) w) (seen (old n0) w') := seen_mono h.size (fun b _ hb => ⟨hb, h.block b (by simpa [old] using hb)⟩)
theorem four_rows {n0 : Nat} {w w' : World} {e : Ending} (h : M.ClassesQ w e w') : ∃ (g : Nat) (cA cB cT cC : Array Value), e = .returned (.slice (some ⟨g, 0, none⟩) 4 4) ∧ w.heap.size ≤ g ∧ w'.heap[g]? = some (.cells ([cA, cB, cT, cC].flatMap Array.toList).toArray 33 (0, 0)) ∧ Below w.heap.size w w' ∧ ∀ r ∈ [cA, cB, cT, cC], Asked n0 w' r := by
  obtain ⟨g, cA, cB, cT, cC, σa, ob, σt, σm, σc, _, he, hg, hb, hbl, h1, h2, h3, h4⟩ := h
  refine ⟨g, cA, cB, cT, cC, he, hg, ?_, hbl, fun r hr => ?_⟩
  · rw [hb]
    congr 2
    apply Array.toList_inj.1
    simp
  · have mk : ∀ {r nm sup fs pool ms}, M.CLies w' w.heap.size r nm sup fs pool ms → nm.size ≤ 1000 → sup.size ≤ 1000 → (∀ f ∈ fs, f.1.size ≤ 1000 ∧ f.2.1.size ≤ 1000) → fs.length ≤ 1000 → Asked n0 w' r := fun h a b c d => ⟨(clies_cells h).1, (clies_cells h).2, .inr ⟨_, _, _, _, _, _, h, a, b, c, d⟩⟩
    simp at hr
    rcases hr with rfl | rfl | rfl | rfl
    · exact mk h1 (by decide) (by decide) (by decide) (by decide)
    · exact mk h2 (by decide) (by decide) (by decide) (by decide)
    · exact mk h3 (by decide) (by decide) (by decide) (by decide)
    · exact mk h4 (by decide) (by decide) (by decide) (by decide)
theorem four_len {n0 : Nat} {w : World} {cA cB cT cC : Array Value} (h : ∀ r ∈ [cA, cB, cT, cC], Asked n0 w r) : ([cA, cB, cT, cC].flatMap Array.toList).length = 4 * 5 := by
  have h1 := (h cA (by simp)).1
  have h2 := (h cB (by simp)).1
  have h3 := (h cT (by simp)).1
  have h4 := (h cC (by simp)).1
  simp [h1, h2, h3, h4]
theorem four_one {n0 : Nat} {w : World} {rows : List (Array Value)} (h : ∀ r ∈ rows, Asked n0 w r) : ∀ u ∈ rows.flatMap Array.toList, u.oneCell' = true := by
  intro u hu
  obtain ⟨r, hr, hu⟩ := List.mem_flatMap.1 hu
  exact (h r hr).2.1 u hu
end Go.Proofs.YtbmfkbgncjldjabGreat.K
namespace Go.Proofs.YtbmfkbgncjldjabGreat.K
open Go.RowKit Q Q.D

theorem lat_class {X : Nat → Bool} {w : World} {ao : Option Addr} {c : Nat} {ks : List KD} (h : LAt 5 ClsR (seen X w) ao c ks) {i : Nat} {k : KD} (hk : ks[i]? = some k) :
    ∃ g off, ao = some ⟨g, off, none⟩ ∧ ∃ o1 c1 o2 c2 o3 c3, ClassV (seen X w) (.agg #[.string k.nm, .string k.sup, .slice o1 k.pool.length c1, .slice o2 k.fs.length c2, .slice o3 k.ms.length c3]) k ∧ w.cell? ⟨g, off + i * 5, none⟩ = some (.string k.nm) ∧ w.cell? ⟨g, off + i * 5 + 1, none⟩ = some (.string k.sup) ∧ w.cell? ⟨g, off + i * 5 + 2, none⟩ = some (.slice o1 k.pool.length c1) ∧ w.cell? ⟨g, off + i * 5 + 3, none⟩ = some (.slice o2 k.fs.length c2) ∧ w.cell? ⟨g, off + i * 5 + 4, none⟩ = some (.slice o3 k.ms.length c3) := by
  obtain ⟨_, _, rows, h3, h4⟩ := h
  have hlt := (List.getElem?_eq_some_iff.1 hk).1
  obtain ⟨g, off, rfl, _, hc⟩ := h3 (by omega)
  have h5 := h4 i k hk
  have h5' := h5
  obtain ⟨o1, c1, o2, c2, o3, c3, e, _⟩ := h5
  have er : rows i = [.string k.nm, .string k.sup, .slice o1 k.pool.length c1, .slice o2 k.fs.length c2, .slice o3 k.ms.length c3] := by
    simp only [Value.agg.injEq] at e
    have := congrArg Array.toList e
    simpa using this
  unfold ClsR at h5'
  rw [er] at h5'
  have cell : ∀ t u, (rows i)[t]? = some u → w.cell? ⟨g, off + i * 5 + t, none⟩ = some u := fun t u hu => (seen_cell.1 (hc i hlt t u hu)).2
  rw [er] at cell
  exact ⟨g, off, rfl, o1, c1, o2, c2, o3, c3, h5', cell 0 _ rfl, cell 1 _ rfl, cell 2 _ rfl, cell 3 _ rfl, cell 4 _ rfl⟩
set_option maxRecDepth 8000 in
set_option maxHeartbeats 8000000 in
theorem more_any (n0 : Nat) (ao : Option Addr) (c : Nat) (ks : List KD) (vr : Value) (rl : List Int) (w : World) (hn0 : n0 ≤ w.heap.size) (hl : LAt 5 ClsR (seen (old n0) w) ao c ks) (hr : M.NV w.heap.size w.heap.size w vr rl) :
    Calls Tryz.prog 6 #[.slice ao ks.length c, vr] w fun e w' => MoreQ n0 w e w' := by
  obtain ⟨aor, capr, rfl⟩ : ∃ ao cap, vr = .slice ao rl.length cap := by obtain ⟨ao, cap, e, _⟩ := hr; exact ⟨ao, cap, e⟩
  have HL := D.hidIt hl
  have HCL := D.hidIt ((M.classes_any _ rl w hr).mono (fun e w' h => four_rows (n0 := n0) h))
  clear hl hr
  by_cases h0 : rl.length = 0
  · have h0' : ¬ (0 : Int) < (rl.length : Int) := by omega
    clear HCL
    obtain ⟨w1, hw1⟩ : ∃ w1, w1 = w := ⟨w, rfl⟩
    have HBW : Hid (Below w.heap.size w w1) := by rw [hw1]; exact Below.refl _ _
    have HO0 : Hid (w.ownsRow w1.heap.size 33 5 (.slice none 0 0) 0 (([] : List (Array Value)).flatMap Array.toList)) := M.own_empty _ _ _ _
    have HA0 : Hid (∀ r ∈ ([] : List (Array Value)), Asked n0 w1 r) := fun r hr => by simp at hr
    have HB0 : Hid (Below w1.heap.size w1 w) := by rw [hw1]; exact Below.refl _ _
    clear hw1
    go_enter Tryz.func6, Tryz.ntmps6
    go_wp2_with fail
    go_loopw [5, 6] (fun vo i_ wr => ∃ (i : Nat) (rows : List (Array Value)), i_ = .int .i64 (i : Int) ∧ i ≤ ks.length ∧ i ≤ 24 ∧ rows.length ≤ 4 + i ∧ wr.ownsRow w1.heap.size 33 5 vo rows.length (rows.flatMap Array.toList) ∧ (∀ r ∈ rows, Asked n0 w1 r) ∧ Below w1.heap.size w1 wr) (fun _ i_ _ => 24 - (intOf i_).toNat)
    case atStart => exact ⟨0, [], rfl, Nat.zero_le _, Nat.zero_le _, by simp, HO0.out, HA0.out, HB0.out⟩
    case round =>
      clear HO0 HA0 HB0
      obtain ⟨i, rows, rfl, hi, hi24, hrl, hoo, hask, hbr⟩ := hrel
      obtain ⟨aoo, capo, rfl⟩ := M.own_slice hoo
      have HOO := D.hidIt hoo
      have HAS := D.hidIt hask
      have HBR := D.hidIt hbr
      clear hoo hask hbr
      by_cases hlt : i < ks.length
      · have hlt' : (i : Int) < (ks.length : Int) := by omega
        by_cases h24 : i < 24
        · have h24' : (i : Int) < 24 := by omega
          obtain ⟨k, hk⟩ : ∃ k, ks[i]? = some k := ⟨_, List.getElem?_eq_getElem hlt⟩
          obtain ⟨g, off, rfl, o1, c1, o2, c2, o3, c3, hcv, d0, d1, d2, d3, d4⟩ := lat_class HL.out hk
          have e0 := (HBW.out.cell (M.cell_lt d0)).trans d0
          have e1 := (HBW.out.cell (M.cell_lt d1)).trans d1
          have e2 := (HBW.out.cell (M.cell_lt d2)).trans d2
          have e3 := (HBW.out.cell (M.cell_lt d3)).trans d3
          have e4 := (HBW.out.cell (M.cell_lt d4)).trans d4
          have f0 := (HBR.out.cell (M.cell_lt e0)).trans e0
          have f1 := (HBR.out.cell (M.cell_lt e1)).trans e1
          have f2 := (HBR.out.cell (M.cell_lt e2)).trans e2
          have f3 := (HBR.out.cell (M.cell_lt e3)).trans e3
          have f4 := (HBR.out.cell (M.cell_lt e4)).trans e4
          have HCV := D.hidIt (ClassV.ext (old_ext (HBW.out.mono hn0)) hcv)
          have hcapL := HL.out.2.1
          have hcapM := HL.out.1
          unfold maxLen at hcapL
          clear d0 d1 d2 d3 d4 e0 e1 e2 e3 e4 hcv
          have hz1 := HBR.out.size
          have OWA := D.hidIt (M.own_same HOO.out (M.Same.of_below (M.below_alloc wr (.cells #[.string k.nm, .string k.sup, .slice o1 k.pool.length c1, .slice o2 k.fs.length c2, .slice o3 k.ms.length c3] 33))))
          go_wp2_with (at_builtin; refine wpList_kappend rfl _ _ rfl w1.heap.size (.slice aoo rows.length capo) rows.length (rows.flatMap Array.toList) #[.string k.nm, .string k.sup, .slice o1 k.pool.length c1, .slice o2 k.fs.length c2, .slice o3 k.ms.length c3].toList wr.heap.size 1 rfl rfl OWA.out (M.heap_new' rfl) rfl (M.one9 rfl) (by omega) (by omega) (by omega) (by simp; omega) ?_; intro v5 w5 ho5 hg5; obtain ⟨ao5, cap5, rfl⟩ := M.own_slice ho5; have HO5 := D.hidIt ho5; have HB5 := D.hidIt (M.hgrown HBR.out (M.below_alloc wr (.cells #[.string k.nm, .string k.sup, .slice o1 k.pool.length c1, .slice o2 k.fs.length c2, .slice o3 k.ms.length c3] 33)) hg5 (fun x hx => (OWA.out.lt x hx).1)); clear ho5 hg5)
          go_roundw
          case rel => exact ⟨i + 1, rows ++ [#[.string k.nm, .string k.sup, .slice o1 k.pool.length c1, .slice o2 k.fs.length c2, .slice o3 k.ms.length c3]], by go_num, by omega, by omega, by simp; omega, by rw [List.length_append, List.flatMap_append]; exact HO5.out, fun r hr => by
            rcases List.mem_append.1 hr with hr | hr
            · exact HAS.out r hr
            · simp at hr
              subst hr
              exact ⟨(classV_cells HCV.out).1, (classV_cells HCV.out).2, .inl ⟨k, HCV.out⟩⟩, HB5.out⟩
          case measure => simp [intOf]; omega
        · have h24' : ¬ (i : Int) < 24 := by omega
          go_wp2_with fail
          go_ret
          exact ⟨w1, _, rows, rfl, HBW.out, HBR.out, HOO.out, by omega, HAS.out⟩
      · have hlt' : ¬ (i : Int) < (ks.length : Int) := by omega
        go_wp2_with fail
        go_ret
        exact ⟨w1, _, rows, rfl, HBW.out, HBR.out, HOO.out, by omega, HAS.out⟩
  · have h0' : (0 : Int) < (rl.length : Int) := by omega
    go_enter Tryz.func6, Tryz.ntmps6
    go_wp2_with fail
    refine HCL.out.mono ?_
    rintro e w1 ⟨g4, cA, cB, cT, cC, rfl, hg4, hrow, hbw, hask⟩
    have HBW := D.hidIt hbw
    have HA0 := D.hidIt hask
    have HRW := D.hidIt hrow
    clear hbw hrow hg4
    go_upto_region 4 with (at_builtin; refine wpList_kappend rfl _ _ rfl w1.heap.size (.slice none 0 0) 0 [] ([cA, cB, cT, cC].flatMap Array.toList) g4 4 rfl rfl (M.own_empty _ _ _ _) HRW.out (four_len hask) (four_one hask) (by omega) (by omega) (by omega) (by omega) ?_; intro v5 w5 ho5 hg5; obtain ⟨ao5, cap5, rfl⟩ := M.own_slice ho5; have HO0 := D.hidIt ho5; have HB0 := D.hidIt (M.grown_none hg5); clear ho5 hg5)
    clear hask HRW
    rw [List.nil_append] at HO0
    go_wp2_with fail
    go_loopw [5, 6] (fun vo i_ wr => ∃ (i : Nat) (rows : List (Array Value)), i_ = .int .i64 (i : Int) ∧ i ≤ ks.length ∧ i ≤ 24 ∧ rows.length ≤ 4 + i ∧ wr.ownsRow w1.heap.size 33 5 vo rows.length (rows.flatMap Array.toList) ∧ (∀ r ∈ rows, Asked n0 w1 r) ∧ Below w1.heap.size w1 wr) (fun _ i_ _ => 24 - (intOf i_).toNat)
    case atStart => exact ⟨0, [cA, cB, cT, cC], rfl, Nat.zero_le _, Nat.zero_le _, by simp, HO0.out, HA0.out, HB0.out⟩
    case round =>
      clear HO0 HA0 HB0
      obtain ⟨i, rows, rfl, hi, hi24, hrl, hoo, hask, hbr⟩ := hrel
      obtain ⟨aoo, capo, rfl⟩ := M.own_slice hoo
      have HOO := D.hidIt hoo
      have HAS := D.hidIt hask
      have HBR := D.hidIt hbr
      clear hoo hask hbr
      by_cases hlt : i < ks.length
      · have hlt' : (i : Int) < (ks.length : Int) := by omega
        by_cases h24 : i < 24
        · have h24' : (i : Int) < 24 := by omega
          obtain ⟨k, hk⟩ : ∃ k, ks[i]? = some k := ⟨_, List.getElem?_eq_getElem hlt⟩
          obtain ⟨g, off, rfl, o1, c1, o2, c2, o3, c3, hcv, d0, d1, d2, d3, d4⟩ := lat_class HL.out hk
          have e0 := (HBW.out.cell (M.cell_lt d0)).trans d0
          have e1 := (HBW.out.cell (M.cell_lt d1)).trans d1
          have e2 := (HBW.out.cell (M.cell_lt d2)).trans d2
          have e3 := (HBW.out.cell (M.cell_lt d3)).trans d3
          have e4 := (HBW.out.cell (M.cell_lt d4)).trans d4
          have f0 := (HBR.out.cell (M.cell_lt e0)).trans e0
          have f1 := (HBR.out.cell (M.cell_lt e1)).trans e1
          have f2 := (HBR.out.cell (M.cell_lt e2)).trans e2
          have f3 := (HBR.out.cell (M.cell_lt e3)).trans e3
          have f4 := (HBR.out.cell (M.cell_lt e4)).trans e4
          have HCV := D.hidIt (ClassV.ext (old_ext (HBW.out.mono hn0)) hcv)
          have hcapL := HL.out.2.1
          have hcapM := HL.out.1
          unfold maxLen at hcapL
          clear d0 d1 d2 d3 d4 e0 e1 e2 e3 e4 hcv
          have hz1 := HBR.out.size
          have OWA := D.hidIt (M.own_same HOO.out (M.Same.of_below (M.below_alloc wr (.cells #[.string k.nm, .string k.sup, .slice o1 k.pool.length c1, .slice o2 k.fs.length c2, .slice o3 k.ms.length c3] 33))))
          go_wp2_with (at_builtin; refine wpList_kappend rfl _ _ rfl w1.heap.size (.slice aoo rows.length capo) rows.length (rows.flatMap Array.toList) #[.string k.nm, .string k.sup, .slice o1 k.pool.length c1, .slice o2 k.fs.length c2, .slice o3 k.ms.length c3].toList wr.heap.size 1 rfl rfl OWA.out (M.heap_new' rfl) rfl (M.one9 rfl) (by omega) (by omega) (by omega) (by simp; omega) ?_; intro v5 w5 ho5 hg5; obtain ⟨ao5, cap5, rfl⟩ := M.own_slice ho5; have HO5 := D.hidIt ho5; have HB5 := D.hidIt (M.hgrown HBR.out (M.below_alloc wr (.cells #[.string k.nm, .string k.sup, .slice o1 k.pool.length c1, .slice o2 k.fs.length c2, .slice o3 k.ms.length c3] 33)) hg5 (fun x hx => (OWA.out.lt x hx).1)); clear ho5 hg5)
          go_roundw
          case rel => exact ⟨i + 1, rows ++ [#[.string k.nm, .string k.sup, .slice o1 k.pool.length c1, .slice o2 k.fs.length c2, .slice o3 k.ms.length c3]], by go_num, by omega, by omega, by simp; omega, by rw [List.length_append, List.flatMap_append]; exact HO5.out, fun r hr => by
            rcases List.mem_append.1 hr with hr | hr
            · exact HAS.out r hr
            · simp at hr
              subst hr
              exact ⟨(classV_cells HCV.out).1, (classV_cells HCV.out).2, .inl ⟨k, HCV.out⟩⟩, HB5.out⟩
          case measure => simp [intOf]; omega
        · have h24' : ¬ (i : Int) < 24 := by omega
          go_wp2_with fail
          go_ret
          exact ⟨w1, _, rows, rfl, HBW.out, HBR.out, HOO.out, by omega, HAS.out⟩
      · have hlt' : ¬ (i : Int) < (ks.length : Int) := by omega
        go_wp2_with fail
        go_ret
        exact ⟨w1, _, rows, rfl, HBW.out, HBR.out, HOO.out, by omega, HAS.out⟩
end Go.Proofs.YtbmfkbgncjldjabGreat.K
